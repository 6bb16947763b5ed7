/- Two texts with a stroke, or a blank, between them: what they mean, in lists. No condition. -/
import Derived.Test.YtaijhebjjbcdfaaGreatDoorSpSignM
namespace Go.Proofs.YtaijhebjjbcdfaaGreatDoor
set_option linter.unusedVariables false
open Go.ChangeShapes Go.WideShapes Go.ChangeAt Go.RowKit Go.Lib
theorem occ_app {a r sep : List UInt8} {j : Nat} (h : j + sep.length ≤ a.length) : occAt (a ++ r) sep j = occAt a sep j := by
  unfold occAt
  rw [List.drop_append_of_le_length (by omega), Bool.eq_iff_iff, List.isPrefixOf_iff_prefix, List.isPrefixOf_iff_prefix]
  constructor
  · intro hp
    exact List.prefix_of_prefix_length_le hp (List.prefix_append _ _) (by rw [List.length_drop]; omega)
  · intro hp
    exact hp.trans (List.prefix_append _ _)
theorem occ_at (a sep b : List UInt8) : occAt (a ++ sep ++ b) sep a.length = true := by
  unfold occAt
  rw [List.append_assoc, List.drop_left, List.isPrefixOf_iff_prefix]
  exact List.prefix_append _ _
theorem index_at {s sep : List UInt8} {i : Nat} (h : occAt s sep i = true) (hi : i ≤ s.length) (hn : ∀ j, j < i → occAt s sep j = false) : Lib.index s sep = i := by
  rcases Lib.index_spec s sep with ⟨h1, h2⟩ | ⟨k, h1, hk, h2, h3⟩
  · rw [h2 i hi] at h; cases h
  · rw [h1]
    rcases Nat.lt_trichotomy k i with c | c | c
    · rw [hn k c] at h2; cases h2
    · rw [c]
    · have := h3 i c
      rw [this] at h; cases h
/- cut apart: no place reaches over the border -/
theorem spl_app {sep : List UInt8} (hsep : sep ≠ []) (b : List UInt8) : ∀ (n : Nat) (a : List UInt8), a.length ≤ n → (∀ j, j < a.length → a.length < j + sep.length → occAt (a ++ sep ++ b) sep j = false) → Lib.split (a ++ sep ++ b) sep = Lib.split a sep ++ Lib.split b sep := by
  have hpos : 0 < sep.length := List.length_pos_iff.2 hsep
  intro n
  induction n with
  | zero =>
    intro a ha _
    have h0 : a = [] := List.eq_nil_of_length_eq_zero (by omega)
    subst h0
    have hi : Lib.index ([] ++ sep ++ b) sep = (0 : Nat) := index_at (occ_at [] sep b) (Nat.zero_le _) fun j hj => absurd hj (Nat.not_lt_zero _)
    rw [spl_hit hsep hi, spl_miss (s := []) (sep := sep)]
    · simp
    · rcases Lib.index_spec [] sep with ⟨h1, -⟩ | ⟨k, h1, hk, h2, -⟩
      · exact h1
      · have := Lib.index_room [] sep (by omega)
        simp at this
        omega
  | succ n ih =>
    intro a ha hb
    rcases Lib.index_spec a sep with ⟨h1, h2⟩ | ⟨i, h1, hi, h2, h3⟩
    · have hi : Lib.index (a ++ sep ++ b) sep = (a.length : Nat) := index_at (occ_at a sep b) (by rw [List.append_assoc, List.length_append]; omega) fun j hj => by
        by_cases hr : a.length < j + sep.length
        · exact hb j hj hr
        · rw [List.append_assoc, occ_app (by omega)]
          exact h2 j (by omega)
      rw [spl_hit hsep hi, spl_miss h1, List.append_assoc, List.take_left]
      have e : (a ++ (sep ++ b)).drop (a.length + sep.length) = b := by
        rw [← List.append_assoc]
        have : a.length + sep.length = (a ++ sep).length := by rw [List.length_append]
        rw [this, List.drop_left]
      rw [e]
      rfl
    · have hroom := Lib.index_room a sep (by omega)
      rw [h1] at hroom
      replace hroom : i + sep.length ≤ a.length := by omega
      have hi' : Lib.index (a ++ sep ++ b) sep = (i : Nat) := index_at (by rw [List.append_assoc, occ_app hroom]; exact h2) (by rw [List.append_assoc, List.length_append]; omega) fun j hj => by
        rw [List.append_assoc, occ_app (by omega)]
        exact h3 j hj
      have hd : (a ++ sep ++ b).drop (i + sep.length) = a.drop (i + sep.length) ++ sep ++ b := by
        rw [List.append_assoc, List.drop_append_of_le_length hroom, List.append_assoc]
      rw [spl_hit hsep hi', spl_hit hsep h1, hd, ih (a.drop (i + sep.length)) (by rw [List.length_drop]; omega) fun j hj hr => by
        have hx := hb (i + sep.length + j) (by rw [List.length_drop] at hj; omega) (by rw [List.length_drop] at hr; omega)
        unfold occAt at hx ⊢
        rw [← hd, List.drop_drop]
        exact hx]
      rw [List.append_assoc, List.take_append_of_le_length (by omega), List.cons_append]
theorem stepP_from (acc : List GapL) : ∀ (l : List (List UInt8)) (o : List GapL), l.foldl stepP (some (acc ++ o)) = (l.foldl stepP (some o)).map fun r => acc ++ r
  | [], o => rfl
  | t :: l, o => by
    rw [List.foldl_cons, List.foldl_cons]
    cases ht : termL t with
    | none =>
      have e1 : stepP (some (acc ++ o)) t = none := by simp [stepP, ht]
      have e2 : stepP (some o) t = none := by simp [stepP, ht]
      rw [e1, e2, stepP_none]
      rfl
    | some g =>
      have e1 : stepP (some (acc ++ o)) t = some (acc ++ (o ++ [g])) := by simp [stepP, ht]
      have e2 : stepP (some o) t = some (o ++ [g]) := by simp [stepP, ht]
      rw [e1, e2, stepP_from acc l (o ++ [g])]
theorem common_assoc (a b c : GapL) : commonG (commonG a b) c = commonG a (commonG b c) := by
  unfold commonG
  simp only [Prod.mk.injEq]
  omega
theorem stepT_from (g : GapL) : ∀ (l : List (List UInt8)) (h : GapL), l.foldl stepT (some (commonG g h)) = (l.foldl stepT (some h)).map (commonG g)
  | [], h => rfl
  | t :: l, h => by
    rw [List.foldl_cons, List.foldl_cons]
    cases ht : compL t with
    | none =>
      have e1 : stepT (some (commonG g h)) t = none := by simp [stepT, ht]
      have e2 : stepT (some h) t = none := by simp [stepT, ht]
      rw [e1, e2, stepT_none]
      rfl
    | some d =>
      have e1 : stepT (some (commonG g h)) t = some (commonG g (commonG h d)) := by simp [stepT, ht, common_assoc]
      have e2 : stepT (some h) t = some (commonG h d) := by simp [stepT, ht]
      rw [e1, e2, stepT_from g l (commonG h d)]
/- what ends with a stroke means nothing -/
theorem spl_last {sep : List UInt8} (hsep : sep ≠ []) (b : UInt8) : ∀ (n : Nat) (s : List UInt8), s.length ≤ n → (∀ p ∈ Lib.split s sep, p ≠ [] ∧ p.getLast? ≠ some b) → s ≠ [] ∧ s.getLast? ≠ some b := by
  have hpos : 0 < sep.length := List.length_pos_iff.2 hsep
  intro n
  induction n with
  | zero =>
    intro s hs h
    have h0 : s = [] := List.eq_nil_of_length_eq_zero (by omega)
    subst h0
    rcases Lib.index_spec [] sep with ⟨h1, -⟩ | ⟨k, h1, hk, h2, -⟩
    · exact h [] (by rw [spl_miss h1]; simp)
    · have := Lib.index_room [] sep (by omega)
      simp at this
      omega
  | succ n ih =>
    intro s hs h
    rcases Lib.index_spec s sep with ⟨h1, -⟩ | ⟨i, h1, hi, h2, -⟩
    · exact h s (by rw [spl_miss h1]; simp)
    · have hroom := Lib.index_room s sep (by omega)
      rw [h1] at hroom
      replace hroom : i + sep.length ≤ s.length := by omega
      obtain ⟨a1, a2⟩ := ih (s.drop (i + sep.length)) (by rw [List.length_drop]; omega) fun p hp => h p (by rw [spl_hit hsep h1]; exact List.mem_cons_of_mem _ hp)
      have e : s = s.take (i + sep.length) ++ s.drop (i + sep.length) := (List.take_append_drop _ _).symm
      refine ⟨fun x => a1 (by rw [x]; simp), fun x => a2 ?_⟩
      rw [e, List.getLast?_append] at x
      cases hq : (s.drop (i + sep.length)).getLast? with
      | none => exact absurd (List.getLast?_eq_none_iff.1 hq) a1
      | some z => rw [hq] at x; simpa using x
theorem foldT_all {l : List (List UInt8)} : ∀ {o : Option GapL} {g : GapL}, l.foldl stepT o = some g → ∀ t ∈ l, compL t ≠ none := by
  induction l with
  | nil => intro o g _ t ht; cases ht
  | cons a r ih =>
    intro o g h t ht
    rcases List.mem_cons.1 ht with rfl | ht
    · intro e
      rw [List.foldl_cons, show stepT o t = none by cases o <;> simp [stepT, e], stepT_none] at h
      cases h
    · exact ih h t ht
theorem foldP_all {l : List (List UInt8)} : ∀ {o : Option (List GapL)} {g : List GapL}, l.foldl stepP o = some g → ∀ t ∈ l, termL t ≠ none := by
  induction l with
  | nil => intro o g _ t ht; cases ht
  | cons a r ih =>
    intro o g h t ht
    rcases List.mem_cons.1 ht with rfl | ht
    · intro e
      rw [List.foldl_cons, show stepP o t = none by cases o <;> simp [stepP, e], stepP_none] at h
      cases h
    · exact ih h t ht
theorem comp_last {s : List UInt8} (h : compL s ≠ none) : s ≠ [] ∧ s.getLast? ≠ some 124 := by
  refine ⟨fun e => h (by rw [e]; decide +kernel), fun e => h ?_⟩
  unfold compL
  rw [if_neg (by rintro rfl; simp at e)]
  simp only
  split
  · rfl
  · rename_i hi
    cases hv : Ver.verL (s.drop (Lib.idxFunc digitR true (tx s)).toNat) with
    | none => rfl
    | some r =>
      obtain ⟨a, b, c⟩ := r
      exfalso
      obtain ⟨hd, -, -, -⟩ := Ver.verL_text hv
      obtain ⟨y, r, hy, -⟩ := dotL_head a b c
      have hl : (s.drop (Lib.idxFunc digitR true (tx s)).toNat).getLast? = some 124 := by
        have e2 : s = s.take (Lib.idxFunc digitR true (tx s)).toNat ++ s.drop (Lib.idxFunc digitR true (tx s)).toNat := (List.take_append_drop _ _).symm
        rw [e2, List.getLast?_append] at e
        cases hq : (s.drop (Lib.idxFunc digitR true (tx s)).toNat).getLast? with
        | none => rw [← hd, hy] at hq; simp at hq
        | some z => rw [hq] at e; simpa using e
      rw [← hd] at hl
      have := dotL_bytes a b c 124 (List.mem_of_getLast? hl)
      revert this
      decide
theorem gaps_last {s : List UInt8} {gs : List GapL} (h : gapsL s = some gs) : s.getLast? ≠ some 124 :=
  (spl_last (sep := barT) (by decide) 124 s.length s (Nat.le_refl _) fun p hp => by
    have h1 := foldP_all h p hp
    cases ht : termL p with
    | none => exact absurd ht h1
    | some g => exact spl_last (sep := [32]) (by decide) 124 p.length p (Nat.le_refl _) fun c hc => comp_last (foldT_all ht c hc)).2
/- two texts with a stroke between them -/
theorem gaps_bar {a b : List UInt8} {ga gb : List GapL} (ha : gapsL a = some ga) (hb : gapsL b = some gb) : gapsL (a ++ barT ++ b) = some (ga ++ gb) := by
  have hnl := gaps_last ha
  have hs := spl_app (sep := barT) (by decide) b a.length a (Nat.le_refl _) fun j hj hr => by
    have hr3 : a.length < j + 3 := hr
    cases ho : occAt (a ++ barT ++ b) barT j with
    | false => rfl
    | true =>
      exfalso
      unfold occAt at ho
      rw [List.isPrefixOf_iff_prefix] at ho
      obtain ⟨r, hr'⟩ := ho
      have h1 : (a ++ barT ++ b)[j + 1]? = some 124 := by
        have e : ((a ++ barT ++ b).drop j)[1]? = some 124 := by rw [← hr']; rfl
        rw [List.getElem?_drop] at e
        exact e
      rw [List.append_assoc] at h1
      by_cases hc : j + 1 < a.length
      · rw [List.getElem?_append_left hc] at h1
        apply hnl
        rw [List.getLast?_eq_getElem?, show a.length - 1 = j + 1 by omega]
        exact h1
      · rw [List.getElem?_append_right (by omega), show j + 1 - a.length = 0 by omega] at h1
        cases h1
  unfold gapsL at *
  rw [hs, List.foldl_append, ha]
  have := stepP_from ga (Lib.split b barT) []
  rw [List.append_nil] at this
  rw [this, hb]
  rfl
theorem spl_no {s sep : List UInt8} {b : UInt8} (h : ∀ x ∈ s, x ≠ b) (hb : b ∈ sep) : Lib.split s sep = [s] := by
  rcases Lib.index_spec s sep with ⟨h1, -⟩ | ⟨i, h1, hi, h2, -⟩
  · exact spl_miss h1
  · exfalso
    unfold occAt at h2
    rw [List.isPrefixOf_iff_prefix] at h2
    exact h b (List.mem_of_mem_drop (h2.subset hb)) rfl
theorem gaps_term {s : List UInt8} (h : ∀ x ∈ s, x ≠ 124) : gapsL s = (termL s).map fun g => [g] := by
  unfold gapsL
  rw [spl_no h (sep := barT) (by decide)]
  show stepP (some []) s = _
  unfold stepP
  simp only [Option.bind_some, List.nil_append]
/- two terms with a blank between them -/
theorem terms_blank {a b : List UInt8} {x y : GapL} (ha : termL a = some x) (hb : termL b = some y) : termL (a ++ [32] ++ b) = some (commonG x y) := by
  have hs := spl_app (sep := [32]) (by decide) b a.length a (Nat.le_refl _) fun j hj hr => by simp at hr; omega
  have hx := term_bd ha
  unfold termL at *
  rw [hs, List.foldl_append, ha]
  have := stepT_from x (Lib.split b [32]) (0, allG)
  rw [show commonG x (0, allG) = x by unfold commonG; unfold BdG at hx; ext <;> simp only <;> omega] at this
  rw [this, hb]
  rfl
end Go.Proofs.YtaijhebjjbcdfaaGreatDoor
