/- What is joined is found again: plain facts on lists of bytes. No condition. -/
import Derived.Test.YtaiiabhcbeblbaaDoorPathWalkG
namespace Go.Proofs.YtaiiabhcbeblbaaDoor
set_option linter.unusedVariables false
open Go.RowKit
theorem goodL_name {p : List UInt8} (h : nameL p = true) : goodL p = true := by
  have h' := nameL_iff.1 h
  refine goodL_iff.2 ⟨by omega, ?_, ?_⟩
  · rw [pcs_free (nameL_free h)]; intro q hq; simp at hq; subst hq; exact h
  · rw [pcs_free (nameL_free h)]; simp
theorem good_one {p : List UInt8} (h : goodL p = true) (hn : (47 : UInt8) ∉ p) : nameL p = true := (goodL_iff.1 h).2.1 p (by rw [pcs_free hn]; simp)
theorem place_good {d : List UInt8} (h : goodL d = true) : placeL d = true := by unfold placeL; rw [h]; simp
theorem place_nil : placeL [] = true := rfl
theorem glue_nil (s : List UInt8) : glue [] s = s := rfl
theorem glue_ne {d : List UInt8} (s : List UInt8) (h : d ≠ []) : glue d s = d ++ 47 :: s := by unfold glue; rw [if_neg h]
theorem good_ne {d : List UInt8} (h : goodL d = true) : d ≠ [] := fun e => by have := goodL_pos h; rw [e] at this; simp at this
theorem join_parts {d s r : List UInt8} (h : joinL d s = some r) : goodL s = true ∧ placeL d = true ∧ goodL r = true ∧ r = glue d s := by
  unfold joinL at h
  split at h
  · rename_i h3
    obtain ⟨a, b, c⟩ := h3
    simp only [Option.some.injEq] at h
    subst h
    exact ⟨a, b, c, rfl⟩
  · cases h
theorem join_under {d s r : List UInt8} (h : joinL d s = some r) : underL d r = some s := by
  obtain ⟨h1, h2, h3, rfl⟩ := join_parts h
  by_cases hd : d = []
  · subst hd; rw [glue_nil]; exact underL_empty h1 rfl
  · rw [glue_ne s hd] at h3 ⊢
    rw [underL_hit h3 h2 hd (pre_of rfl), ← List.drop_drop, List.drop_left]
    rfl
theorem base_join {a : List UInt8} (h : goodL a = true) : joinL (baseL a).1 (baseL a).2 = some a ∧ nameL (baseL a).2 = true := by
  rcases lastCut_spec 47 a with ⟨e, hn⟩ | ⟨d, n, e, ha, hn⟩
  · rw [baseL_one h hn]
    exact ⟨joinL_some h rfl h, good_one h hn⟩
  · rw [baseL_two h e]
    have hg := h
    rw [ha] at hg
    obtain ⟨g1, g2⟩ := good_glue hg
    have hd := good_ne g1
    refine ⟨?_, good_one g2 hn⟩
    show joinL d n = some a
    rw [joinL_some g2 (place_good g1) (by rw [glue_ne n hd]; exact hg), glue_ne n hd, ha]
theorem jn_append (c : UInt8) : ∀ {xs ys : List (List UInt8)}, xs ≠ [] → ys ≠ [] → jn c (xs ++ ys) = jn c xs ++ c :: jn c ys
  | [], _, h, _ => absurd rfl h
  | [p], ys, _, h => jn_cons c p h
  | p :: q :: r, ys, _, h => by
    rw [List.cons_append, jn_cons c p (by simp), jn_append c (xs := q :: r) (by simp) h, jn_cons c p (by simp)]
    simp
theorem take_ne {ps : List (List UInt8)} {k : Nat} (hk : 0 < k) (hp : 0 < ps.length) : ps.take k ≠ [] := fun e => by
  have := congrArg List.length e
  rw [List.length_take, List.length_nil] at this
  omega
theorem jn_take_le (c : UInt8) (ps : List (List UInt8)) (k : Nat) (h : 0 < k) : (jn c (ps.take k)).length ≤ (jn c ps).length := by
  by_cases hk : ps.length ≤ k
  · rw [List.take_of_length_le hk]; exact Nat.le_refl _
  · have e : ps = ps.take k ++ ps.drop k := (List.take_append_drop k ps).symm
    have h1 : ps.take k ≠ [] := take_ne h (by omega)
    have h2 : ps.drop k ≠ [] := fun e => by have := congrArg List.length e; simp at this; omega
    conv => rhs; rw [e, jn_append c h1 h2]
    simp
theorem take_good {a : List UInt8} (h : goodL a = true) (k : Nat) (hk : 0 < k) : goodL (jn 47 ((pcs 47 a).take k)) = true := by
  obtain ⟨h1, h2, h3⟩ := goodL_iff.1 h
  have hpos := pcs_pos 47 a
  have hne : (pcs 47 a).take k ≠ [] := take_ne hk hpos
  have hp : pcs 47 (jn 47 ((pcs 47 a).take k)) = (pcs 47 a).take k := pcs_jn hne fun p hp => pcs_in (List.mem_of_mem_take hp)
  refine goodL_iff.2 ⟨?_, ?_, ?_⟩
  · have := jn_take_le 47 (pcs 47 a) k hk
    rw [jn_pcs] at this
    omega
  · rw [hp]; intro p hq; exact h2 p (List.mem_of_mem_take hq)
  · rw [hp, List.length_take]; omega
theorem parts_join {a : List UInt8} (h : goodL a = true) (k : Nat) (hk : k < (pcs 47 a).length) : joinL (jn 47 ((pcs 47 a).take k)) (pcs 47 a)[k] = some (jn 47 ((pcs 47 a).take (k + 1))) := by
  have hn : nameL (pcs 47 a)[k] = true := (goodL_iff.1 h).2.1 _ (List.getElem_mem _)
  have hs : (pcs 47 a).take (k + 1) = (pcs 47 a).take k ++ [(pcs 47 a)[k]] := List.take_succ_eq_append_getElem hk
  by_cases h0 : k = 0
  · subst h0
    rw [hs]
    simp only [List.take_zero, List.nil_append]
    show joinL [] _ = some _
    rw [joinL_some (goodL_name hn) rfl (by rw [glue_nil]; exact goodL_name hn)]
    rfl
  · have hg := take_good h k (by omega)
    have hd := good_ne hg
    have hne : (pcs 47 a).take k ≠ [] := take_ne (by omega) (by omega)
    have he : jn 47 ((pcs 47 a).take (k + 1)) = glue (jn 47 ((pcs 47 a).take k)) (pcs 47 a)[k] := by
      rw [hs, jn_snoc 47 _ hne, glue_ne _ hd]
    rw [he]
    exact joinL_some (goodL_name hn) (place_good hg) (by rw [← he]; exact take_good h (k + 1) (by omega))
/- the places that a path stands under -/
theorem under_some {d s : List UInt8} (h : goodL s = true) : ((underL d s).isSome = true ↔ d = [] ∨ ∃ i, ∃ hi : i < s.length, s[i] = 47 ∧ d = s.take i) := by
  constructor
  · intro hx
    by_cases hd : d = []
    · exact .inl hd
    · refine .inr ?_
      cases hp : (d ++ [47]).isPrefixOf s with
      | false => rw [underL_miss hd hp] at hx; cases hx
      | true =>
        obtain ⟨r, rfl⟩ := pre_split hp
        exact ⟨d.length, by simp, by simp, by simp⟩
  · rintro (rfl | ⟨i, hi, h47, rfl⟩)
    · rw [underL_empty h rfl]; rfl
    · have hsp : s = s.take i ++ 47 :: s.drop (i + 1) := by rw [← h47, ← List.drop_eq_getElem_cons hi, List.take_append_drop]
      by_cases hd : s.take i = []
      · rw [hd, underL_empty h rfl]; rfl
      · have hg := h
        rw [hsp] at hg
        rw [underL_hit h (place_good (good_glue hg).1) hd (pre_of hsp)]; rfl
/- as many names, each of as many letters -/
def many (n m : Nat) : List UInt8 := jn 47 (List.replicate n (List.replicate m 110))
theorem many_one (m : Nat) : many 1 m = List.replicate m 110 := rfl
theorem many_succ (n m : Nat) (h : 1 ≤ n) : many (n + 1) m = many n m ++ 47 :: List.replicate m 110 := by
  unfold many
  rw [List.replicate_succ', jn_snoc 47 _ (fun e => by have := congrArg List.length e; simp at this; omega)]
theorem many_len (m : Nat) : ∀ n, 1 ≤ n → (many n m).length + 1 = n * m + n := by
  intro n hn
  induction n with
  | zero => omega
  | succ n ih =>
    by_cases h : n = 0
    · subst h; rw [many_one]; simp
    · have := ih (by omega)
      rw [many_succ n m (by omega), List.length_append, List.length_cons, List.length_replicate, Nat.succ_mul]
      omega
theorem rep_free (m : Nat) : (47 : UInt8) ∉ List.replicate m (110 : UInt8) := fun h => by
  have := (List.mem_replicate.1 h).2
  revert this; decide
theorem many_pcs (n m : Nat) (h : 1 ≤ n) : pcs 47 (many n m) = List.replicate n (List.replicate m 110) :=
  pcs_jn (fun e => by have := congrArg List.length e; simp at this; omega) fun p hp => by rw [(List.mem_replicate.1 hp).2]; exact rep_free m
theorem rep_name (m : Nat) (h : 1 ≤ m) : nameL (List.replicate m 110) = decide (m ≤ 32) := by
  have hall : (List.replicate m (110 : UInt8)).all okc = true := by
    rw [List.all_eq_true]
    intro b hb
    rw [(List.mem_replicate.1 hb).2]; decide
  have hh : ((List.replicate m (110 : UInt8)).head? == some 46) = false := by
    obtain ⟨k, rfl⟩ : ∃ k, m = k + 1 := ⟨m - 1, by omega⟩
    rfl
  unfold nameL
  rw [hall, hh, List.length_replicate]
  simp [h]
theorem many_good (n m : Nat) (h : 1 ≤ n) (h2 : 1 ≤ m) : goodL (many n m) = true ↔ (n ≤ 8 ∧ m ≤ 32 ∧ n * m + n ≤ 129) := by
  have hl := many_len m n h
  rw [goodL_iff, many_pcs n m h, List.length_replicate]
  constructor
  · rintro ⟨a, b, c⟩
    have := b (List.replicate m 110) (List.mem_replicate.2 ⟨by omega, rfl⟩)
    rw [rep_name m h2] at this
    exact ⟨c, by simpa using this, by omega⟩
  · rintro ⟨a, b, c⟩
    refine ⟨by omega, fun p hp => ?_, a⟩
    rw [(List.mem_replicate.1 hp).2, rep_name m h2]
    simpa using b
end Go.Proofs.YtaiiabhcbeblbaaDoor
