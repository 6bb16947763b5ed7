/- The document's side in lists: ends, the pieces between them put together. No condition. -/
import Derived.Test.YtaijhebjjbcdfaaGreatDoorSpMath
namespace Go.Proofs.YtaijhebjjbcdfaaGreatDoor
set_option linter.unusedVariables false
def withL (l : List Int) (n : Int) : List Int := if n < 0 ∨ n > allG then l else l.filter (fun x => decide (x < n)) ++ [n] ++ l.filter (fun x => decide (x > n))
def endsL (gs : List GapL) : List Int := gs.foldl (fun o g => withL (withL o g.1) g.2) [0, allG]
structure EndsI (l : List Int) : Prop where
  up : l.Pairwise (· < ·)
  lo : l.head? = some 0
  hi : l.getLast? = some allG
  bd : ∀ x ∈ l, 0 ≤ x ∧ x ≤ allG
theorem mem_withL {l : List Int} {n x : Int} : x ∈ withL l n ↔ x ∈ l ∨ (x = n ∧ 0 ≤ n ∧ n ≤ allG) := by
  unfold withL
  split
  · rename_i h
    constructor
    · exact .inl
    · rintro (h1 | ⟨rfl, h2, h3⟩)
      · exact h1
      · omega
  · rename_i h
    simp only [List.mem_append, List.mem_filter, decide_eq_true_iff, List.mem_singleton]
    constructor
    · rintro ((h1 | h1) | h1)
      · exact .inl h1.1
      · exact .inr ⟨h1, by omega, by omega⟩
      · exact .inl h1.1
    · rintro (h1 | ⟨h1, _, _⟩)
      · rcases Int.lt_trichotomy x n with c | c | c
        · exact .inl (.inl ⟨h1, c⟩)
        · exact .inl (.inr c)
        · exact .inr ⟨h1, c⟩
      · exact .inl (.inr h1)
theorem withL_up {l : List Int} (h : l.Pairwise (· < ·)) (n : Int) : (withL l n).Pairwise (· < ·) := by
  unfold withL
  split
  · exact h
  · rw [List.append_assoc, List.pairwise_append]
    refine ⟨h.filter _, ?_, ?_⟩
    · rw [List.singleton_append, List.pairwise_cons]
      refine ⟨fun a ha => ?_, h.filter _⟩
      have := (List.mem_filter.1 ha).2
      simpa using this
    · intro a ha b hb
      have h1 := (List.mem_filter.1 ha).2
      simp only [decide_eq_true_iff] at h1
      rw [List.mem_append, List.mem_singleton] at hb
      rcases hb with hb | hb
      · omega
      · have := (List.mem_filter.1 hb).2
        simp only [decide_eq_true_iff] at this
        omega
theorem up_head {l : List Int} (h : l.Pairwise (· < ·)) (h0 : (0 : Int) ∈ l) (hb : ∀ x ∈ l, 0 ≤ x) : l.head? = some 0 := by
  cases l with
  | nil => cases h0
  | cons a r =>
    rcases List.mem_cons.1 h0 with e | e
    · rw [← e]; rfl
    · have := (List.pairwise_cons.1 h).1 0 e
      have := hb a (by simp)
      omega
theorem up_last {l : List Int} (h : l.Pairwise (· < ·)) (h0 : allG ∈ l) (hb : ∀ x ∈ l, x ≤ allG) : l.getLast? = some allG := by
  rcases List.eq_nil_or_concat l with rfl | ⟨r, a, rfl⟩
  · cases h0
  · rw [List.concat_eq_append] at *
    rw [List.getLast?_concat]
    rcases List.mem_append.1 h0 with e | e
    · have h1 := (List.pairwise_append.1 h).2.2 allG e a (by simp)
      have := hb a (by simp)
      omega
    · rw [List.mem_singleton] at e; rw [e]
theorem EndsI.put {l : List Int} (h : EndsI l) (n : Int) : EndsI (withL l n) := by
  have hu := withL_up h.up n
  have hbd : ∀ x ∈ withL l n, 0 ≤ x ∧ x ≤ allG := fun x hx => by
    rcases mem_withL.1 hx with h1 | ⟨rfl, h2, h3⟩
    · exact h.bd x h1
    · exact ⟨h2, h3⟩
  exact ⟨hu, up_head hu (mem_withL.2 (.inl (List.mem_of_mem_head? (by rw [h.lo]; rfl)))) fun x hx => (hbd x hx).1, up_last hu (mem_withL.2 (.inl (List.mem_of_getLast? h.hi))) fun x hx => (hbd x hx).2, hbd⟩
theorem withL_len (l : List Int) (h : l.Pairwise (· < ·)) (n : Int) : (withL l n).length ≤ l.length + 1 := by
  unfold withL
  split
  · omega
  · rw [List.length_append, List.length_append, List.length_singleton]
    have h1 : (l.filter fun x => decide (x < n)).length + (l.filter fun x => decide (x > n)).length ≤ l.length := by
      clear h
      induction l with
      | nil => simp
      | cons a r ih =>
        simp only [List.filter_cons]
        split <;> split <;> simp_all <;> omega
    omega
theorem ends_fold (gs : List GapL) : ∀ (l : List Int), EndsI l → EndsI (gs.foldl (fun o g => withL (withL o g.1) g.2) l) ∧ (gs.foldl (fun o g => withL (withL o g.1) g.2) l).length ≤ l.length + 2 * gs.length ∧ ∀ x, (x ∈ l ∨ ∃ g ∈ gs, (x = g.1 ∨ x = g.2) ∧ 0 ≤ x ∧ x ≤ allG) → x ∈ gs.foldl (fun o g => withL (withL o g.1) g.2) l := by
  induction gs with
  | nil => exact fun l h => ⟨h, by simp, fun x hx => by rcases hx with hx | ⟨g, hg, _⟩; exact hx; cases hg⟩
  | cons g r ih =>
    intro l h
    have h1 := h.put g.1
    have h2 := h1.put g.2
    obtain ⟨a, b, c⟩ := ih _ h2
    refine ⟨a, ?_, fun x hx => ?_⟩
    · have := withL_len _ h.up g.1
      have := withL_len _ h1.up g.2
      simp only [List.length_cons, List.foldl_cons]
      omega
    · apply c
      rcases hx with hx | ⟨y, hy, hx⟩
      · exact .inl (mem_withL.2 (.inl (mem_withL.2 (.inl hx))))
      · rcases List.mem_cons.1 hy with rfl | hy
        · rcases hx.1 with e | e
          · exact .inl (mem_withL.2 (.inl (mem_withL.2 (.inr ⟨e, by omega, by omega⟩))))
          · exact .inl (mem_withL.2 (.inr ⟨e, by omega, by omega⟩))
        · exact .inr ⟨y, hy, hx⟩
theorem ends_ok (gs : List GapL) : EndsI (endsL gs) ∧ (endsL gs).length ≤ 2 + 2 * gs.length ∧ ∀ g ∈ gs, ∀ x, (x = g.1 ∨ x = g.2) → 0 ≤ x → x ≤ allG → x ∈ endsL gs := by
  obtain ⟨a, b, c⟩ := ends_fold gs [0, allG] ⟨by simp [allG], rfl, rfl, fun x hx => by simp [allG] at hx ⊢; omega⟩
  exact ⟨a, b, fun g hg x hx h0 h1 => c x (.inr ⟨g, hg, hx, h0, h1⟩)⟩
def eAt (l : List Int) (i : Nat) : Int := l.getD i 0
theorem eAt_of {l : List Int} {i : Nat} (h : i < l.length) : eAt l i = l[i] := by unfold eAt; simp [h]
def rangeS (out : List GapL) (e e' : Int) (b : Bool) : List GapL :=
  if b then match out.getLast? with
    | some h => if h.2 = e then out.dropLast ++ [(h.1, e')] else out ++ [(e, e')]
    | none => out ++ [(e, e')]
  else out
def rangeK (ends : List Int) (is : Nat → Bool) : Nat → List GapL
  | 0 => []
  | i + 1 => rangeS (rangeK ends is i) (eAt ends i) (eAt ends (i + 1)) (is i)
theorem rangeK_len (ends : List Int) (is : Nat → Bool) : ∀ i, (rangeK ends is i).length ≤ i
  | 0 => Nat.le_refl _
  | i + 1 => by
    have := rangeK_len ends is i
    show (rangeS _ _ _ _).length ≤ _
    unfold rangeS
    split
    · split
      · rename_i h hh
        split
        · have hne : 0 < (rangeK ends is i).length := List.length_pos_iff.2 fun e => by rw [e] at hh; cases hh
          simp; omega
        · simp; omega
      · simp; omega
    · omega
structure RangeI (p : Int → Bool) (hi : Int) (out : List GapL) : Prop where
  chain : chainG (-1) out = true
  last : ∀ h, out.getLast? = some h → h.2 ≤ hi
  same : ∀ n, inG out n = (decide (0 ≤ n ∧ n < hi) && p n)
theorem range_step {p : Int → Bool} {e e' : Int} {out : List GapL} (h : RangeI p e out) (h0 : 0 ≤ e) (hlt : e < e') (h9 : e' ≤ allG) (hp : ∀ n, e ≤ n → n < e' → p n = p e) : RangeI p e' (rangeS out e e' (p e)) := by
  obtain ⟨h1, h2, h3⟩ := h
  unfold rangeS
  have key : ∀ n, (decide (0 ≤ n ∧ n < e') && p n) = ((decide (0 ≤ n ∧ n < e) && p n) || (p e && inOne (e, e') n)) := by
    intro n
    unfold inOne
    by_cases hn : e ≤ n ∧ n < e'
    · rw [hp n hn.1 hn.2, decide_eq_true (show 0 ≤ n ∧ n < e' by omega), decide_eq_false (show ¬ (0 ≤ n ∧ n < e) by omega), decide_eq_true (show (e, e').1 ≤ n ∧ n < (e, e').2 from hn)]
      simp
    · rw [decide_eq_false (show ¬ ((e, e').1 ≤ n ∧ n < (e, e').2) from hn), Bool.and_false, Bool.or_false]
      congr 1
      rw [Bool.eq_iff_iff, decide_eq_true_iff, decide_eq_true_iff]
      omega
  cases hpe : p e with
  | false =>
    rw [if_neg (by decide)]
    refine ⟨h1, fun x hx => by have := h2 x hx; omega, fun n => ?_⟩
    rw [key, h3, hpe]; simp
  | true =>
    rw [if_pos rfl]
    cases hl : out.getLast? with
    | none =>
      have hn : out = [] := List.getLast?_eq_none_iff.1 hl
      subst hn
      refine ⟨chain_cons.2 ⟨⟨by show -1 < e; omega, hlt, h9⟩, rfl⟩, fun x hx => by simp at hx; rw [← hx]; exact Int.le_refl _, fun n => ?_⟩
      rw [key, ← h3, hpe, Bool.true_and, List.nil_append]
      simp [inG]
    | some t =>
      obtain ⟨i, rfl⟩ : ∃ i, out = i ++ [t] := List.getLast?_eq_some_iff.1 hl
      have ht := h2 t hl
      have h1' := h1
      rw [chain_app] at h1
      obtain ⟨c1, c2⟩ := h1
      obtain ⟨⟨d1, d2, d3⟩, -⟩ := chain_cons.1 c2
      simp only [List.dropLast_concat]
      by_cases hc : t.2 = e
      · rw [if_pos hc]
        refine ⟨chain_app.2 ⟨c1, chain_cons.2 ⟨⟨d1, by show t.1 < e'; omega, h9⟩, rfl⟩⟩, fun x hx => by simp at hx; rw [← hx]; exact Int.le_refl _, fun n => ?_⟩
        rw [key, ← h3, hpe, Bool.true_and, inG_app, inG_app, Bool.or_assoc]
        congr 1
        rw [inG_cons, inG_cons]
        simp only [inG, List.any_nil, Bool.or_false]
        unfold inOne
        rw [Bool.eq_iff_iff, Bool.or_eq_true, decide_eq_true_iff, decide_eq_true_iff, decide_eq_true_iff]
        show (t.1 ≤ n ∧ n < e') ↔ (t.1 ≤ n ∧ n < t.2) ∨ (e ≤ n ∧ n < e')
        omega
      · rw [if_neg hc]
        refine ⟨chain_app.2 ⟨h1', ?_⟩, fun x hx => by simp at hx; rw [← hx]; exact Int.le_refl _, fun n => ?_⟩
        · rw [List.getLast?_concat]
          exact chain_cons.2 ⟨⟨by show t.2 < e; omega, hlt, h9⟩, rfl⟩
        · rw [key, ← h3, hpe, Bool.true_and, inG_app]
          simp [inG]
theorem ends_gap {l : List Int} (h : EndsI l) {i : Nat} (hi : i + 1 < l.length) : eAt l i < eAt l (i + 1) ∧ 0 ≤ eAt l i ∧ eAt l (i + 1) ≤ allG ∧ ∀ x ∈ l, x ≤ eAt l i ∨ eAt l (i + 1) ≤ x := by
  rw [eAt_of (by omega), eAt_of hi]
  have hp := List.pairwise_iff_getElem.1 h.up
  refine ⟨hp i (i + 1) (by omega) hi (by omega), (h.bd _ (List.getElem_mem _)).1, (h.bd _ (List.getElem_mem _)).2, fun x hx => ?_⟩
  obtain ⟨j, hj, rfl⟩ := List.getElem_of_mem hx
  rcases Nat.lt_trichotomy j i with c | c | c
  · have := hp j i hj (by omega) c; omega
  · subst c; omega
  · rcases Nat.lt_or_ge (i + 1) j with d | d
    · have := hp (i + 1) j hi hj d; omega
    · obtain rfl : j = i + 1 := by omega
      omega
theorem range_all {l : List Int} (h : EndsI l) (p : Int → Bool) (hp : ∀ i, i + 1 < l.length → ∀ n, eAt l i ≤ n → n < eAt l (i + 1) → p n = p (eAt l i)) : ∀ i, i + 1 ≤ l.length → RangeI p (eAt l i) (rangeK l (fun j => p (eAt l j)) i)
  | 0, h1 => by
    have e0 : eAt l 0 = 0 := by
      unfold eAt
      have := h.lo
      cases l with
      | nil => rfl
      | cons a r => simpa using this
    rw [e0]
    exact ⟨rfl, (fun x hx => by cases hx), fun n => by rw [decide_eq_false (by omega)]; rfl⟩
  | i + 1, h1 => by
    have ih := range_all h p hp i (by omega)
    obtain ⟨g1, g2, g3, g4⟩ := ends_gap h (i := i) (by omega)
    exact range_step ih g2 g1 g3 (hp i (by omega))
theorem range_ok {l : List Int} (h : EndsI l) (p : Int → Bool) (hp : ∀ i, i + 1 < l.length → ∀ n, eAt l i ≤ n → n < eAt l (i + 1) → p n = p (eAt l i)) :
    chainG (-1) (rangeK l (fun j => p (eAt l j)) (l.length - 1)) = true ∧ ∀ n, inG (rangeK l (fun j => p (eAt l j)) (l.length - 1)) n = (decide (0 ≤ n ∧ n < allG) && p n) := by
  have hne : 0 < l.length := List.length_pos_iff.2 fun e => by have := h.lo; rw [e] at this; cases this
  have r := range_all h p hp (l.length - 1) (by omega)
  have e : eAt l (l.length - 1) = allG := by
    rw [eAt_of (by omega)]
    have := h.hi
    rw [List.getLast?_eq_getElem?, List.getElem?_eq_getElem (by omega)] at this
    exact Option.some.inj this
  rw [e] at r
  exact ⟨r.chain, r.same⟩
theorem one_const {l : List Int} (h : EndsI l) {g : GapL} (hg : ∀ x, (x = g.1 ∨ x = g.2) → 0 ≤ x → x ≤ allG → x ∈ l) {i : Nat} (hi : i + 1 < l.length) {n : Int} (h1 : eAt l i ≤ n) (h2 : n < eAt l (i + 1)) : inOne g n = inOne g (eAt l i) := by
  obtain ⟨g1, g2, g3, g4⟩ := ends_gap h hi
  have a : g.1 ≤ n ↔ g.1 ≤ eAt l i := ⟨fun c => by
    rcases Int.lt_or_le (eAt l i) g.1 with d | d
    · rcases g4 _ (hg g.1 (.inl rfl) (by omega) (by omega)) with e | e <;> omega
    · exact d, fun c => by omega⟩
  have b : n < g.2 ↔ eAt l i < g.2 := ⟨fun c => by omega, fun c => by
    rcases Int.lt_or_le n g.2 with d | d
    · exact d
    · rcases g4 _ (hg g.2 (.inr rfl) (by omega) (by omega)) with e | e <;> omega⟩
  unfold inOne
  rw [Bool.eq_iff_iff, decide_eq_true_iff, decide_eq_true_iff, a, b]
theorem in_const {l : List Int} (h : EndsI l) {gs : List GapL} (hg : ∀ g ∈ gs, ∀ x, (x = g.1 ∨ x = g.2) → 0 ≤ x → x ≤ allG → x ∈ l) {i : Nat} (hi : i + 1 < l.length) {n : Int} (h1 : eAt l i ≤ n) (h2 : n < eAt l (i + 1)) : inG gs n = inG gs (eAt l i) := by
  induction gs with
  | nil => rfl
  | cons g r ih => rw [inG_cons, inG_cons, one_const h (hg g (by simp)) hi h1 h2, ih fun x hx => hg x (by simp [hx])]
end Go.Proofs.YtaijhebjjbcdfaaGreatDoor
