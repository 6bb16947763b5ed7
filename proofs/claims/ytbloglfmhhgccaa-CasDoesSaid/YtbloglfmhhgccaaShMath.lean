/- A shelf of texts by rising texts, in lists. No condition. -/
import Derived.Test.YtbloglfmhhgccaaOrdMath
namespace Go.Proofs.Ytbloglfmhhgccaa
set_option linter.unusedVariables false
open Go.ChangeShapes Go.WideShapes Go.ChangeAt Go.RowKit
/- the place of a key: what stands below stands ahead, and nothing else -/
def Place (ps : List FileL) (k : List UInt8) (i : Nat) : Prop := i ≤ ps.length ∧ (∀ t (h : t < ps.length), t < i → bl ps[t].1 k = true) ∧ ∀ t (h : t < ps.length), i ≤ t → bl ps[t].1 k = false
def foundAt (ps : List FileL) (k : List UInt8) (i : Nat) : Bool := decide ((ps[i]?).map (·.1) = some k)
def getS (ps : List FileL) (k : List UInt8) : List UInt8 × Bool := match ps.find? (fun x => decide (x.1 = k)) with
  | some x => (x.2, true)
  | none => ([], false)
theorem getS_mem {ps : List FileL} (h : Asc ps) {x : FileL} (hx : x ∈ ps) : getS ps x.1 = (x.2, true) := by
  unfold getS
  cases hf : ps.find? (fun y => decide (y.1 = x.1)) with
  | none => exact absurd (List.find?_eq_none.1 hf x hx) (by simp)
  | some y =>
    have hy := List.mem_of_find?_eq_some hf
    have hk : y.1 = x.1 := by have := List.find?_some hf; simpa using this
    have e : y = x := by
      obtain ⟨i, hi, rfl⟩ := List.getElem_of_mem hx
      obtain ⟨j, hj, rfl⟩ := List.getElem_of_mem hy
      have : j = i := by
        rcases Nat.lt_trichotomy j i with hl | hl | hl
        · have hp := List.pairwise_iff_getElem.1 h j i hj hi hl
          rw [hk, bl_irr] at hp; cases hp
        · exact hl
        · have hp := List.pairwise_iff_getElem.1 h i j hi hj hl
          rw [hk, bl_irr] at hp; cases hp
      subst this; rfl
    rw [e]
theorem getS_no {ps : List FileL} {k : List UInt8} (h : ∀ x ∈ ps, x.1 ≠ k) : getS ps k = ([], false) := by
  unfold getS
  rw [List.find?_eq_none.2 (fun x hx => by simpa using h x hx)]
theorem place_found {ps : List FileL} (ha : Asc ps) {k : List UInt8} {i : Nat} (h : Place ps k i) : foundAt ps k i = true ↔ ∃ x ∈ ps, x.1 = k := by
  unfold foundAt
  rw [decide_eq_true_eq]
  constructor
  · intro e
    cases hg : ps[i]? with
    | none => rw [hg] at e; cases e
    | some x =>
      rw [hg] at e
      exact ⟨x, List.mem_of_getElem? hg, Option.some.inj e⟩
  · rintro ⟨x, hx, rfl⟩
    obtain ⟨t, ht, rfl⟩ := List.getElem_of_mem hx
    have h1 : ¬ t < i := fun hlt => by have := h.2.1 t ht hlt; rw [bl_irr] at this; cases this
    have h2 : ¬ i < t := fun hlt => by
      have hp := List.pairwise_iff_getElem.1 ha i t (by omega) ht hlt
      have := h.2.2 i (by omega) (Nat.le_refl _)
      rw [hp] at this; cases this
    obtain rfl : i = t := by omega
    rw [List.getElem?_eq_getElem ht]; rfl
theorem place_get {ps : List FileL} (ha : Asc ps) {k : List UInt8} {i : Nat} (h : Place ps k i) : (foundAt ps k i = true ∧ ∃ hi : i < ps.length, ps[i].1 = k ∧ getS ps k = (ps[i].2, true)) ∨ (foundAt ps k i = false ∧ getS ps k = ([], false) ∧ ∀ x ∈ ps, x.1 ≠ k) := by
  cases hf : foundAt ps k i with
  | true =>
    left
    unfold foundAt at hf
    rw [decide_eq_true_eq] at hf
    cases hg : ps[i]? with
    | none => rw [hg] at hf; cases hf
    | some x =>
      rw [hg] at hf
      obtain ⟨hi, rfl⟩ := List.getElem?_eq_some_iff.1 hg
      have e : ps[i].1 = k := Option.some.inj hf
      exact ⟨rfl, hi, e, by rw [← e]; exact getS_mem ha (List.getElem_mem hi)⟩
  | false =>
    right
    have hno : ∀ x ∈ ps, x.1 ≠ k := fun x hx e => by
      have := (place_found ha h).2 ⟨x, hx, e⟩
      rw [hf] at this; cases this
    exact ⟨rfl, getS_no hno, hno⟩
/- a new pair at its place -/
def putI (ps : List FileL) (i : Nat) (x : FileL) : List FileL := ps.take i ++ x :: ps.drop i
theorem put_ins {ps : List FileL} {x : FileL} {i : Nat} (h : Place ps x.1 i) (hno : ∀ y ∈ ps, y.1 ≠ x.1) : putI ps i x = insF x ps := by
  unfold putI insF belowF aboveF
  have e : ps = ps.take i ++ ps.drop i := (List.take_append_drop i ps).symm
  have ht : ∀ y ∈ ps.take i, bl y.1 x.1 = true := fun y hy => by
    obtain ⟨t, ht, rfl⟩ := List.mem_take_iff_getElem.1 hy
    exact h.2.1 t (by omega) (by omega)
  have hd : ∀ y ∈ ps.drop i, bl y.1 x.1 = false := fun y hy => by
    obtain ⟨t, ht, rfl⟩ := List.mem_drop_iff_getElem.1 hy
    exact h.2.2 _ (by omega) (by omega)
  have hd2 : ∀ y ∈ ps.drop i, bl x.1 y.1 = true := fun y hy => by
    cases hc : bl x.1 y.1 with
    | true => rfl
    | false => exact absurd (bl_tri (hd y hy) hc) (hno y (List.mem_of_mem_drop hy))
  have e1 : ps.filter (fun g => bl g.1 x.1) = ps.take i := by
    conv => lhs; rw [e]
    rw [List.filter_append, List.filter_eq_self.2 ht, List.filter_eq_nil_iff.2 (fun y hy => by rw [hd y hy]; decide), List.append_nil]
  have e2 : ps.filter (fun g => bl x.1 g.1) = ps.drop i := by
    conv => lhs; rw [e]
    rw [List.filter_append, List.filter_eq_self.2 hd2, List.filter_eq_nil_iff.2 (fun y hy => by rw [bl_asymm (ht y hy)]; decide), List.nil_append]
  rw [e1, e2]
theorem put_asc {ps : List FileL} (ha : Asc ps) {x : FileL} {i : Nat} (h : Place ps x.1 i) (hno : ∀ y ∈ ps, y.1 ≠ x.1) : Asc (putI ps i x) ∧ (putI ps i x).Perm (x :: ps) := by
  rw [put_ins h hno]
  exact ⟨ins_asc ha x, ins_perm hno⟩
theorem put_len {ps : List FileL} {x : FileL} {i : Nat} (hi : i ≤ ps.length) : (putI ps i x).length = ps.length + 1 := by
  unfold putI
  rw [List.length_append, List.length_take, List.length_cons, List.length_drop]; omega
theorem put_flat {ps : List FileL} {x : FileL} {i : Nat} : flatP (putI ps i x) = (flatP ps).take (i * 2) ++ [.string (tx x.1), .string (tx x.2)] ++ (flatP ps).drop (i * 2) := by
  unfold putI
  rw [flatP_app, flatP, flatP_take, flatP_drop]
  simp
def cmpK (a b : List UInt8) : Int := if bl a b = true then -1 else if bl b a = true then 1 else 0
theorem cmpK_lt (a b : List UInt8) : decide (cmpK a b < 0) = bl a b := by
  unfold cmpK
  by_cases h : bl a b = true
  · rw [if_pos h, h]; rfl
  · rw [if_neg h]
    have h' : bl a b = false := by simpa using h
    rw [h']
    by_cases g : bl b a = true
    · rw [if_pos g]; rfl
    · rw [if_neg g]; rfl
theorem cmpK_eq (a b : List UInt8) : decide (cmpK a b = 0) = decide (a = b) := by
  unfold cmpK
  by_cases h : bl a b = true
  · rw [if_pos h]
    have : a ≠ b := fun e => by subst e; rw [bl_irr] at h; cases h
    rw [decide_eq_false this]; rfl
  · rw [if_neg h]
    by_cases g : bl b a = true
    · rw [if_pos g]
      have : a ≠ b := fun e => by subst e; rw [bl_irr] at g; cases g
      rw [decide_eq_false this]; rfl
    · rw [if_neg g]
      have : a = b := bl_tri (by simpa using h) (by simpa using g)
      rw [decide_eq_true this]; rfl
end Go.Proofs.Ytbloglfmhhgccaa
