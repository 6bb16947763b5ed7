/- What CodeAlone says, of lists in Lean: an instruction that takes no place stands whatever the size. No condition. -/
import Derived.Test.YtdeikcmkfmnjmaaDoorCdFind
namespace Go.Proofs.YtdeikcmkfmnjmaaDoor
set_option linter.unusedVariables false
theorem stands_size {x : InsL} (h : takesF x.op ≠ 4) (m n : Int) : standsF x m = standsF x n := by
  unfold standsF
  simp only [h, if_false]
def bad0 (x : InsL) : Bool := !standsF x 0
theorem find_size (m : Int) : ∀ (ps : List InsL), (∀ y ∈ ps, takesF y.op ≠ 4) → ps.findIdx? (fun x => !standsF x m) = ps.findIdx? bad0
  | [], _ => rfl
  | x :: r, h => by
    rw [List.findIdx?_cons, List.findIdx?_cons, find_size m r fun y hy => h y (by simp [hy]), stands_size (h x (by simp)) m 0]
    rfl
theorem check_short {ps : List InsL} (h1 : ps.length ≠ 0) (h2 : ps.length ≤ 256) (hp : ∀ y ∈ ps, takesF y.op ≠ 4) : checkF ps = match ps.findIdx? bad0 with | none => ((0 : Int), (0 : Int)) | some k => ((k : Int), (30 : Int)) := by
  unfold checkF
  rw [if_neg (by omega), find_size _ ps hp]
  cases ps.findIdx? bad0 <;> rfl
theorem halt_good : bad0 ⟨1, 0, []⟩ = false := by kernel_rfl
theorem halt_takes : takesF 1 ≠ 4 := by decide
theorem alone_pair {x : InsL} (h : takesF x.op ≠ 4) : checkF [x, ⟨1, 0, []⟩] = if bad0 x = true then ((0 : Int), (30 : Int)) else ((0 : Int), (0 : Int)) := by
  rw [check_short (by simp) (by simp) (by intro y hy; simp at hy; rcases hy with rfl | rfl; exact h; exact halt_takes), List.findIdx?_cons, List.findIdx?_cons, halt_good]
  cases hb : bad0 x <;> simp
theorem alone_more {ps : List InsL} {x : InsL} {a : Nat} (hx : takesF x.op ≠ 4) (hp : ∀ y ∈ ps, takesF y.op ≠ 4) (ha : a ≤ ps.length) (hl : ps.length < 256) :
    checkF (ps.take a ++ [x] ++ ps.drop a) = match (ps.take a).findIdx? bad0 with
      | some k => ((k : Int), (30 : Int))
      | none => if bad0 x = true then ((a : Int), (30 : Int)) else match (ps.drop a).findIdx? bad0 with
        | some k => (((k + (a + 1) : Nat) : Int), (30 : Int))
        | none => ((0 : Int), (0 : Int)) := by
  have hlen : (ps.take a ++ [x] ++ ps.drop a).length = ps.length + 1 := by simp; omega
  have hta : (ps.take a).length = a := by rw [List.length_take]; omega
  rw [check_short (by omega) (by omega) (by
    intro y hy
    simp only [List.mem_append, List.mem_singleton] at hy
    rcases hy with (hy | rfl) | hy
    · exact hp y (List.mem_of_mem_take hy)
    · exact hx
    · exact hp y (List.mem_of_mem_drop hy)), List.findIdx?_append, List.findIdx?_append]
  cases h1 : (ps.take a).findIdx? bad0 with
  | some k => simp
  | none =>
    cases hb : bad0 x with
    | true => simp [List.findIdx?_cons, hb, hta]
    | false =>
      simp only [List.findIdx?_cons, hb, List.findIdx?_nil, Option.or, Option.map]
      cases h2 : (ps.drop a).findIdx? bad0 with
      | none => simp
      | some k => simp; omega
/- what is found ahead or behind is found in the whole -/
theorem find_parts {ps : List InsL} {a : Nat} : ps.findIdx? bad0 = none ↔ (ps.take a).findIdx? bad0 = none ∧ (ps.drop a).findIdx? bad0 = none := by
  have := List.findIdx?_append (xs := ps.take a) (ys := ps.drop a) (p := bad0)
  rw [List.take_append_drop] at this
  rw [this]
  cases (ps.take a).findIdx? bad0 <;> cases (ps.drop a).findIdx? bad0 <;> simp
theorem alone_all {ps : List InsL} {x : InsL} {a : Nat} (hx : takesF x.op ≠ 4) (hp : ∀ y ∈ ps, takesF y.op ≠ 4) (ha : a ≤ ps.length) (hl : ps.length < 256) :
    ((ps.length = 0 ∨ (checkF ps).2 = 0) → (checkF (ps.take a ++ [x] ++ ps.drop a)).2 = (checkF [x, ⟨1, 0, []⟩]).2 ∧ ((checkF [x, ⟨1, 0, []⟩]).2 = 0 ∨ (checkF (ps.take a ++ [x] ++ ps.drop a)).1 = (a : Int))) ∧
    (¬ (ps.length = 0 ∨ (checkF ps).2 = 0) → (checkF (ps.take a ++ [x] ++ ps.drop a)).2 = 30) := by
  have hall : (ps.length = 0 ∨ (checkF ps).2 = 0) ↔ ps.findIdx? bad0 = none := by
    by_cases h0 : ps.length = 0
    · have : ps = [] := List.eq_nil_of_length_eq_zero h0
      subst this
      simp
    · rw [check_short h0 (by omega) hp]
      cases ps.findIdx? bad0 <;> simp [h0]
  rw [hall, find_parts (a := a), alone_more hx hp ha hl, alone_pair hx]
  cases h1 : (ps.take a).findIdx? bad0 <;> cases h2 : (ps.drop a).findIdx? bad0 <;> cases hb : bad0 x <;> simp
/- what is left of it for the walk's tests -/
theorem alone_fin {k a : Nat} {cp cm ck : Int × Int} (h : ((k = 0 ∨ cp.2 = 0) → cm.2 = ck.2 ∧ (ck.2 = 0 ∨ cm.1 = (a : Int))) ∧ (¬ (k = 0 ∨ cp.2 = 0) → cm.2 = 30)) :
    (((k : Int) == 0) = true ∧ (cm.2 == ck.2) = true ∧ (ck.2 == 0) = true) ∨ (((k : Int) == 0) = true ∧ (cm.2 == ck.2) = true ∧ ((ck.2 == 0) = false ∧ (cm.1 == (a : Int)) = true)) ∨
    (((k : Int) == 0) = false ∧ (cp.2 == 0) = true ∧ (cm.2 == ck.2) = true ∧ (ck.2 == 0) = true) ∨ (((k : Int) == 0) = false ∧ (cp.2 == 0) = true ∧ (cm.2 == ck.2) = true ∧ ((ck.2 == 0) = false ∧ (cm.1 == (a : Int)) = true)) ∨
    (((k : Int) == 0) = false ∧ (cp.2 == 0) = false ∧ (cm.2 == 30) = true) := by
  obtain ⟨h1, h2⟩ := h
  simp only [beq_iff_eq, beq_eq_false_iff_ne, ne_eq]
  by_cases hk : k = 0
  · obtain ⟨a1, a2⟩ := h1 (.inl hk)
    by_cases hc : ck.2 = 0
    · exact .inl ⟨by omega, a1, hc⟩
    · exact .inr (.inl ⟨by omega, a1, hc, a2.resolve_left hc⟩)
  · have hk' : ¬ (k : Int) = 0 := by omega
    by_cases hp : cp.2 = 0
    · obtain ⟨a1, a2⟩ := h1 (.inr hp)
      by_cases hc : ck.2 = 0
      · exact .inr (.inr (.inl ⟨hk', hp, a1, hc⟩))
      · exact .inr (.inr (.inr (.inl ⟨hk', hp, a1, hc, a2.resolve_left hc⟩)))
    · exact .inr (.inr (.inr (.inr ⟨hk', hp, h2 (fun h => h.elim hk hp)⟩)))
end Go.Proofs.YtdeikcmkfmnjmaaDoor
