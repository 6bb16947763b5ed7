/- The contracts of the reader's list and node, and of Decode. Condition: at most 2^16 bytes where they are read; the library's variables. -/
import Derived.Test.YthehpmffkkogpaaGreatDoorRdKids
namespace Go.Proofs.YthehpmffkkogpaaGreatDoor
set_option linter.unusedVariables false
open Go.ChangeShapes Go.WideShapes Go.ChangeAt Go.RowKit
def listD (t : List UInt8) (d : Nat) : Except Int (Nd × List UInt8) := if 32 ≤ d then .error 4 else rdL (2 * t.length + 2) t (d + 1) []
def decN (s : List UInt8) (d : Nat) : Except Int (Nd × List UInt8) := rdN (2 * s.length + 1) s d
theorem decN_list {s : List UInt8} (h : s.head? = some 40) (d : Nat) : decN s d = listD s.tail d := by
  unfold decN listD
  rw [rdN, if_pos h]
  cases s with
  | nil => simp at h
  | cons x t =>
    simp only [List.tail_cons, List.length_cons]
    split
    · rfl
    · exact rdL_fuel _ _ _ _ _ (by omega) (by omega)
theorem decN_atom {s : List UInt8} (h : s.head? ≠ some 40) (d : Nat) : decN s d = atR s := by
  unfold decN atR
  rw [rdN, if_neg h]
  cases atomL s <;> rfl
theorem rdN_err : ∀ (f : Nat) (s : List UInt8) (d : Nat) (y : Int), rdN f s d = .error y → 0 < y ∧ y < 10 := by
  intro f
  induction f using Nat.strongRecOn with
  | _ f ih =>
    intro s d y h
    cases f with
    | zero => rw [rdN] at h; cases h; decide
    | succ f =>
      have hL : ∀ g, g ≤ f → ∀ s d acc y, rdL g s d acc = .error y → 0 < y ∧ y < 10 := by
        intro g
        induction g with
        | zero => intro _ s d acc y h; rw [rdL] at h; cases h; decide
        | succ g ihg =>
          intro hg s d acc y h
          rw [rdL] at h
          split at h
          · cases h
          · split at h
            · rename_i e he
              cases h
              exact ih g (by omega) _ _ _ he
            · exact ihg (by omega) _ _ _ _ h
      rw [rdN] at h
      split at h
      · split at h
        · cases h; decide
        · exact hL f (Nat.le_refl _) _ _ _ _ h
      · split at h
        · cases h; decide
        · cases h
def restLen (b : Nat) (w : World) : Nat := match w.cell? ⟨b, 0, none⟩ with
  | some (.string x) => x.size
  | _ => 0
theorem head_eq {s : List UInt8} {c : UInt8} (h : s.head? = some c) : (s.head? == some c) = true := by rw [h]; exact beq_self_eq_true _
theorem head_ne {s : List UInt8} {c : UInt8} (h : s.head? ≠ some c) : (s.head? == some c) = false := beq_eq_false_iff_ne.mpr h
theorem tail_of {s : List UInt8} {c : UInt8} (h : s.head? = some c) : s.length = s.tail.length + 1 := by
  cases s with
  | nil => simp at h
  | cons x t => rfl
theorem drop_one (s : List UInt8) : s.drop 1 = s.tail := by cases s <;> rfl
theorem pre_yes {s : List UInt8} {c : UInt8} (h : s.head? = some c) (w : World) : Calls Tryz.prog 83 #[.string (tx s), .string ⟨#[c]⟩] w fun e w' => e = .returned (.bool true) ∧ w' = w := by
  have := pre_any s c w
  rwa [head_eq h] at this
theorem pre_no {s : List UInt8} {c : UInt8} (h : s.head? ≠ some c) (w : World) : Calls Tryz.prog 83 #[.string (tx s), .string ⟨#[c]⟩] w fun e w' => e = .returned (.bool false) ∧ w' = w := by
  have := pre_any s c w
  rwa [head_ne h] at this
theorem NdV.shape {w : World} {S : Nat → Prop} {v : Value} {n : Nd} (h : NdV w S v n) : n.atom.size ≤ maxLen ∧ ∃ q len c kb ko, v = .agg #[.bool n.leaf, .string n.atom, .slice q len c] ∧ NdS w S (.slice q len c) n.kids kb ko := by
  obtain ⟨ha, s, kb, ko, e, hs⟩ := h
  have hs' := hs
  obtain ⟨⟨q, c, rfl, _⟩, _⟩ := hs
  exact ⟨ha, q, _, c, kb, ko, e, hs'⟩
theorem alloc_size (w : World) (o : Obj) : (w.alloc o).heap.size = w.heap.size + 1 := by
  show (w.heap.push _).size = _
  simp
/- the same value handed on by way of a box -/
end Go.Proofs.YthehpmffkkogpaaGreatDoor
