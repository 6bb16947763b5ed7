/- How much a node has; how tall it is: the statements' own bound. Condition: none beyond the lengths' reach. -/
import Derived.Test.YthehpmffkkogpaaGreatDoorNdMem
import Derived.WalkSpells
namespace Go.Proofs.YthehpmffkkogpaaGreatDoor
set_option linter.unusedVariables false
open Go.ChangeShapes Go.WideShapes Go.ChangeAt Go.RowKit
mutual
def cntN : Nd → Int → Int
  | .mk _ a ks, l => cntL ks (l - 1 - (a.size : Int))
def cntL : List Nd → Int → Int
  | [], l => l
  | k :: r, l => if l < 0 then l else cntL r (cntN k l)
end
theorem cntL_neg (ks : List Nd) (l : Int) (h : l < 0) : cntL ks l = l := by
  cases ks with
  | nil => rfl
  | cons k r => rw [cntL, if_pos h]
mutual
theorem cntN_bound (n : Nd) (l : Int) (h0 : 0 ≤ l) (ha : ∀ m : Nat, True) : cntN n l ≤ l - 1 := by
  obtain ⟨x, a, ks⟩ := n
  rw [cntN]
  have := cntL_bound ks (l - 1 - (a.size : Int))
  omega
theorem cntL_bound (ks : List Nd) (l : Int) : cntL ks l ≤ l := by
  match ks with
  | [] => rw [cntL]; exact Int.le_refl _
  | k :: r =>
    rw [cntL]
    by_cases h : l < 0
    · rw [if_pos h]; exact Int.le_refl _
    · rw [if_neg h]
      have h1 := cntN_bound k l (by omega) (fun _ => trivial)
      have h2 := cntL_bound r (cntN k l)
      omega
end
theorem drop_get (ks : List Nd) (k : Nat) (h : k < ks.length) : ks.drop k = ks[k] :: ks.drop (k + 1) := List.drop_eq_getElem_cons h
end Go.Proofs.YthehpmffkkogpaaGreatDoor
