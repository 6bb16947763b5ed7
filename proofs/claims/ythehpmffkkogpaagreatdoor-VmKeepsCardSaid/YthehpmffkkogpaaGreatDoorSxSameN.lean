/- The contract of the document's Same. Condition: at most 2^20 nodes and bytes. -/
import Derived.Test.YthehpmffkkogpaaGreatDoorCdBackP
import Derived.StillTailTactics
namespace Go.Proofs.YthehpmffkkogpaaGreatDoor
set_option linter.unusedVariables false
open Go.ChangeShapes Go.WideShapes Go.ChangeAt Go.RowKit
mutual
def sameN : Nd → Nd → Bool
  | .mk l a ks, .mk l' a' ks' => (l == l') && (a.toList == a'.toList) && sameL ks ks'
def sameL : List Nd → List Nd → Bool
  | [], [] => true
  | k :: r, k' :: r' => sameN k k' && sameL r r'
  | _, _ => false
end
mutual
theorem sameN_iff (n m : Nd) : sameN n m = true ↔ n = m := by
  obtain ⟨l, a, ks⟩ := n
  obtain ⟨l', a', ks'⟩ := m
  rw [sameN]
  simp only [Bool.and_eq_true, beq_iff_eq, sameL_iff ks ks', Nd.mk.injEq, Lib.toList_data]
  constructor
  · rintro ⟨⟨h1, h2⟩, h3⟩
    exact ⟨h1, by rw [← mk_bytes a, ← mk_bytes a', h2], h3⟩
  · rintro ⟨h1, h2, h3⟩
    exact ⟨⟨h1, by rw [h2]⟩, h3⟩
theorem sameL_iff (ks js : List Nd) : sameL ks js = true ↔ ks = js := by
  match ks, js with
  | [], [] => simp [sameL]
  | k :: r, k' :: r' => rw [sameL]; simp only [Bool.and_eq_true, sameN_iff k k', sameL_iff r r', List.cons.injEq]
  | [], _ :: _ => simp [sameL]
  | _ :: _, [] => simp [sameL]
end
theorem sameL_len {ks js : List Nd} (h : ks.length ≠ js.length) : sameL ks js = false := by
  cases hx : sameL ks js with
  | false => rfl
  | true => exact absurd (congrArg List.length ((sameL_iff ks js).1 hx)) h
theorem sameL_drop {ks js : List Nd} {k : Nat} (h1 : k < ks.length) (h2 : k < js.length) : sameL (ks.drop k) (js.drop k) = (sameN ks[k] js[k] && sameL (ks.drop (k + 1)) (js.drop (k + 1))) := by
  rw [drop_get ks k h1, drop_get js k h2, sameL]
end Go.Proofs.YthehpmffkkogpaaGreatDoor
