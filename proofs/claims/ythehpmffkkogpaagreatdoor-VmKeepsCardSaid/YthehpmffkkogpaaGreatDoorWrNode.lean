/- The contracts of the writer's node and list: what the document's Put says. Condition: at most 2^20 nodes and bytes; the library's variables. -/
import Derived.Test.YthehpmffkkogpaaGreatDoorWrPiece
import Derived.Test.YthehpmffkkogpaaGreatDoorLwLib
namespace Go.Proofs.YthehpmffkkogpaaGreatDoor
set_option linter.unusedVariables false
open Go.ChangeShapes Go.WideShapes Go.ChangeAt Go.RowKit
theorem room_err {b : List UInt8} {y : Int} (h : room b = .error y) : y = 3 := by
  unfold room at h
  split at h
  · cases h; rfl
  · cases h
mutual
theorem putN_err (n : Nd) (d : Nat) (b : List UInt8) (y : Int) (h : putN n d b = .error y) : 0 < y ∧ y < 10 := by
  obtain ⟨l, a, ks⟩ := n
  rw [putN] at h
  cases l with
  | true =>
    simp only [if_true] at h
    split at h
    · rw [room_err h]; decide
    · cases h; decide
  | false =>
    simp only [Bool.false_eq_true, if_false] at h
    split at h
    · cases h; decide
    · split at h
      · cases h; decide
      · split at h
        · rename_i e he
          cases h
          rw [room_err he]; decide
        · split at h
          · rename_i e he
            cases h
            exact putL_err _ _ _ _ he
          · rw [room_err h]; decide
theorem putL_err (ks : List Nd) (d : Nat) (b : List UInt8) (y : Int) (h : putL ks d b = .error y) : 0 < y ∧ y < 10 := by
  cases ks with
  | nil => rw [putL] at h; cases h
  | cons k ks =>
    rw [putL] at h
    split at h
    · rename_i e he
      cases h
      exact putN_err k d b _ he
    · exact putL_err ks d _ y h
end
theorem itoa_nat (n : Nat) : Lib.itoa (n : Int) = Lib.decDigits n := by
  unfold Lib.itoa
  rw [if_neg (by omega), Int.toNat_natCast]
theorem cat_one (c : UInt8) : cat [⟨#[c]⟩] = [c] := rfl
theorem cat_atom (a : ByteArray) : cat [⟨(Lib.itoa (a.size : Int)).toArray⟩, ⟨#[58]⟩, a] = atomB a.data.toList := by
  unfold cat atomB
  rw [itoa_nat]
  have : a.data.toList.length = a.size := by simp
  simp [this]
theorem dec_len (n : Nat) (h : n < 18446744073709551616) : (Lib.decDigits n).length ≤ 20 := by rw [Lib.decDigits_length]; exact Lib.nDigits_le20 n h
/- the statement of node, at all nodes of at most N nodes and bytes -/
def listR (ks : List Nd) (d : Nat) (xs : List UInt8) : Except Int (List UInt8) := match room (xs ++ [40]) with
  | .error e => .error e
  | .ok b1 => match putL ks (d + 1) b1 with
    | .error e => .error e
    | .ok b2 => room (b2 ++ [41])
theorem atom_len (a : ByteArray) (h : a.size ≤ 1048576) : (cat [⟨(Lib.itoa (a.size : Int)).toArray⟩, ⟨#[58]⟩, a]).length ≤ 1099511627776 := by
  have hdl := dec_len a.size (by omega)
  rw [cat_atom]
  unfold atomB
  simp; omega
end Go.Proofs.YthehpmffkkogpaaGreatDoor
