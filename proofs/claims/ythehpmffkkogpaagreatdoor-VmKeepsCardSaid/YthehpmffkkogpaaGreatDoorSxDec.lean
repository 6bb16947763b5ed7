/- The contract of Decode. Condition: at most 2^20 bytes; the library's variables. -/
import Derived.Test.YthehpmffkkogpaaGreatDoorRdNode
namespace Go.Proofs.YthehpmffkkogpaaGreatDoor
set_option linter.unusedVariables false
open Go.ChangeShapes Go.WideShapes Go.ChangeAt Go.RowKit
def decR (s : List UInt8) : Except Int Nd := if 65536 < s.length then .error 3 else match decN s 0 with
  | .error y => .error y
  | .ok (n, r) => if r = [] then .ok n else .error 5
/- what a decoding answers -/
def DecP (r : Except Int Nd) (w : World) (e : Ending) (w' : World) : Prop := Chg NoB w w' ∧ match r with
  | .error y => e = .returned (.tuple #[nodeZ, .int .i64 y])
  | .ok n => ∃ v, e = .returned (.tuple #[v, .int .i64 0]) ∧ NdV w' (NewZ w w') v n
theorem chg_none {b : Nat} {w w' : World} (h : Chg (OneB b) w w') (hb : w.heap.size ≤ b) : Chg NoB w w' := ⟨h.os, h.tape, h.output, h.size, fun k hk _ => h.block k hk fun x => by have : k = b := x; omega⟩
end Go.Proofs.YthehpmffkkogpaaGreatDoor
