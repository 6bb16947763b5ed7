/- A row of nodes that is appended to, as in RdKids, without a word on what is frozen. No condition. -/
import Derived.Test.YthehpmffkkogpaaGreatDoorRdNode
namespace Go.Proofs.YthehpmffkkogpaaGreatDoor
set_option linter.unusedVariables false
open Go.ChangeShapes Go.WideShapes Go.ChangeAt Go.RowKit
def KbS (lo : Nat) (v : Value) (w : World) : Nat → Prop := fun x => (lo ≤ x ∧ x < w.heap.size) ∧ v.ownBlock ≠ some x
/- one kid more -/
end Go.Proofs.YthehpmffkkogpaaGreatDoor
