/- The contract of List. Condition: at most 2^20 nodes and bytes. -/
import Derived.Test.YthehpmffkkogpaaGreatDoorRdAtom
namespace Go.Proofs.YthehpmffkkogpaaGreatDoor
set_option linter.unusedVariables false
open Go.ChangeShapes Go.WideShapes Go.ChangeAt Go.RowKit
end Go.Proofs.YthehpmffkkogpaaGreatDoor
