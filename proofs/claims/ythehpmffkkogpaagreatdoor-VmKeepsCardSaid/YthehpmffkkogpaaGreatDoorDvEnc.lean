/- What an encoding answers: a text and a number. No condition. -/
import Derived.Test.YthehpmffkkogpaaGreatDoorWrRef
namespace Go.Proofs.YthehpmffkkogpaaGreatDoor
set_option linter.unusedVariables false
open Go.ChangeShapes Go.WideShapes Go.ChangeAt Go.RowKit
def encO (r : Except Int (List UInt8)) : ByteArray × Int := match r with
  | .error y => (tx [], y)
  | .ok ys => (tx ys, 0)
theorem EncP.val {r : Except Int (List UInt8)} {w : World} {e : Ending} {w' : World} (h : EncP r w e w') : Chg NoB w w' ∧ e = .returned (.tuple #[.string (encO r).1, .int .i64 (encO r).2]) := by
  refine ⟨h.1, ?_⟩
  cases r with
  | error y => exact h.2
  | ok ys => exact h.2
end Go.Proofs.YthehpmffkkogpaaGreatDoor
