/- The contracts of Cut: the program's and the document's. Condition: texts of at most 2^18 bytes, at most 2^20 files; the library's own variable holds some number. -/
import Derived.Test.YthehpmffkkogpaaGreatDoorTrPut
import Derived.Test.YthehpmffkkogpaaGreatDoorVqF
namespace Go.Proofs.YthehpmffkkogpaaGreatDoor
set_option linter.unusedVariables false
open Go.ChangeShapes Go.WideShapes Go.ChangeAt Go.RowKit
theorem cutF_no {t : List FileL} {d : List UInt8} (h : goodF t = false) : cutF t d = .error 1 := by unfold cutF; rw [if_neg (by rw [h]; decide)]
theorem cutF_bad {t : List FileL} {d : List UInt8} (h : goodF t = true) (h2 : Pth.placeL d = false) : cutF t d = .error 10 := by unfold cutF; rw [if_pos h, if_neg (by rw [h2]; decide)]
theorem cutF_ok {t : List FileL} {d : List UInt8} (h : goodF t = true) (h2 : Pth.placeL d = true) : cutF t d = .ok (cutL d t) := by unfold cutF; rw [if_pos h, if_pos h2]
end Go.Proofs.YthehpmffkkogpaaGreatDoor
