/- The contracts of the document's Encode, and of both Keys. Condition: texts of at most 2^16 bytes; the list of powers reads as the program's text lays it. -/
import Derived.Test.YtnipiphhkcafhaaGreatDoorDvNode
namespace Go.Proofs.YtnipiphhkcafhaaGreatDoor
set_option linter.unusedVariables false
open Go.ChangeShapes Go.WideShapes Go.ChangeAt Go.RowKit
noncomputable def keyD (d : DrvL) (k : Int) : ByteArray × Int := if (encD d).2 = 0 then (tx (Mix.textL (Mix.narrowN (Mix.ofB (encD d).1.data.toList).toNat k)), 0) else (⟨#[]⟩, (encD d).2)
end Go.Proofs.YtnipiphhkcafhaaGreatDoor
