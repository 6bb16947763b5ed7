/- What the document tells of trees, as the statements ask ahead of all: it is so. Conditions: the list of powers reads as the program's text lays it; the library's own variable holds some number. -/
import Derived.Test.YtnbdjficoficcaaDoorTrEnc
import Derived.Laws.EntriesVeiled
namespace Go.Proofs.YtnbdjficoficcaaDoor
set_option linter.unusedVariables false
open Go.ChangeShapes Go.WideShapes Go.ChangeAt Go.RowKit
/- what Names answers: a closure over a box that holds a closure over the copied files and the place -/
theorem inpS_two (w : World) (a b c d : List UInt8) : InpS (w.alloc (.cells #[.string (tx a), .string (tx b), .string (tx c), .string (tx d)] 47)) (fun y => y = w.heap.size) (.slice (some ⟨w.heap.size, 0, none⟩) 2 2) [(a, b), (c, d)] w.heap.size 0 := by
  obtain ⟨h0, h1, h2, h3⟩ := var4 (heap_alloc_new w (.cells #[.string (tx a), .string (tx b), .string (tx c), .string (tx d)] 47))
  refine ⟨⟨_, 2, rfl, Nat.le_refl _, by decide, fun _ => ⟨rfl, rfl⟩⟩, fun i hi => ?_⟩
  match i, hi with
  | 0, _ => exact ⟨h0, h1⟩
  | 1, _ => exact ⟨h2, h3⟩
def fA : List FileL := [([98], [120]), ([97, 47, 99], [])]
def gA : List FileL := [([97, 47, 99], []), ([98], [120])]
def fB : List FileL := [([97], []), ([97, 47, 98], [])]
theorem fA_make : makeF fA = .ok gA := by kernel_rfl
theorem fB_make : makeF fB = .error 12 := by kernel_rfl
theorem gA_enc : encT gA = (tx [40, 40, 51, 58, 97, 47, 99, 48, 58, 41, 40, 49, 58, 98, 49, 58, 120, 41, 41], 0) := by kernel_rfl
theorem fA_w : ∀ x ∈ fA, x.1.length ≤ 1048576 ∧ x.2.length ≤ 1048576 := by decide
theorem fB_w : ∀ x ∈ fB, x.1.length ≤ 1048576 ∧ x.2.length ≤ 1048576 := by decide
theorem gA_w : ∀ x ∈ gA, x.1.length ≤ 131072 ∧ x.2.length ≤ 131072 := by decide
end Go.Proofs.YtnbdjficoficcaaDoor
