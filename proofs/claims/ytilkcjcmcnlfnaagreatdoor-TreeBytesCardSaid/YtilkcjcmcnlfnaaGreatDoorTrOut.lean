/- What a call that makes a tree answers, as a list and a number. No condition. -/
import Derived.Test.YtilkcjcmcnlfnaaGreatDoorTrDm
namespace Go.Proofs.YtilkcjcmcnlfnaaGreatDoor
set_option linter.unusedVariables false
open Go.ChangeShapes Go.WideShapes Go.ChangeAt Go.RowKit
def outL : Except Int (List FileL) → List FileL
  | .error _ => []
  | .ok d => d
def outE : Except Int (List FileL) → Int
  | .error y => y
  | .ok _ => 0
def OutP (d : List FileL) (y : Int) (w : World) (e : Ending) (w' : World) : Prop := Chg NoB w w' ∧ ∃ q n c kb ko, n = d.length ∧ e = .returned (.tuple #[.agg #[.slice q n c], .int .i64 y]) ∧ InpS w' (NewB w w') (.slice q n c) d kb ko
theorem OutP.val {d : List FileL} {y : Int} {w : World} {e : Ending} {w' : World} (h : OutP d y w e w') : Chg NoB w w' ∧ ∃ q n c kb ko, n = d.length ∧ e = .returned (.tuple #[.agg #[.slice q n c], .int .i64 y]) ∧ InpS w' (NewB w w') (.slice q n c) d kb ko := h
theorem MakeP.out {r : Except Int (List FileL)} {w : World} {e : Ending} {w' : World} (h : MakeP r w e w') : OutP (outL r) (outE r) w e w' := by
  obtain ⟨hc, h⟩ := h
  refine ⟨hc, ?_⟩
  cases r with
  | error y => exact ⟨none, 0, 0, 0, 0, rfl, h, InpS.nil _ _⟩
  | ok d =>
    obtain ⟨v, he, hrow⟩ := h
    obtain ⟨q, c, rfl, -, -⟩ := row_shape hrow
    obtain ⟨kb, hs⟩ := InpS.of_row hrow
    exact ⟨q, _, c, kb, 0, rfl, he, hs⟩
theorem decT_sizes (s : List UInt8) : (outL (decT s)).length ≤ 1048576 ∧ ∀ x ∈ outL (decT s), x.1.length ≤ 131072 ∧ x.2.length ≤ 131072 := by
  cases h : decT s with
  | error y => exact ⟨Nat.zero_le _, fun x hx => by cases hx⟩
  | ok d =>
    have hg := good_sizes (decT_ok h).2
    exact ⟨by show d.length ≤ _; omega, fun x hx => by have := hg.2 x hx; omega⟩
end Go.Proofs.YtilkcjcmcnlfnaaGreatDoor
