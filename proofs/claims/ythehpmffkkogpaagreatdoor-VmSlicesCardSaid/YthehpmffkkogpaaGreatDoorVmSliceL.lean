/- A run that is cut: how far it is behind so many steps. No condition. -/
import Derived.Test.YthehpmffkkogpaaGreatDoorVqB
namespace Go.Proofs.YthehpmffkkogpaaGreatDoor
set_option linter.unusedVariables false
open Go.ChangeShapes Go.WideShapes Go.ChangeAt Go.RowKit
structure Cut (ps : List InsL) (view : List FileL) (j : Nat) : Prop where
  steps : (goF ps view j mm0).steps = min j (runN ps view)
  done : (goF ps view j mm0).s.done = decide (runN ps view ≤ j)
  same : goF ps view j mm0 = goF ps view (min j (runN ps view)) mm0
theorem run_cut {ps : List InsL} {view : List FileL} (hx : ∀ x ∈ ps, x.wf) (h : newF ps view = 0) (j : Nat) : Cut ps view j := by
  have hr := run_ran hx h
  have hn : runN ps view = (runM ps view).steps := by unfold runN; rw [if_pos h]
  by_cases hj : j < runN ps view
  · have hd := hr.not j (by rw [← hn]; exact hj)
    have hs := (not_done_steps j mm0 hd).1
    have e : min j (runN ps view) = j := by omega
    exact ⟨by rw [hs, e]; show 0 + j = j; omega, by rw [hd]; exact (decide_eq_false (by omega)).symm, by rw [e]⟩
  · have e0 : j = (runM ps view).steps + (j - (runM ps view).steps) := by omega
    have e1 : goF ps view j mm0 = runM ps view := by rw [e0, go_add, hr.at', go_done hr.done]
    have e2 : min j (runN ps view) = (runM ps view).steps := by omega
    exact ⟨by rw [e1, e2], by rw [e1, hr.done]; exact (decide_eq_true (by omega)).symm, by rw [e1, e2, hr.at']⟩
theorem cut_end {ps : List InsL} {view : List FileL} (hx : ∀ x ∈ ps, x.wf) (h : newF ps view = 0) : goF ps view (runN ps view) mm0 = runM ps view ∧ resF (runM ps view) = (runL ps view, runE ps view) ∧ (runM ps view).s.done = true ∧ (runM ps view).steps = runN ps view := by
  have hr := run_ran hx h
  have hn : runN ps view = (runM ps view).steps := by unfold runN; rw [if_pos h]
  refine ⟨by rw [hn, hr.at'], ?_, hr.done, hn.symm⟩
  unfold runL runE
  rw [if_pos h, if_pos h]
theorem cut_on {ps : List InsL} {view : List FileL} (a b : Nat) : goF ps view b (goF ps view a mm0) = goF ps view (a + b) mm0 := (go_add ps view a b mm0).symm
theorem cut_wf {ps : List InsL} {view : List FileL} (hx : ∀ x ∈ ps, x.wf) (h : newF ps view = 0) (j : Nat) : WfM ps.length (goF ps view j mm0) := by
  obtain ⟨hc, hg⟩ := newF_ok h
  obtain ⟨h0, h1, h2⟩ := check_wfi hx hc
  exact go_wf h2 hg j mm0 (mm0_wf h0)
end Go.Proofs.YthehpmffkkogpaaGreatDoor
