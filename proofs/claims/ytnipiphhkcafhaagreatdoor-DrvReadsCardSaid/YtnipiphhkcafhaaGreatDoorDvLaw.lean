/- The statements' own guard and measure of a build, and the walk of DrvWrites. Condition: the list of powers reads as the program's text lays it. -/
import Derived.Test.YtnipiphhkcafhaaGreatDoorDvKey
namespace Go.Proofs.YtnipiphhkcafhaaGreatDoor
set_option linter.unusedVariables false
open Go.ChangeShapes Go.WideShapes Go.ChangeAt Go.RowKit
structure DrvL.wf0 (d : DrvL) : Prop where
  name : d.name.length ≤ 140737488351232
  tool : d.tool.length ≤ 140737488351232
  a : -9223372036854775808 ≤ d.a ∧ d.a ≤ 9223372036854775807
  b : -9223372036854775808 ≤ d.b ∧ d.b ≤ 9223372036854775807
  c : -9223372036854775808 ≤ d.c ∧ d.c ≤ 9223372036854775807
  len : d.ins.length ≤ 140737488351232
  ins : ∀ i (hi : i < d.ins.length), d.ins[i].1.length ≤ 140737488351232 ∧ d.ins[i].2.length ≤ 140737488351232
def sumI : List InL → Nat
  | [] => 0
  | x :: r => x.1.length + x.2.length + sumI r
theorem sumI_app (a b : List InL) : sumI (a ++ b) = sumI a + sumI b := by
  induction a with
  | nil => rw [sumI]; simp
  | cons k r ih => rw [List.cons_append, sumI, sumI, ih]; omega
theorem sumI_take (ps : List InL) (k : Nat) (h : k < ps.length) : sumI (ps.take (k + 1)) = sumI (ps.take k) + (ps[k].1.length + ps[k].2.length) := by
  rw [List.take_add_one, List.getElem?_eq_getElem h, sumI_app]
  simp [sumI]
theorem sumI_sub (ps : List InL) (k : Nat) : sumI (ps.take k) ≤ sumI ps := by
  have : sumI ps = sumI (ps.take k) + sumI (ps.drop k) := by rw [← sumI_app, List.take_append_drop]
  omega
theorem sumI_at (ps : List InL) (i : Nat) (hi : i < ps.length) : ps[i].1.length + ps[i].2.length ≤ sumI ps := by
  have h1 := sumI_take ps i hi
  have h2 := sumI_sub ps (i + 1)
  omega
def weighD (d : DrvL) : Nat := d.name.length + d.tool.length + d.ins.length + sumI d.ins
def greatD (d : DrvL) : Bool := decide (16384 < weighD d)
theorem wf_of {d : DrvL} (h : d.wf0) (hg : greatD d = false) : d.wf := by
  unfold greatD weighD at hg
  have hg : ¬ 16384 < d.name.length + d.tool.length + d.ins.length + sumI d.ins := by simpa using hg
  refine ⟨by omega, by omega, h.a, h.b, h.c, by omega, fun i hi => ?_⟩
  have := sumI_at d.ins i hi
  omega
def dA : DrvL := ⟨[97], 1, 0, 0, [97, 97, 97, 97, 97, 97, 97, 97, 97, 97, 97, 97, 97], []⟩
theorem dA_good : goodD dA = true := by
  refine (goodD_iff dA).2 ⟨by decide, by decide, ?_, by decide, fun i h => ?_, fun i h => ?_⟩
  · unfold keyB Mix.parseB
    have h : Mix.goodL dA.tool := ⟨by decide, by decide, by decide⟩
    simpa using h
  · simp [dA] at h
  · simp [dA] at h
theorem dA_enc : encD dA = (tx [40, 51, 58, 100, 114, 118, 49, 58, 97, 53, 58, 49, 46, 48, 46, 48, 49, 51, 58, 97, 97, 97, 97, 97, 97, 97, 97, 97, 97, 97, 97, 97, 40, 41, 41], 0) := by
  unfold encD
  rw [if_pos dA_good]
  kernel_rfl
theorem dA_wf : dA.wf := ⟨by decide, by decide, by decide, by decide, by decide, by decide, fun i hi => by simp [dA] at hi⟩
set_option maxHeartbeats 1000000 in
set_option maxRecDepth 20000 in
theorem alive_any (base : Nat) (w : World) (h : Lw base w) : Calls Tryz.prog 4 #[] w fun e w' => e = .returned (.bool true) ∧ Chg NoB w w' := by
  have henc := dencode_any dA dA_wf NoB _ base w h ⟨.slice none 0 0, 0, 0, rfl, InpS.nil _ _⟩
  rw [dA_enc] at henc
  have henc : Calls Tryz.prog 8 #[.agg #[.string ⟨#[97]⟩, .int .i64 1, .int .i64 0, .int .i64 0, .string ⟨#[97, 97, 97, 97, 97, 97, 97, 97, 97, 97, 97, 97, 97]⟩, .slice none 0 0]] w fun e w' => Chg NoB w w' ∧ e = .returned (.tuple #[.string ⟨#[40, 51, 58, 100, 114, 118, 49, 58, 97, 53, 58, 49, 46, 48, 46, 48, 49, 51, 58, 97, 97, 97, 97, 97, 97, 97, 97, 97, 97, 97, 97, 97, 40, 41, 41]⟩, .int .i64 0]) := henc
  have Henc := Lib.hid henc
  clear h henc
  go_enter Tryz.func4, Tryz.ntmps4
  go_wp2_with fail
  refine Henc.out.mono ?_
  rintro e w2 ⟨hc2, rfl⟩
  go_wp2_with fail
  go_ret
  exact ⟨rfl, hc2⟩
end Go.Proofs.YtnipiphhkcafhaaGreatDoor
