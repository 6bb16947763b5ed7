/- The statements' own bound. Condition: none beyond the lengths' reach. -/
import Derived.Test.YtodcbagjmbdafaaDoorNdCopies
namespace Go.Proofs.YtodcbagjmbdafaaDoor
set_option linter.unusedVariables false
open Go.ChangeShapes Go.WideShapes Go.ChangeAt Go.RowKit
/- what is great: more nodes and bytes than 2^17, or lists within more than 60 lists -/
def greatN (n : Nd) : Bool := decide (cntN n 131072 < 0) || talN n 60
set_option maxHeartbeats 1000000 in
theorem great_any (n : Nd) (S : Nat → Prop) (v : Value) (w : World) (hv : NdV w S v n) :
    Calls Tryd.prog 12 #[v] w fun e w' => e = .returned (.bool (greatN n)) ∧ Chg NoB w w' := by
  have Hv := Lib.hid hv
  obtain ⟨ha, s, kb, ko, rfl, hs⟩ := hv
  obtain ⟨⟨q, c, rfl, hkc, hcm, hqq⟩, hk⟩ := hs
  have hal := (Chg.refl NoB w).alloc (.cells #[.bool n.leaf, .string n.atom, .slice q n.kids.length c] 24)
  have hrow := heap_alloc_new w (.cells #[.bool n.leaf, .string n.atom, .slice q n.kids.length c] 24)
  obtain ⟨v0, v1, v2⟩ := var3 hrow
  have Hal := Lib.hid hal
  clear hk hqq hal hrow ha
  cases hlt : decide (cntN n 131072 < 0)
  · have hge : ¬ cntN n 131072 < 0 := by simpa using hlt
    have Hge := Lib.hid hge
    have Hgr := Lib.hid (show greatN n = (decide (cntN n 131072 < 0) || talN n 60) from rfl)
    clear hge hlt
    go_enter Tryd.func12, Tryd.ntmps12
    go_wp2_with fail
    refine (count_any n.count n (Nat.le_refl _) S _ 131072 _ (Hv.out.keep Hal.out fun _ _ => id) (by omega) (by omega)).mono ?_
    rintro e w2 ⟨rfl, hc2⟩
    have Hc2 := Lib.hid hc2
    have u0 := hc2.keep v0
    have u1 := hc2.keep v1
    have u2 := hc2.keep v2
    have hge := Hge.out
    clear hc2 v0 v1 v2
    generalize cntN n 131072 = z at *
    go_wp2_with fail
    refine (tall_any n.count n (Nat.le_refl _) S _ 60 _ ((Hv.out.keep Hal.out fun _ _ => id).keep Hc2.out fun _ _ => id) (by omega)).mono ?_
    rintro e w3 ⟨rfl, hc3⟩
    have Hc3 := Lib.hid hc3
    clear hc3
    go_wp2_with fail
    go_ret
    refine ⟨?_, (Hal.out.trans Hc2.out).trans Hc3.out⟩
    rw [Hgr.out]
    rfl
  · have hge : cntN n 131072 < 0 := by simpa using hlt
    have Hgr := Lib.hid (show greatN n = true by unfold greatN; rw [hlt, Bool.true_or])
    have Hge := Lib.hid hge
    clear hlt hge
    go_enter Tryd.func12, Tryd.ntmps12
    go_wp2_with fail
    refine (count_any n.count n (Nat.le_refl _) S _ 131072 _ (Hv.out.keep Hal.out fun _ _ => id) (by omega) (by omega)).mono ?_
    rintro e w2 ⟨rfl, hc2⟩
    have Hc2 := Lib.hid hc2
    have hge := Hge.out
    clear hc2
    generalize cntN n 131072 = z at *
    go_wp2_with fail
    go_ret
    refine ⟨?_, Hal.out.trans Hc2.out⟩
    rw [Hgr.out]
    rfl
end Go.Proofs.YtodcbagjmbdafaaDoor
