/- Whether a tree can be, of the document; how much files weigh, of the statements. Conditions: at most 2^20 files, paths of at most 2^20 bytes. -/
import Derived.Test.YtnbdjficoficcaaDoorTrRef
namespace Go.Proofs.YtnbdjficoficcaaDoor
set_option linter.unusedVariables false
open Go.ChangeShapes Go.WideShapes Go.ChangeAt Go.RowKit
set_option maxHeartbeats 2000000 in
set_option maxRecDepth 20000 in
theorem rgood_any (l : List FileL) (hl : l.length ≤ 1048576) (hw : ∀ x ∈ l, x.1.length ≤ 1048576 ∧ x.2.length ≤ 1048576) (S : Nat → Prop) (v : Value) (kb ko : Nat) (w : World) (hs : InpS w S v l kb ko) :
    Calls Tryd.prog 42 #[.agg #[v]] w (SayB (goodF l) w) := by
  have Hs := Lib.hid hs
  obtain ⟨⟨q, c, rfl, h1, h2, h3⟩, hat⟩ := hs
  obtain ⟨n, hn⟩ : ∃ n, n = l.length := ⟨_, rfl⟩
  rw [← hn] at Hs hl ⊢
  have hal := (Chg.refl NoB w).alloc (.cells #[.slice q n c] 27)
  have hb := heap_alloc_new w (.cells #[.slice q n c] 27)
  obtain ⟨tb, htb⟩ : ∃ b, b = w.heap.size := ⟨_, rfl⟩
  obtain ⟨w1, hw1⟩ : ∃ w1, w.alloc (.cells #[.slice q n c] 27) = w1 := ⟨_, rfl⟩
  rw [hw1] at hal hb
  rw [← htb] at hb
  have hmk := rmake_any l (by rw [← hn]; exact hl) hw S _ kb ko w1 (Hs.out.keep hal fun _ _ => id)
  have Hmk := Lib.hid hmk
  have Hn := Lib.hid hn
  have Hw1 := Lib.hid hw1
  have Htb := Lib.hid htb
  have Hal := Lib.hid hal
  have Hb := Lib.hid hb
  obtain ⟨g, hg⟩ : ∃ g, g = goodF l := ⟨_, rfl⟩
  rw [← hg]
  have Hg := Lib.hid hg
  clear hmk hn hw1 htb hal hb h1 h2 h3 hat hg
  go_enter Tryd.func42, Tryd.ntmps42
  go_upto_region 1 with fail
  rw [Hw1.out, ← Htb.out]
  have f0 := var1 Hb.out
  cases hmf : makeF l with
  | error y =>
    have hyb : (y == 0) = false := by rw [beq_eq_false_iff_ne]; exact make_err hmf
    have Hgf : Hid (g = false) := Lib.hid (by rw [Hg.out]; unfold goodF; rw [hmf])
    rw [hmf] at Hmk
    unfold MakeP at Hmk
    clear hmf
    go_wp2_with fail
    refine Hmk.out.mono ?_
    rintro e w2 ⟨hc2, rfl⟩
    have Hc2 := Lib.hid (Hal.out.trans (hc2.alloc (.cells #[.slice none 0 0] 27)))
    clear hc2 f0 Hmk
    go_wp2_with fail
    go_ret
    exact ⟨retB Hgf.out.symm, Hc2.out⟩
  | ok d =>
    obtain ⟨hdl, hdp⟩ := make_len hmf
    have Hgf : Hid (g = decide (l = d)) := Lib.hid (by rw [Hg.out]; unfold goodF; rw [hmf]; exact decide_eq_decide.2 ⟨Eq.symm, Eq.symm⟩)
    rw [hmf] at Hmk
    have Hdl := Lib.hid hdl
    clear hmf hdl hdp
    go_wp2_with fail
    refine Hmk.out.mono ?_
    rintro e w2 ⟨hc2, v2, rfl, hrow2⟩
    obtain ⟨vq, vc, hv2, -, -⟩ := row_shape hrow2
    obtain ⟨nb, hns⟩ := InpS.of_row hrow2
    obtain ⟨dl, hdl⟩ : ∃ m, m = d.length := ⟨_, rfl⟩
    rw [← hdl] at hv2
    subst hv2
    have hal3 := (Chg.refl NoB w2).alloc (.cells #[.slice vq dl vc] 27)
    have hb3 := heap_alloc_new w2 (.cells #[.slice vq dl vc] 27)
    have hc3 := hc2.trans hal3
    have Hc3 := Lib.hid (Hal.out.trans hc3)
    have Hb13 := Lib.hid (row_kept hc3 Hb.out id)
    have Hns3 := Lib.hid (hns.keep hal3 fun _ _ => id)
    have Hs3 := Lib.hid (Hs.out.keep Hc3.out fun _ _ => id)
    have Hb3 := Lib.hid hb3
    clear hc2 hrow2 hns hdl hal3 hb3 hc3 f0 Hmk
    go_upto_region 2 with fail
    obtain ⟨mb, hmb⟩ : ∃ b, b = w2.heap.size := ⟨_, rfl⟩
    rw [← hmb] at Hb3 ⊢
    clear hmb
    generalize w2.alloc (.cells #[.slice vq dl vc] 27) = w3 at *
    have Heq := Lib.hid (rsame_any l d S _ _ _ kb ko nb 0 w3 (by rw [← Hn.out]; exact hl) (by rw [Hdl.out, ← Hn.out]; exact hl) Hs3.out Hns3.out)
    rw [← Hgf.out] at Heq
    have f0 := var1 Hb13.out
    have g0 := var1 Hb3.out
    go_wp2_with fail
    refine Heq.out.mono ?_
    rintro e w4 ⟨rfl, hc4⟩
    have Hc4 := Lib.hid (Hc3.out.trans hc4)
    clear hc4 f0 g0 Heq
    go_wp2_with fail
    go_ret
    exact ⟨rfl, Hc4.out⟩
end Go.Proofs.YtnbdjficoficcaaDoor
