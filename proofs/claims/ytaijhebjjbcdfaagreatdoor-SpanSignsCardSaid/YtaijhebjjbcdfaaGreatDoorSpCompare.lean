/- The document's order of versions. Condition: the parts are those of a version. -/
import Derived.Test.YtaijhebjjbcdfaaGreatDoorSpGood
import Derived.Test.YtaijhebjjbcdfaaGreatDoorVerWalkA
import Derived.Test.YtaijhebjjbcdfaaGreatDoorSpCmp

namespace Go.Proofs.YtaijhebjjbcdfaaGreatDoor
set_option linter.unusedVariables false
open Go.ChangeShapes Go.WideShapes Go.ChangeAt Go.RowKit
def cmpI (m n : Int) : Int := if m < n then -1 else if n < m then 1 else 0
set_option maxHeartbeats 4000000 in
set_option maxRecDepth 20000 in
theorem cmp_any (a b c x y z : Int) (hg : Ver.goodB a b c = true) (hh : Ver.goodB x y z = true) (w : World) : Calls Tryz.prog 22 #[.agg #[.int .i64 a, .int .i64 b, .int .i64 c], .agg #[.int .i64 x, .int .i64 y, .int .i64 z]] w fun e w' => e = .returned (.int .i64 (cmpI (Ver.numI a b c) (Ver.numI x y z))) ∧ Chg NoB w w' := by
  have hA := Lib.hid (And.intro hg hh)
  rw [Ver.num_yes hg, Ver.num_yes hh]
  unfold Ver.goodB at hg hh
  simp at hg hh
  obtain ⟨r, hr⟩ : ∃ r, r = cmpI (1000000 * a + 1000 * b + c) (1000000 * x + 1000 * y + z) := ⟨_, rfl⟩
  rw [← hr]
  unfold cmpI at hr
  have Hr := Lib.hid hr
  have Hg := Lib.hid hg
  have Hh := Lib.hid hh
  clear hr hg hh
  have hal_ := (Chg.refl NoB w).alloc (.cells #[.int .i64 a, .int .i64 b, .int .i64 c] 31)
  have hb_ := heap_alloc_new w (.cells #[.int .i64 a, .int .i64 b, .int .i64 c] 31)
  obtain ⟨b1, hxb_⟩ : ∃ b, b = w.heap.size := ⟨_, rfl⟩
  obtain ⟨w1, hw_⟩ : ∃ w_, w.alloc (.cells #[.int .i64 a, .int .i64 b, .int .i64 c] 31) = w_ := ⟨_, rfl⟩
  have hz_ : w1.heap.size = b1 + 1 := by rw [← hw_, hxb_]; exact alloc_size _ _
  rw [hw_] at hal_ hb_
  rw [← hxb_] at hb_
  have Hw2 := Lib.hid hw_
  have Hx2 := Lib.hid hxb_
  have Ha2 := Lib.hid hal_
  have Hb2 := Lib.hid hb_
  have Hz2 := Lib.hid hz_
  clear hal_ hb_ hxb_ hw_ hz_
  have hal_ := (Chg.refl NoB w1).alloc (.cells #[.int .i64 x, .int .i64 y, .int .i64 z] 31)
  have hb_ := heap_alloc_new w1 (.cells #[.int .i64 x, .int .i64 y, .int .i64 z] 31)
  obtain ⟨b2, hxb_⟩ : ∃ b, b = w1.heap.size := ⟨_, rfl⟩
  obtain ⟨w2, hw_⟩ : ∃ w_, w1.alloc (.cells #[.int .i64 x, .int .i64 y, .int .i64 z] 31) = w_ := ⟨_, rfl⟩
  have hz_ : w2.heap.size = b2 + 1 := by rw [← hw_, hxb_]; exact alloc_size _ _
  rw [hw_] at hal_ hb_
  rw [← hxb_] at hb_
  have Hw3 := Lib.hid hw_
  have Hx3 := Lib.hid hxb_
  have Ha3 := Lib.hid hal_
  have Hb3 := Lib.hid hb_
  have Hz3 := Lib.hid hz_
  clear hal_ hb_ hxb_ hw_ hz_
  have Hcw2 := Lib.hid (Ha2.out.trans Ha3.out)
  obtain ⟨d0, d1, d2⟩ := var3 (row_kept Ha3.out Hb2.out id)
  obtain ⟨e0, e1, e2⟩ := var3 Hb3.out
  have h12 : b1 + 1 = b2 := by rw [Hx3.out, Hz2.out]
  have H12 := Lib.hid h12
  clear h12
  go_enter Tryz.func22, Tryz.ntmps22
  go_upto_region 1 with fail
  rw [Hw2.out, Hw3.out, ← Hx2.out, H12.out]
  go_wp2_with fail
  refine wp_loop_rounds 3 ?_
  rw [rounds_succ]
  by_cases k0 : a = x
  · subst k0
    have f0 : (a == a) = true := by simp
    go_upto_region 2 with fail
    go_quiet (fail)
    have hch := (Chg.refl NoB w2).drewN nq
    have Hcw3 := Lib.hid (Hcw2.out.trans hch)
    replace d0 := hch.keep d0
    replace d1 := hch.keep d1
    replace d2 := hch.keep d2
    replace e0 := hch.keep e0
    replace e1 := hch.keep e1
    replace e2 := hch.keep e2
    clear hch
    generalize w2.drewN nq = w3 at *
    go_wp2_with fail
    rw [rounds_succ]
    by_cases k1 : b = y
    · subst k1
      go_upto_region 2 with fail
      go_quiet (fail)
      have hch := (Chg.refl NoB w3).drewN nq
      have Hcw4 := Lib.hid (Hcw3.out.trans hch)
      replace d0 := hch.keep d0
      replace d1 := hch.keep d1
      replace d2 := hch.keep d2
      replace e0 := hch.keep e0
      replace e1 := hch.keep e1
      replace e2 := hch.keep e2
      clear hch
      generalize w3.drewN nq = w4 at *
      go_wp2_with fail
      rw [rounds_succ]
      go_upto_region 2 with fail
      go_quiet (fail)
      have hch := (Chg.refl NoB w4).drewN nq
      have Hcw5 := Lib.hid (Hcw4.out.trans hch)
      replace d0 := hch.keep d0
      replace d1 := hch.keep d1
      replace d2 := hch.keep d2
      replace e0 := hch.keep e0
      replace e1 := hch.keep e1
      replace e2 := hch.keep e2
      clear hch
      generalize w4.drewN nq = w5 at *
      by_cases l1 : c < z
      · have g1 := decide_eq_true l1
        go_upto_region 4 with fail
        go_quiet (fail)
        have hch := (Chg.refl NoB w5).drewN nq
        have Hcv1 := Lib.hid (Hcw5.out.trans hch)
        replace d0 := hch.keep d0
        replace d1 := hch.keep d1
        replace d2 := hch.keep d2
        replace e0 := hch.keep e0
        replace e1 := hch.keep e1
        replace e2 := hch.keep e2
        clear hch
        generalize w5.drewN nq = v1 at *
        go_wp2_with fail
        go_ret
        exact ⟨by rw [Hr.out, if_pos (by have := Hg.out; have := Hh.out; omega)]; rfl, Hcv1.out⟩
      · have g1 := decide_eq_false l1
        go_upto_region 4 with fail
        go_quiet (fail)
        have hch := (Chg.refl NoB w5).drewN nq
        have Hcv1 := Lib.hid (Hcw5.out.trans hch)
        replace d0 := hch.keep d0
        replace d1 := hch.keep d1
        replace d2 := hch.keep d2
        replace e0 := hch.keep e0
        replace e1 := hch.keep e1
        replace e2 := hch.keep e2
        clear hch
        generalize w5.drewN nq = v1 at *
        by_cases l2 : z < c
        · have g2 := decide_eq_true l2
          go_upto_region 6 with fail
          go_quiet (fail)
          have hch := (Chg.refl NoB v1).drewN nq
          have Hcv2 := Lib.hid (Hcv1.out.trans hch)
          replace d0 := hch.keep d0
          replace d1 := hch.keep d1
          replace d2 := hch.keep d2
          replace e0 := hch.keep e0
          replace e1 := hch.keep e1
          replace e2 := hch.keep e2
          clear hch
          generalize v1.drewN nq = v2 at *
          go_wp2_with fail
          go_ret
          exact ⟨by rw [Hr.out, if_neg (by have := Hg.out; have := Hh.out; omega), if_pos (by have := Hg.out; have := Hh.out; omega)]; rfl, Hcv2.out⟩
        · have g2 := decide_eq_false l2
          go_upto_region 6 with fail
          go_quiet (fail)
          have hch := (Chg.refl NoB v1).drewN nq
          have Hcv2 := Lib.hid (Hcv1.out.trans hch)
          replace d0 := hch.keep d0
          replace d1 := hch.keep d1
          replace d2 := hch.keep d2
          replace e0 := hch.keep e0
          replace e1 := hch.keep e1
          replace e2 := hch.keep e2
          clear hch
          generalize v1.drewN nq = v2 at *
          have Hz := Lib.hid (And.intro l1 l2)
          clear l1 l2
          go_wp2_with fail
          go_ret
          exact ⟨by rw [Hr.out, if_neg (by have := Hg.out; have := Hh.out; have := Hz.out; omega), if_neg (by have := Hg.out; have := Hh.out; have := Hz.out; omega)]; rfl, Hcv2.out⟩
    · have f1 : (b == y) = false := by rw [beq_eq_false_iff_ne]; exact k1
      go_upto_region 2 with fail
      go_quiet (fail)
      have hch := (Chg.refl NoB w3).drewN nq
      have Hcw4 := Lib.hid (Hcw3.out.trans hch)
      replace d0 := hch.keep d0
      replace d1 := hch.keep d1
      replace d2 := hch.keep d2
      replace e0 := hch.keep e0
      replace e1 := hch.keep e1
      replace e2 := hch.keep e2
      clear hch
      generalize w3.drewN nq = w4 at *
      by_cases l1 : b < y
      · have g1 := decide_eq_true l1
        go_upto_region 4 with fail
        go_quiet (fail)
        have hch := (Chg.refl NoB w4).drewN nq
        have Hcv1 := Lib.hid (Hcw4.out.trans hch)
        replace d0 := hch.keep d0
        replace d1 := hch.keep d1
        replace d2 := hch.keep d2
        replace e0 := hch.keep e0
        replace e1 := hch.keep e1
        replace e2 := hch.keep e2
        clear hch
        generalize w4.drewN nq = v1 at *
        go_wp2_with fail
        go_ret
        exact ⟨by rw [Hr.out, if_pos (by have := Hg.out; have := Hh.out; omega)]; rfl, Hcv1.out⟩
      · have g1 := decide_eq_false l1
        go_upto_region 4 with fail
        go_quiet (fail)
        have hch := (Chg.refl NoB w4).drewN nq
        have Hcv1 := Lib.hid (Hcw4.out.trans hch)
        replace d0 := hch.keep d0
        replace d1 := hch.keep d1
        replace d2 := hch.keep d2
        replace e0 := hch.keep e0
        replace e1 := hch.keep e1
        replace e2 := hch.keep e2
        clear hch
        generalize w4.drewN nq = v1 at *
        by_cases l2 : y < b
        · have g2 := decide_eq_true l2
          go_upto_region 6 with fail
          go_quiet (fail)
          have hch := (Chg.refl NoB v1).drewN nq
          have Hcv2 := Lib.hid (Hcv1.out.trans hch)
          replace d0 := hch.keep d0
          replace d1 := hch.keep d1
          replace d2 := hch.keep d2
          replace e0 := hch.keep e0
          replace e1 := hch.keep e1
          replace e2 := hch.keep e2
          clear hch
          generalize v1.drewN nq = v2 at *
          go_wp2_with fail
          go_ret
          exact ⟨by rw [Hr.out, if_neg (by have := Hg.out; have := Hh.out; omega), if_pos (by have := Hg.out; have := Hh.out; omega)]; rfl, Hcv2.out⟩
        · have g2 := decide_eq_false l2
          go_upto_region 6 with fail
          go_quiet (fail)
          have hch := (Chg.refl NoB v1).drewN nq
          have Hcv2 := Lib.hid (Hcv1.out.trans hch)
          replace d0 := hch.keep d0
          replace d1 := hch.keep d1
          replace d2 := hch.keep d2
          replace e0 := hch.keep e0
          replace e1 := hch.keep e1
          replace e2 := hch.keep e2
          clear hch
          generalize v1.drewN nq = v2 at *
          have Hz := Lib.hid (And.intro l1 l2)
          clear l1 l2
          go_wp2_with fail
          go_ret
          exact ⟨by rw [Hr.out, if_neg (by have := Hg.out; have := Hh.out; have := Hz.out; omega), if_neg (by have := Hg.out; have := Hh.out; have := Hz.out; omega)]; rfl, Hcv2.out⟩
  · have f0 : (a == x) = false := by rw [beq_eq_false_iff_ne]; exact k0
    go_upto_region 2 with fail
    go_quiet (fail)
    have hch := (Chg.refl NoB w2).drewN nq
    have Hcw3 := Lib.hid (Hcw2.out.trans hch)
    replace d0 := hch.keep d0
    replace d1 := hch.keep d1
    replace d2 := hch.keep d2
    replace e0 := hch.keep e0
    replace e1 := hch.keep e1
    replace e2 := hch.keep e2
    clear hch
    generalize w2.drewN nq = w3 at *
    by_cases l1 : a < x
    · have g1 := decide_eq_true l1
      go_upto_region 4 with fail
      go_quiet (fail)
      have hch := (Chg.refl NoB w3).drewN nq
      have Hcv1 := Lib.hid (Hcw3.out.trans hch)
      replace d0 := hch.keep d0
      replace d1 := hch.keep d1
      replace d2 := hch.keep d2
      replace e0 := hch.keep e0
      replace e1 := hch.keep e1
      replace e2 := hch.keep e2
      clear hch
      generalize w3.drewN nq = v1 at *
      go_wp2_with fail
      go_ret
      exact ⟨by rw [Hr.out, if_pos (by have := Hg.out; have := Hh.out; omega)]; rfl, Hcv1.out⟩
    · have g1 := decide_eq_false l1
      go_upto_region 4 with fail
      go_quiet (fail)
      have hch := (Chg.refl NoB w3).drewN nq
      have Hcv1 := Lib.hid (Hcw3.out.trans hch)
      replace d0 := hch.keep d0
      replace d1 := hch.keep d1
      replace d2 := hch.keep d2
      replace e0 := hch.keep e0
      replace e1 := hch.keep e1
      replace e2 := hch.keep e2
      clear hch
      generalize w3.drewN nq = v1 at *
      by_cases l2 : x < a
      · have g2 := decide_eq_true l2
        go_upto_region 6 with fail
        go_quiet (fail)
        have hch := (Chg.refl NoB v1).drewN nq
        have Hcv2 := Lib.hid (Hcv1.out.trans hch)
        replace d0 := hch.keep d0
        replace d1 := hch.keep d1
        replace d2 := hch.keep d2
        replace e0 := hch.keep e0
        replace e1 := hch.keep e1
        replace e2 := hch.keep e2
        clear hch
        generalize v1.drewN nq = v2 at *
        go_wp2_with fail
        go_ret
        exact ⟨by rw [Hr.out, if_neg (by have := Hg.out; have := Hh.out; omega), if_pos (by have := Hg.out; have := Hh.out; omega)]; rfl, Hcv2.out⟩
      · have g2 := decide_eq_false l2
        go_upto_region 6 with fail
        go_quiet (fail)
        have hch := (Chg.refl NoB v1).drewN nq
        have Hcv2 := Lib.hid (Hcv1.out.trans hch)
        replace d0 := hch.keep d0
        replace d1 := hch.keep d1
        replace d2 := hch.keep d2
        replace e0 := hch.keep e0
        replace e1 := hch.keep e1
        replace e2 := hch.keep e2
        clear hch
        generalize v1.drewN nq = v2 at *
        have Hz := Lib.hid (And.intro l1 l2)
        clear l1 l2
        go_wp2_with fail
        go_ret
        exact ⟨by rw [Hr.out, if_neg (by have := Hg.out; have := Hh.out; have := Hz.out; omega), if_neg (by have := Hg.out; have := Hh.out; have := Hz.out; omega)]; rfl, Hcv2.out⟩
end Go.Proofs.YtaijhebjjbcdfaaGreatDoor
