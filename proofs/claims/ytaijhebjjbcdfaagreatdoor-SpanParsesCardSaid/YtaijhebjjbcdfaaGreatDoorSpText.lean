/- The contract of numberText. Condition: the number is one of a version; the library's table of powers of ten. -/
import Derived.Test.YtaijhebjjbcdfaaGreatDoorSpGood
import Derived.Test.YtaijhebjjbcdfaaGreatDoorVerTextMath

namespace Go.Proofs.YtaijhebjjbcdfaaGreatDoor
set_option linter.unusedVariables false
open Go.ChangeShapes Go.WideShapes Go.ChangeAt Go.RowKit
def numB (n : Int) : ByteArray := Ver.dot (Ver.it (n / 1000000)) (Ver.it (n / 1000 % 1000)) (Ver.it (n % 1000))
theorem ntext_any (n : Int) (h1 : 0 ≤ n) (h2 : n ≤ 999999999) (w : World) (ht : Ver.Tb w) : Calls Tryz.prog 55 #[.int .i64 n] w fun e w' => e = .returned (.string (numB n)) ∧ Chg NoB w w' := by
  have HO := Lib.hid (Ver.of_good n w h1 h2)
  have hg : Ver.goodB (n / 1000000) (n / 1000 % 1000) (n % 1000) = true := decide_eq_true (by omega)
  have HT := Lib.hid (fun (W : World) (hW : Ver.Tb W) => Ver.text_good _ _ _ W hW hg)
  have Ht := Lib.hid ht
  have Hk := Lib.hid (show numB n = Ver.dot (Ver.it (n / 1000000)) (Ver.it (n / 1000 % 1000)) (Ver.it (n % 1000)) from rfl)
  generalize numB n = t at *
  generalize n / 1000000 = a at *
  generalize n / 1000 % 1000 = b at *
  generalize n % 1000 = c at *
  clear hg ht
  go_enter Tryz.func55, Tryz.ntmps55
  go_wp2_with fail
  refine HO.out.mono ?_
  rintro e w1 ⟨rfl, hb1⟩
  have Hb1 := Lib.hid hb1
  clear hb1 HO
  have hal_ := (Chg.refl NoB w1).alloc (.cells #[.int .i64 a, .int .i64 b, .int .i64 c] 31)
  have hb_ := heap_alloc_new w1 (.cells #[.int .i64 a, .int .i64 b, .int .i64 c] 31)
  obtain ⟨b3, hxb_⟩ : ∃ b, b = w1.heap.size := ⟨_, rfl⟩
  obtain ⟨w2, hw_⟩ : ∃ w_, w1.alloc (.cells #[.int .i64 a, .int .i64 b, .int .i64 c] 31) = w_ := ⟨_, rfl⟩
  have hz_ : w2.heap.size = b3 + 1 := by rw [← hw_, hxb_]; exact alloc_size _ _
  rw [hw_] at hal_ hb_
  rw [← hxb_] at hb_
  have Hw3 := Lib.hid hw_
  have Hx3 := Lib.hid hxb_
  have Ha3 := Lib.hid hal_
  have Hb3 := Lib.hid hb_
  have Hz3 := Lib.hid hz_
  clear hal_ hb_ hxb_ hw_ hz_
  have Hc2 := Lib.hid ((chg_of_below Hb1.out).trans Ha3.out)
  have Ht2 := Lib.hid (Ht.out.keep Hc2.out.below)
  obtain ⟨q0, q1, q2⟩ := var3 Hb3.out
  go_upto_region 2 with fail
  rw [Hw3.out, ← Hx3.out]
  go_wp2_with fail
  refine (HT.out w2 Ht2.out).mono ?_
  rintro e w4 ⟨rfl, hb4⟩
  have Hc4 := Lib.hid (Hc2.out.trans (chg_of_below hb4))
  clear hb4
  go_wp2_with fail
  go_ret
  exact ⟨by rw [Hk.out]; rfl, Hc4.out⟩
end Go.Proofs.YtaijhebjjbcdfaaGreatDoor
