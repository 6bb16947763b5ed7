/- The contract of the statements' alive. Condition: the keywords read as listed. -/
import Derived.Test.YtdgcpgbknfojhaaDoorRcParse

namespace Go.Proofs.YtdgcpgbknfojhaaDoor
set_option linter.unusedVariables false
open Go.ChangeShapes Go.WideShapes Go.ChangeAt Go.RowKit
/- package "a" version "1.0." + "0" tool "cc" "*" -/
def live1 : List UInt8 := [112, 97, 99, 107, 97, 103, 101, 32, 34, 97, 34, 32, 118, 101, 114, 115, 105, 111, 110, 32, 34, 49, 46, 48, 46, 34, 32, 43, 32, 34, 48, 34, 32, 116, 111, 111, 108, 32, 34, 99, 99, 34, 32, 34, 42, 34]
/- package a version -/
def live2 : List UInt8 := [112, 97, 99, 107, 97, 103, 101, 32, 97, 32, 118, 101, 114, 115, 105, 111, 110]
theorem live1_ok : ∃ r, parseF live1 = .ok r ∧ r.name.s = [97] ∧ r.version.kind = 3 ∧ r.fields.length = 1 := by
  refine ⟨⟨.mk 1 [97] [], .mk 3 [] [.mk 1 [49, 46, 48, 46] [], .mk 1 [48] []], [⟨1, .mk 1 [99, 99] [], .mk 1 [42] []⟩]⟩, ?_, rfl, rfl, rfl⟩
  kernel_rfl
theorem live2_ok : parseF live2 = .error (17, 50) := by kernel_rfl
set_option maxHeartbeats 4000000 in
set_option maxRecDepth 20000 in
theorem alive_any (base : Nat) (w : World) (hk : Kw base w) : Calls Tryd.prog 9 #[] w (SayV (.bool true) w) := by
  obtain ⟨r, hp, hs, hv, hf⟩ := live1_ok
  have HP1 := Lib.hid (parse_any live1 base w hk)
  have HP2 := Lib.hid (fun W (h : Chg NoB w W) => parse_any live2 base W (hk.keep h))
  rw [hp] at HP1
  rw [live2_ok] at HP2
  have en1 := txQ r.name.s
  have Hs := Lib.hid hs
  have Hv := Lib.hid hv
  have Hf := Lib.hid hf
  clear hk hp hs hv hf
  go_enter Tryd.func9, Tryd.ntmps9
  go_wp2_with fail
  refine HP1.out.mono ?_
  rintro e w2 ⟨hc2, v, rfl, d, h, f, kb, ko, kb2, ko2, kf, kg, rfl, ⟨g1, g2⟩, ⟨g3, g4⟩, g5⟩
  obtain ⟨qd, cd, rfl, -⟩ := g2.sh
  obtain ⟨qh, ch, rfl, -⟩ := g4.sh
  obtain ⟨qf, cf, rfl, -⟩ := g5.sh
  change Hid (r.name.s = [97]) at Hs
  have Hn1 := Lib.hid (show (resF (.ok r)).1.name.s = [97] from Hs.out)
  have Hv1 := Lib.hid (show (resF (.ok r)).1.version.kind = 3 from Hv.out)
  have Hf1 := Lib.hid (show (resF (.ok r)).1.fields.length = 1 from Hf.out)
  clear en1
  have hal_ := (Chg.refl NoB w2).alloc (.cells #[.int .i64 (resF (.ok r)).1.name.kind, .string (tx (resF (.ok r)).1.name.s), .slice qd (resF (.ok r)).1.name.kids.length cd, .int .i64 (resF (.ok r)).1.version.kind, .string (tx (resF (.ok r)).1.version.s), .slice qh (resF (.ok r)).1.version.kids.length ch, .slice qf (resF (.ok r)).1.fields.length cf] 29)
  have hb_ := heap_alloc_new w2 (.cells #[.int .i64 (resF (.ok r)).1.name.kind, .string (tx (resF (.ok r)).1.name.s), .slice qd (resF (.ok r)).1.name.kids.length cd, .int .i64 (resF (.ok r)).1.version.kind, .string (tx (resF (.ok r)).1.version.s), .slice qh (resF (.ok r)).1.version.kids.length ch, .slice qf (resF (.ok r)).1.fields.length cf] 29)
  obtain ⟨b1, hxb_⟩ : ∃ b, b = w2.heap.size := ⟨_, rfl⟩
  obtain ⟨w3, hw_⟩ : ∃ w_, w2.alloc (.cells #[.int .i64 (resF (.ok r)).1.name.kind, .string (tx (resF (.ok r)).1.name.s), .slice qd (resF (.ok r)).1.name.kids.length cd, .int .i64 (resF (.ok r)).1.version.kind, .string (tx (resF (.ok r)).1.version.s), .slice qh (resF (.ok r)).1.version.kids.length ch, .slice qf (resF (.ok r)).1.fields.length cf] 29) = w_ := ⟨_, rfl⟩
  have hz_ : w3.heap.size = b1 + 1 := by rw [← hw_, hxb_]; exact alloc_size _ _
  rw [hw_] at hal_ hb_
  rw [← hxb_] at hb_
  have Hw1 := Lib.hid hw_
  have Hx1 := Lib.hid hxb_
  have Ha1 := Lib.hid hal_
  have Hb1 := Lib.hid hb_
  have Hz1 := Lib.hid hz_
  clear hal_ hb_ hxb_ hw_ hz_
  have Hc3 := Lib.hid (hc2.trans Ha1.out)
  have HP3 := Lib.hid (HP2.out _ Hc3.out)
  clear hc2 g1 g2 g3 g4 g5 HP1 HP2
  go_upto_region 2 with fail
  rw [Hw1.out, ← Hx1.out]
  go_wp2_with fail
  refine HP3.out.mono ?_
  rintro e w4 ⟨hc4, v, rfl, d2, h2, f2, _, _, _, _, _, _, rfl, ⟨g1, g2⟩, ⟨g3, g4⟩, g5⟩
  obtain ⟨qd2, cd2, rfl, -⟩ := g2.sh
  obtain ⟨qh2, ch2, rfl, -⟩ := g4.sh
  obtain ⟨qf2, cf2, rfl, -⟩ := g5.sh
  have hal_ := (Chg.refl NoB w4).alloc (.cells #[.int .i64 (resF (.error (17, 50))).1.name.kind, .string (tx (resF (.error (17, 50))).1.name.s), .slice qd2 (resF (.error (17, 50))).1.name.kids.length cd2, .int .i64 (resF (.error (17, 50))).1.version.kind, .string (tx (resF (.error (17, 50))).1.version.s), .slice qh2 (resF (.error (17, 50))).1.version.kids.length ch2, .slice qf2 (resF (.error (17, 50))).1.fields.length cf2] 29)
  have hb_ := heap_alloc_new w4 (.cells #[.int .i64 (resF (.error (17, 50))).1.name.kind, .string (tx (resF (.error (17, 50))).1.name.s), .slice qd2 (resF (.error (17, 50))).1.name.kids.length cd2, .int .i64 (resF (.error (17, 50))).1.version.kind, .string (tx (resF (.error (17, 50))).1.version.s), .slice qh2 (resF (.error (17, 50))).1.version.kids.length ch2, .slice qf2 (resF (.error (17, 50))).1.fields.length cf2] 29)
  obtain ⟨b4, hxb_⟩ : ∃ b, b = w4.heap.size := ⟨_, rfl⟩
  obtain ⟨w5, hw_⟩ : ∃ w_, w4.alloc (.cells #[.int .i64 (resF (.error (17, 50))).1.name.kind, .string (tx (resF (.error (17, 50))).1.name.s), .slice qd2 (resF (.error (17, 50))).1.name.kids.length cd2, .int .i64 (resF (.error (17, 50))).1.version.kind, .string (tx (resF (.error (17, 50))).1.version.s), .slice qh2 (resF (.error (17, 50))).1.version.kids.length ch2, .slice qf2 (resF (.error (17, 50))).1.fields.length cf2] 29) = w_ := ⟨_, rfl⟩
  have hz_ : w5.heap.size = b4 + 1 := by rw [← hw_, hxb_]; exact alloc_size _ _
  rw [hw_] at hal_ hb_
  rw [← hxb_] at hb_
  have Hw4 := Lib.hid hw_
  have Hx4 := Lib.hid hxb_
  have Ha4 := Lib.hid hal_
  have Hb4 := Lib.hid hb_
  have Hz4 := Lib.hid hz_
  clear hal_ hb_ hxb_ hw_ hz_
  have Hc5 := Lib.hid ((Hc3.out.trans hc4).trans Ha4.out)
  have hrow := row_kept (hc4.trans Ha4.out) Hb1.out id
  rw [Hn1.out, Hv1.out, Hf1.out] at hrow
  obtain ⟨x0, x1, x2, x3, x4, x5, x6⟩ := var7 hrow
  clear hc4 g1 g2 g3 g4 g5 hrow HP3
  go_upto_region 3 with fail
  rw [Hw4.out]
  have en3 := txQ [97]
  have q0 : (resF (.ok r)).2.2 = 0 := rfl
  have q1 : (resF (.ok r)).2.1 = 0 := rfl
  have q2 : (resF (.error (17, 50))).2.2 = 50 := rfl
  have q3 : (resF (.error (17, 50))).2.1 = 17 := rfl
  rw [q0, q1, q2, q3]
  clear q0 q1 q2 q3
  go_wp2_with fail
  go_ret
  exact ⟨rfl, Hc5.out⟩
end Go.Proofs.YtdgcpgbknfojhaaDoor
