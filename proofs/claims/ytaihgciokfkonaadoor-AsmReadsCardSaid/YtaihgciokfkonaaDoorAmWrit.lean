/- The contracts of the program's label and written. Conditions: the library's variables and the list of words read as listed; the text is not too long. -/
import Derived.Test.YtaihgciokfkonaaDoorAmIns

namespace Go.Proofs.YtaihgciokfkonaaDoor
set_option linter.unusedVariables false
open Go.ChangeShapes Go.WideShapes Go.ChangeAt Go.RowKit
theorem txCat (a b : List UInt8) : tx a ++ tx b = tx (a ++ b) := by
  apply ByteArray.ext
  simp [tx, ByteArray.data_append]
theorem label_any (k : Int) (hk0 : -9223372036854775808 ≤ k) (hk1 : k ≤ 9223372036854775807) (base : Nat) (w : World) (h : Lb base w) : Calls Tryd.prog 29 #[.int .i64 k] w (SayT (labT 108 k) w) := by
  have HI := Lib.hid (itoa_any k hk0 hk1 base w h)
  have hz : (tx (Lib.itoa k)).size ≤ 21 := by rw [tx_size]; exact Lib.itoa_length_le k hk0 hk1
  have e1 : (⟨(Lib.itoa k).toArray⟩ : ByteArray) = tx (Lib.itoa k) := rfl
  rw [e1] at HI
  have hlab := Lib.hid (show (⟨#[108]⟩ : ByteArray) ++ tx (Lib.itoa k) = tx (labT 108 k) from txCat [108] _)
  generalize tx (Lib.itoa k) = X at *
  have hx1 : ¬ 9223372036854775807 < 1 + X.size := by omega
  clear e1 hz
  go_enter Tryd.func29, Tryd.ntmps29
  go_wp2_with fail
  refine HI.out.mono ?_
  rintro e w2 ⟨rfl, hc2⟩
  have Hc2 := Lib.hid hc2
  go_wp2_with fail
  go_ret
  exact ⟨by rw [← hlab.out]; rfl, Hc2.out⟩
set_option maxHeartbeats 4000000 in
set_option maxRecDepth 20000 in
theorem written_any (x : InsL) (hx : x.wf) (hs : x.s.length ≤ 131072) (base : Nat) (w : World) (h : Av base w) : Calls Tryd.prog 30 #[x.val] w (SayT (writF 108 x) w) := by
  obtain ⟨op, n, s⟩ := x
  have hn := hx.2.1
  simp only at hs hn
  unfold InsL.val
  have hal_ := (Chg.refl NoB w).alloc (.cells #[.int .i64 op, .int .i64 n, .string (tx s)] 38)
  have hb_ := heap_alloc_new w (.cells #[.int .i64 op, .int .i64 n, .string (tx s)] 38)
  obtain ⟨b1, hxb_⟩ : ∃ b, b = w.heap.size := ⟨_, rfl⟩
  obtain ⟨w1, hw_⟩ : ∃ w_, w.alloc (.cells #[.int .i64 op, .int .i64 n, .string (tx s)] 38) = w_ := ⟨_, rfl⟩
  have hz_ : w1.heap.size = b1 + 1 := by rw [← hw_, hxb_]; exact alloc_size _ _
  rw [hw_] at hal_ hb_
  rw [← hxb_] at hb_
  have Hw1 := Lib.hid hw_
  have Hx1 := Lib.hid hxb_
  have Ha1 := Lib.hid hal_
  have Hb1 := Lib.hid hb_
  have Hz1 := Lib.hid hz_
  clear hal_ hb_ hxb_ hw_ hz_
  obtain ⟨c0, c1, c2⟩ := var3 Hb1.out
  have HW := Lib.hid (word_any op base w1 (h.keep Ha1.out).wd)
  have HT := Lib.hid (fun w => takes_any op w)
  have H := Lib.hid (h.keep Ha1.out)
  go_enter Tryd.func30, Tryd.ntmps30
  go_upto_region 1 with fail
  rw [Hw1.out, ← Hx1.out]
  go_wp2_with fail
  refine HW.out.mono ?_
  rintro e w2 ⟨rfl, hc2⟩
  have Hc2 := Lib.hid hc2
  have hwl := wordL_len op
  have hws : (tx (wordL op)).size ≤ 5 := by rw [tx_size]; exact hwl
  replace c0 := hc2.keep c0
  replace c1 := hc2.keep c1
  replace c2 := hc2.keep c2
  clear hc2
  go_wp2_with fail
  refine (HT.out _).mono ?_
  rintro e w3 ⟨rfl, hc3⟩
  have Hc3 := Lib.hid (Ha1.out.trans (Hc2.out.trans hc3))
  have H3 := Lib.hid (H.out.keep (Hc2.out.trans hc3))
  replace c0 := hc3.keep c0
  replace c1 := hc3.keep c1
  replace c2 := hc3.keep c2
  clear hc3
  have Hf := Lib.hid (show writF 108 ⟨op, n, s⟩ = wordL op ++ (if takesF op = 1 ∨ takesF op = 3 then 32 :: Lib.itoa n else if takesF op = 2 then 32 :: quoF s else if takesF op = 4 then 32 :: labT 108 n else []) from rfl)
  have htk : takesF op = 0 ∨ takesF op = 1 ∨ takesF op = 2 ∨ takesF op = 3 ∨ takesF op = 4 := by unfold takesF; (repeat' split) <;> omega
  have HI := Lib.hid (itoa_any n hn.1 hn.2 base w3 H3.out.lb)
  have HL := Lib.hid (label_any n hn.1 hn.2 base w3 H3.out.lb)
  have HQ := Lib.hid (text_any s w3 hs)
  have hzi : (tx (Lib.itoa n)).size ≤ 21 := by rw [tx_size]; exact Lib.itoa_length_le n hn.1 hn.2
  have hzl : (tx (labT 108 n)).size ≤ 22 := by rw [tx_size]; have := Lib.itoa_length_le n hn.1 hn.2; simp only [labT, List.length_cons]; omega
  have hzq : (tx (quoF s)).size ≤ 393218 := by rw [tx_size]; have := quoF_len s; omega
  have e1 : (⟨(Lib.itoa n).toArray⟩ : ByteArray) = tx (Lib.itoa n) := rfl
  rw [e1] at HI
  have hcat := Lib.hid (fun l : List UInt8 => show (tx (wordL op) ++ ⟨#[32]⟩) ++ tx l = tx (wordL op ++ 32 :: l) by
    have : (⟨#[32]⟩ : ByteArray) = tx [32] := rfl
    rw [this, txCat, txCat, List.append_assoc]; rfl)
  have hz1 : (tx (wordL op) ++ (⟨#[32]⟩ : ByteArray)).size ≤ 6 := by
    rw [ByteArray.size_append]
    have : (⟨#[32]⟩ : ByteArray).size = 1 := rfl
    omega
  clear e1 hwl
  generalize wordL op = wd at *
  generalize takesF op = tk at *
  rcases htk with rfl | rfl | rfl | rfl | rfl
  · go_wp2_with fail
    go_ret
    exact ⟨by rw [Hf.out]; simp, Hc3.out⟩
  · skip
    go_wp2_with fail
    refine HI.out.mono ?_
    rintro e w4 ⟨rfl, hc4⟩
    have Hc4 := Lib.hid (Hc3.out.trans hc4)
    clear hc4 c0 c1 c2
    have hx0 : ¬ 9223372036854775807 < (tx wd).size + 1 := by omega
    have hx1 : ¬ 9223372036854775807 < (tx wd).size + 1 + (tx (Lib.itoa n)).size := by omega
    go_wp2_with fail
    go_ret
    refine ⟨?_, Hc4.out⟩
    rw [Hf.out]
    exact congrArg (fun X => Ending.returned (Value.string X)) (hcat.out (Lib.itoa n))
  · skip
    go_wp2_with fail
    refine HQ.out.mono ?_
    rintro e w4 ⟨rfl, hc4⟩
    have Hc4 := Lib.hid (Hc3.out.trans hc4)
    clear hc4 c0 c1 c2
    have hx0 : ¬ 9223372036854775807 < (tx wd).size + 1 := by omega
    have hx1 : ¬ 9223372036854775807 < (tx wd).size + 1 + (tx (quoF s)).size := by omega
    go_wp2_with fail
    go_ret
    refine ⟨?_, Hc4.out⟩
    rw [Hf.out]
    exact congrArg (fun X => Ending.returned (Value.string X)) (hcat.out (quoF s))
  · skip
    go_wp2_with fail
    refine HI.out.mono ?_
    rintro e w4 ⟨rfl, hc4⟩
    have Hc4 := Lib.hid (Hc3.out.trans hc4)
    clear hc4 c0 c1 c2
    have hx0 : ¬ 9223372036854775807 < (tx wd).size + 1 := by omega
    have hx1 : ¬ 9223372036854775807 < (tx wd).size + 1 + (tx (Lib.itoa n)).size := by omega
    go_wp2_with fail
    go_ret
    refine ⟨?_, Hc4.out⟩
    rw [Hf.out]
    exact congrArg (fun X => Ending.returned (Value.string X)) (hcat.out (Lib.itoa n))
  · skip
    go_wp2_with fail
    refine HL.out.mono ?_
    rintro e w4 ⟨rfl, hc4⟩
    have Hc4 := Lib.hid (Hc3.out.trans hc4)
    clear hc4 c0 c1 c2
    have hx0 : ¬ 9223372036854775807 < (tx wd).size + 1 := by omega
    have hx1 : ¬ 9223372036854775807 < (tx wd).size + 1 + (tx (labT 108 n)).size := by omega
    go_wp2_with fail
    go_ret
    refine ⟨?_, Hc4.out⟩
    rw [Hf.out]
    exact congrArg (fun X => Ending.returned (Value.string X)) (hcat.out (labT 108 n))
end Go.Proofs.YtaihgciokfkonaaDoor
