/- The contract of the program's instruction: numbers. Conditions: as in AmIns. -/
import Derived.Test.YtaihgciokfkonaaDoorAmIns

/- the result is laid, the call ends: u5 the world ahead of it, HC5 what changed till then -/
/- the second box has one cell more: its row, all else as it was -/

namespace Go.Proofs.YtaihgciokfkonaaDoor
set_option linter.unusedVariables false
open Go.ChangeShapes Go.WideShapes Go.ChangeAt Go.RowKit
set_option maxHeartbeats 4000000 in
set_option maxRecDepth 20000 in
theorem inst_one (t : List UInt8) (base : Nat) (w : World) (h : Av base w) (hs : t.length ≤ 65536) (h0 : (opF (cutW t).1 : Int) ≠ 0) (hm : (cutW t).2.2 = decide (takesF (opF (cutW t).1) ≠ 0)) (htk : takesF (opF (cutW t).1) = 1) : Calls Tryd.prog 39 #[.string (tx t)] w (InsP (insF t) w) := by
  have Hr := Lib.hid (show insF t = insG (opF (cutW t).1) (cutW t).2.2 (cutW t).2.1 from rfl)
  have hal_ := (Chg.refl NoB w).alloc (.cells #[.int .i64 0, .int .i64 0, .int .i64 0, .string ⟨#[]⟩, .string ⟨#[]⟩] 76)
  have hb_ := heap_alloc_new w (.cells #[.int .i64 0, .int .i64 0, .int .i64 0, .string ⟨#[]⟩, .string ⟨#[]⟩] 76)
  obtain ⟨b1, hxb_⟩ : ∃ b, b = w.heap.size := ⟨_, rfl⟩
  obtain ⟨w1, hw_⟩ : ∃ w_, w.alloc (.cells #[.int .i64 0, .int .i64 0, .int .i64 0, .string ⟨#[]⟩, .string ⟨#[]⟩] 76) = w_ := ⟨_, rfl⟩
  have hz_ : w1.heap.size = b1 + 1 := by rw [← hw_, hxb_]; exact alloc_size _ _
  rw [hw_] at hal_ hb_
  rw [← hxb_] at hb_
  have Hw1 := Lib.hid hw_
  have Hx1 := Lib.hid hxb_
  have Ha1 := Lib.hid hal_
  have Hb1 := Lib.hid hb_
  have Hz1 := Lib.hid hz_
  clear hal_ hb_ hxb_ hw_ hz_
  have HC := Lib.hid (cutW_any t base w1 (h.keep Ha1.out).lb (by omega))
  have hop := opF_lt (cutW t).1
  have hlen := (cutW_len t).2
  generalize cutW t = cw at *
  obtain ⟨wd, rest, more⟩ := cw
  simp only at *
  have HO := Lib.hid (fun w (h : Wd base w) => op_any wd base w h)
  generalize hopd : (opF wd : Int) = op at *
  have HT := Lib.hid (fun w => takes_any op w)
  have hop2 : 0 ≤ op ∧ op < 31 := by omega
  clear hopd
  have H := Lib.hid h
  clear hop h
  have h0b : (op == 0) = false := by simp [h0]
  replace Hr := Lib.hid (show insF t = if takesF op = 1 ∨ takesF op = 3 then (digP rest).map fun n => (⟨op, n, []⟩, []) else if takesF op = 2 then (wholeF rest).map fun s => (⟨op, 0, s⟩, []) else if takesF op = 4 then (if Pth.nameL rest = true then some (⟨op, 0, []⟩, rest) else none) else some (⟨op, 0, []⟩, []) by
    rw [Hr.out]; exact if_neg (by rintro (h | h); exact h0 h; exact h hm))
  clear h0
  rw [htk] at hm HT Hr
  replace Hr := Lib.hid (show insF t = (digP rest).map fun n => (⟨op, n, []⟩, []) by rw [Hr.out]; rfl)
  obtain rfl : more = true := by simpa using hm
  have HD := Lib.hid (fun w (h : Lb base w) => digits_any (tx rest) base w h (by rw [tx_size]; omega))
  rw [tx_list] at HD
  clear hm htk
  go_enter Tryd.func39, Tryd.ntmps39
  go_upto_region 1 with fail
  rw [Hw1.out, ← Hx1.out]
  go_wp2_with fail
  refine HC.out.mono ?_
  rintro e w2 ⟨hc2, rfl⟩
  have Hc2 := Lib.hid hc2
  clear hc2
  go_wp2_with fail
  refine (HO.out _ (H.out.keep (Ha1.out.trans Hc2.out)).wd).mono ?_
  rintro e w3 ⟨rfl, hc3⟩
  have Hc3 := Lib.hid (Hc2.out.trans hc3)
  clear hc3 Hc2
  have hal_ := (Chg.refl NoB w3).alloc (.cells #[.int .i64 0, .int .i64 op, .int .i64 0, .string ⟨#[]⟩, .string ⟨#[]⟩] 76)
  have hb_ := heap_alloc_new w3 (.cells #[.int .i64 0, .int .i64 op, .int .i64 0, .string ⟨#[]⟩, .string ⟨#[]⟩] 76)
  obtain ⟨b4, hxb_⟩ : ∃ b, b = w3.heap.size := ⟨_, rfl⟩
  obtain ⟨w4, hw_⟩ : ∃ w_, w3.alloc (.cells #[.int .i64 0, .int .i64 op, .int .i64 0, .string ⟨#[]⟩, .string ⟨#[]⟩] 76) = w_ := ⟨_, rfl⟩
  have hz_ : w4.heap.size = b4 + 1 := by rw [← hw_, hxb_]; exact alloc_size _ _
  rw [hw_] at hal_ hb_
  rw [← hxb_] at hb_
  have Hw4 := Lib.hid hw_
  have Hx4 := Lib.hid hxb_
  have Ha4 := Lib.hid hal_
  have Hb4 := Lib.hid hb_
  have Hz4 := Lib.hid hz_
  clear hal_ hb_ hxb_ hw_ hz_
  have c0 : w4.cell? ⟨b4, 0, none⟩ = some (.int .i64 0) := (var5' Hb4.out).1
  have c1 : w4.cell? ⟨b4, 1, none⟩ = some (.int .i64 op) := (var5' Hb4.out).2.1
  go_upto_region 3 with fail
  rw [Hw4.out, ← Hx4.out]
  go_wp2_with fail
  refine (HT.out _).mono ?_
  rintro e w5 ⟨rfl, hc5⟩
  have Hc5 := Lib.hid hc5
  have Hb14 := Lib.hid (row_kept (Hc3.out.trans Ha4.out) Hb1.out id)
  have Hb15 := Lib.hid (row_kept hc5 Hb14.out id)
  have Hb45 := Lib.hid (row_kept hc5 Hb4.out id)
  have Hne := Lib.hid (show b1 ≠ b4 by have := Hx1.out; have := Hz1.out; have := Hx4.out; have := Hc3.out.size; omega)
  have Hc15 := Lib.hid (((Ha1.out.trans Hc3.out).trans Ha4.out).trans hc5)
  clear hc5 c0 c1
  obtain ⟨c0, c1, c2, c3, c4⟩ := var5' Hb45.out
  obtain ⟨d0, d1, d2, d3, d4⟩ := var5' Hb15.out
  have fr := row_free Hb15.out
  have fs := row_free Hb45.out
  go_wp2_with fail
  refine (HD.out _ (H.out.keep Hc15.out).lb).mono ?_
  rintro e w6 ⟨hc6, he6⟩
  have Hb16 := Lib.hid (row_kept hc6 Hb15.out id)
  have Hb46 := Lib.hid (row_kept hc6 Hb45.out id)
  have Hc16 := Lib.hid (Hc15.out.trans hc6)
  clear c0 c1 c2 c3 c4 d0 d1 d2 d3 d4 fr fs hc6
  obtain ⟨c0, c1, c2, c3, c4⟩ := var5' Hb46.out
  obtain ⟨d0, d1, d2, d3, d4⟩ := var5' Hb16.out
  have fr := row_free Hb16.out
  have fs := row_free Hb46.out
  generalize digP rest = o at *
  cases o with
  | none =>
    obtain rfl : e = .returned (.tuple #[.int .i64 0, .bool false]) := he6
    go_upto_region 15 with fail
    have hs4 := (Chg.refl (fun k => k = b4) w6).setCell (p := ⟨b4, 2, none⟩) (.inl rfl) (.int .i64 0)
    have Hb17 := Lib.hid (row_kept hs4 Hb16.out (fun e => Hne.out e))
    have Hb47 := Lib.hid (heap_set Hb46.out (i := 2) (.int .i64 0))
    have Hc17 := Lib.hid (Hc16.out.above hs4 (fun k e => by have := Hx4.out; have := (Ha1.out.trans Hc3.out).size; omega))
    clear hs4 c0 c1 c2 c3 c4 d0 d1 d2 d3 d4 fr fs
    generalize w6.setCell ⟨b4, 2, none⟩ (.int .i64 0) = w7 at *
    obtain ⟨c0, c1, c2, c3, c4⟩ := var5' Hb47.out
    obtain ⟨d0, d1, d2, d3, d4⟩ := var5' Hb17.out
    have fr := row_free Hb17.out
    go_wp2_with fail
    have HS := set5 Hb17.out
    exact bodyPost_ret (res_cell2 (p := 2) (t := 3) (ty := 76) rfl _ rfl (run_loadVar_row _ _ _ _ _ _ _ (HS _ _ _ _ _).1 (Tryd.underlying76) rfl rfl)) rfl ⟨(Hc17.out).above (HS _ _ _ _ _).2 fun k e => by have := Hx1.out; omega, by rw [Hr.out]; exact ⟨_, _, _, _, rfl⟩⟩
  | some N =>
    obtain rfl : e = .returned (.tuple #[.int .i64 N, .bool true]) := he6
    go_upto_region 15 with fail
    have hs4 := (Chg.refl (fun k => k = b4) w6).setCell (p := ⟨b4, 2, none⟩) (.inl rfl) (.int .i64 N)
    have Hb17 := Lib.hid (row_kept hs4 Hb16.out (fun e => Hne.out e))
    have Hb47 := Lib.hid (heap_set Hb46.out (i := 2) (.int .i64 N))
    have Hc17 := Lib.hid (Hc16.out.above hs4 (fun k e => by have := Hx4.out; have := (Ha1.out.trans Hc3.out).size; omega))
    clear hs4 c0 c1 c2 c3 c4 d0 d1 d2 d3 d4 fr fs
    generalize w6.setCell ⟨b4, 2, none⟩ (.int .i64 N) = w7 at *
    obtain ⟨c0, c1, c2, c3, c4⟩ := var5' Hb47.out
    obtain ⟨d0, d1, d2, d3, d4⟩ := var5' Hb17.out
    have fr := row_free Hb17.out
    go_wp2_with fail
    have HS := set5 Hb17.out
    exact bodyPost_ret (res_cell2 (p := 2) (t := 3) (ty := 76) rfl _ rfl (run_loadVar_row _ _ _ _ _ _ _ (HS _ _ _ _ _).1 (Tryd.underlying76) rfl rfl)) rfl ⟨(Hc17.out).above (HS _ _ _ _ _).2 fun k e => by have := Hx1.out; omega, by rw [Hr.out]; rfl⟩
set_option maxHeartbeats 4000000 in
set_option maxRecDepth 20000 in
theorem inst_three (t : List UInt8) (base : Nat) (w : World) (h : Av base w) (hs : t.length ≤ 65536) (h0 : (opF (cutW t).1 : Int) ≠ 0) (hm : (cutW t).2.2 = decide (takesF (opF (cutW t).1) ≠ 0)) (htk : takesF (opF (cutW t).1) = 3) : Calls Tryd.prog 39 #[.string (tx t)] w (InsP (insF t) w) := by
  have Hr := Lib.hid (show insF t = insG (opF (cutW t).1) (cutW t).2.2 (cutW t).2.1 from rfl)
  have hal_ := (Chg.refl NoB w).alloc (.cells #[.int .i64 0, .int .i64 0, .int .i64 0, .string ⟨#[]⟩, .string ⟨#[]⟩] 76)
  have hb_ := heap_alloc_new w (.cells #[.int .i64 0, .int .i64 0, .int .i64 0, .string ⟨#[]⟩, .string ⟨#[]⟩] 76)
  obtain ⟨b1, hxb_⟩ : ∃ b, b = w.heap.size := ⟨_, rfl⟩
  obtain ⟨w1, hw_⟩ : ∃ w_, w.alloc (.cells #[.int .i64 0, .int .i64 0, .int .i64 0, .string ⟨#[]⟩, .string ⟨#[]⟩] 76) = w_ := ⟨_, rfl⟩
  have hz_ : w1.heap.size = b1 + 1 := by rw [← hw_, hxb_]; exact alloc_size _ _
  rw [hw_] at hal_ hb_
  rw [← hxb_] at hb_
  have Hw1 := Lib.hid hw_
  have Hx1 := Lib.hid hxb_
  have Ha1 := Lib.hid hal_
  have Hb1 := Lib.hid hb_
  have Hz1 := Lib.hid hz_
  clear hal_ hb_ hxb_ hw_ hz_
  have HC := Lib.hid (cutW_any t base w1 (h.keep Ha1.out).lb (by omega))
  have hop := opF_lt (cutW t).1
  have hlen := (cutW_len t).2
  generalize cutW t = cw at *
  obtain ⟨wd, rest, more⟩ := cw
  simp only at *
  have HO := Lib.hid (fun w (h : Wd base w) => op_any wd base w h)
  generalize hopd : (opF wd : Int) = op at *
  have HT := Lib.hid (fun w => takes_any op w)
  have hop2 : 0 ≤ op ∧ op < 31 := by omega
  clear hopd
  have H := Lib.hid h
  clear hop h
  have h0b : (op == 0) = false := by simp [h0]
  replace Hr := Lib.hid (show insF t = if takesF op = 1 ∨ takesF op = 3 then (digP rest).map fun n => (⟨op, n, []⟩, []) else if takesF op = 2 then (wholeF rest).map fun s => (⟨op, 0, s⟩, []) else if takesF op = 4 then (if Pth.nameL rest = true then some (⟨op, 0, []⟩, rest) else none) else some (⟨op, 0, []⟩, []) by
    rw [Hr.out]; exact if_neg (by rintro (h | h); exact h0 h; exact h hm))
  clear h0
  rw [htk] at hm HT Hr
  replace Hr := Lib.hid (show insF t = (digP rest).map fun n => (⟨op, n, []⟩, []) by rw [Hr.out]; rfl)
  obtain rfl : more = true := by simpa using hm
  have HD := Lib.hid (fun w (h : Lb base w) => digits_any (tx rest) base w h (by rw [tx_size]; omega))
  rw [tx_list] at HD
  clear hm htk
  go_enter Tryd.func39, Tryd.ntmps39
  go_upto_region 1 with fail
  rw [Hw1.out, ← Hx1.out]
  go_wp2_with fail
  refine HC.out.mono ?_
  rintro e w2 ⟨hc2, rfl⟩
  have Hc2 := Lib.hid hc2
  clear hc2
  go_wp2_with fail
  refine (HO.out _ (H.out.keep (Ha1.out.trans Hc2.out)).wd).mono ?_
  rintro e w3 ⟨rfl, hc3⟩
  have Hc3 := Lib.hid (Hc2.out.trans hc3)
  clear hc3 Hc2
  have hal_ := (Chg.refl NoB w3).alloc (.cells #[.int .i64 0, .int .i64 op, .int .i64 0, .string ⟨#[]⟩, .string ⟨#[]⟩] 76)
  have hb_ := heap_alloc_new w3 (.cells #[.int .i64 0, .int .i64 op, .int .i64 0, .string ⟨#[]⟩, .string ⟨#[]⟩] 76)
  obtain ⟨b4, hxb_⟩ : ∃ b, b = w3.heap.size := ⟨_, rfl⟩
  obtain ⟨w4, hw_⟩ : ∃ w_, w3.alloc (.cells #[.int .i64 0, .int .i64 op, .int .i64 0, .string ⟨#[]⟩, .string ⟨#[]⟩] 76) = w_ := ⟨_, rfl⟩
  have hz_ : w4.heap.size = b4 + 1 := by rw [← hw_, hxb_]; exact alloc_size _ _
  rw [hw_] at hal_ hb_
  rw [← hxb_] at hb_
  have Hw4 := Lib.hid hw_
  have Hx4 := Lib.hid hxb_
  have Ha4 := Lib.hid hal_
  have Hb4 := Lib.hid hb_
  have Hz4 := Lib.hid hz_
  clear hal_ hb_ hxb_ hw_ hz_
  have c0 : w4.cell? ⟨b4, 0, none⟩ = some (.int .i64 0) := (var5' Hb4.out).1
  have c1 : w4.cell? ⟨b4, 1, none⟩ = some (.int .i64 op) := (var5' Hb4.out).2.1
  go_upto_region 3 with fail
  rw [Hw4.out, ← Hx4.out]
  go_wp2_with fail
  refine (HT.out _).mono ?_
  rintro e w5 ⟨rfl, hc5⟩
  have Hc5 := Lib.hid hc5
  have Hb14 := Lib.hid (row_kept (Hc3.out.trans Ha4.out) Hb1.out id)
  have Hb15 := Lib.hid (row_kept hc5 Hb14.out id)
  have Hb45 := Lib.hid (row_kept hc5 Hb4.out id)
  have Hne := Lib.hid (show b1 ≠ b4 by have := Hx1.out; have := Hz1.out; have := Hx4.out; have := Hc3.out.size; omega)
  have Hc15 := Lib.hid (((Ha1.out.trans Hc3.out).trans Ha4.out).trans hc5)
  clear hc5 c0 c1
  obtain ⟨c0, c1, c2, c3, c4⟩ := var5' Hb45.out
  obtain ⟨d0, d1, d2, d3, d4⟩ := var5' Hb15.out
  have fr := row_free Hb15.out
  have fs := row_free Hb45.out
  go_wp2_with fail
  refine (HD.out _ (H.out.keep Hc15.out).lb).mono ?_
  rintro e w6 ⟨hc6, he6⟩
  have Hb16 := Lib.hid (row_kept hc6 Hb15.out id)
  have Hb46 := Lib.hid (row_kept hc6 Hb45.out id)
  have Hc16 := Lib.hid (Hc15.out.trans hc6)
  clear c0 c1 c2 c3 c4 d0 d1 d2 d3 d4 fr fs hc6
  obtain ⟨c0, c1, c2, c3, c4⟩ := var5' Hb46.out
  obtain ⟨d0, d1, d2, d3, d4⟩ := var5' Hb16.out
  have fr := row_free Hb16.out
  have fs := row_free Hb46.out
  generalize digP rest = o at *
  cases o with
  | none =>
    obtain rfl : e = .returned (.tuple #[.int .i64 0, .bool false]) := he6
    go_upto_region 15 with fail
    have hs4 := (Chg.refl (fun k => k = b4) w6).setCell (p := ⟨b4, 2, none⟩) (.inl rfl) (.int .i64 0)
    have Hb17 := Lib.hid (row_kept hs4 Hb16.out (fun e => Hne.out e))
    have Hb47 := Lib.hid (heap_set Hb46.out (i := 2) (.int .i64 0))
    have Hc17 := Lib.hid (Hc16.out.above hs4 (fun k e => by have := Hx4.out; have := (Ha1.out.trans Hc3.out).size; omega))
    clear hs4 c0 c1 c2 c3 c4 d0 d1 d2 d3 d4 fr fs
    generalize w6.setCell ⟨b4, 2, none⟩ (.int .i64 0) = w7 at *
    obtain ⟨c0, c1, c2, c3, c4⟩ := var5' Hb47.out
    obtain ⟨d0, d1, d2, d3, d4⟩ := var5' Hb17.out
    have fr := row_free Hb17.out
    go_wp2_with fail
    have HS := set5 Hb17.out
    exact bodyPost_ret (res_cell2 (p := 2) (t := 3) (ty := 76) rfl _ rfl (run_loadVar_row _ _ _ _ _ _ _ (HS _ _ _ _ _).1 (Tryd.underlying76) rfl rfl)) rfl ⟨(Hc17.out).above (HS _ _ _ _ _).2 fun k e => by have := Hx1.out; omega, by rw [Hr.out]; exact ⟨_, _, _, _, rfl⟩⟩
  | some N =>
    obtain rfl : e = .returned (.tuple #[.int .i64 N, .bool true]) := he6
    go_upto_region 15 with fail
    have hs4 := (Chg.refl (fun k => k = b4) w6).setCell (p := ⟨b4, 2, none⟩) (.inl rfl) (.int .i64 N)
    have Hb17 := Lib.hid (row_kept hs4 Hb16.out (fun e => Hne.out e))
    have Hb47 := Lib.hid (heap_set Hb46.out (i := 2) (.int .i64 N))
    have Hc17 := Lib.hid (Hc16.out.above hs4 (fun k e => by have := Hx4.out; have := (Ha1.out.trans Hc3.out).size; omega))
    clear hs4 c0 c1 c2 c3 c4 d0 d1 d2 d3 d4 fr fs
    generalize w6.setCell ⟨b4, 2, none⟩ (.int .i64 N) = w7 at *
    obtain ⟨c0, c1, c2, c3, c4⟩ := var5' Hb47.out
    obtain ⟨d0, d1, d2, d3, d4⟩ := var5' Hb17.out
    have fr := row_free Hb17.out
    go_wp2_with fail
    have HS := set5 Hb17.out
    exact bodyPost_ret (res_cell2 (p := 2) (t := 3) (ty := 76) rfl _ rfl (run_loadVar_row _ _ _ _ _ _ _ (HS _ _ _ _ _).1 (Tryd.underlying76) rfl rfl)) rfl ⟨(Hc17.out).above (HS _ _ _ _ _).2 fun k e => by have := Hx1.out; omega, by rw [Hr.out]; rfl⟩
end Go.Proofs.YtaihgciokfkonaaDoor
