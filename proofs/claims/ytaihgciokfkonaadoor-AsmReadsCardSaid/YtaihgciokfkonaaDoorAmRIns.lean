/- The contract of the document's reading of a line as an instruction: none, bare, numbers, texts. Conditions: the library's variables read as listed; the line is not too long. -/
import Derived.Test.YtaihgciokfkonaaDoorAmRSpl
import Derived.Test.YtaihgciokfkonaaDoorAmUnq
import Derived.Test.YtaihgciokfkonaaDoorAmIns
import Derived.Deep.QuietTactic
import Derived.BigQuiet

/- the result is laid, the call ends -/
/- the second box has one cell more -/

namespace Go.Proofs.YtaihgciokfkonaaDoor
set_option linter.unusedVariables false
open Go.ChangeShapes Go.WideShapes Go.ChangeAt Go.RowKit
theorem res_cell3 {fn : Func} {p t u : Tmp} {ty : TypeId} (h : fn.results = #[.cell p ty, .tmp t, .tmp u]) (tmps : Array Value) {P : Program} {w : World} {a : Addr} {v : Value} (hp : tmps.getD p undef = .pointer (some a)) (hl : (loadVar ty a).run P w = .ok v w) : (results fn tmps).run P w = .ok (.tuple #[v, tmps.getD t undef, tmps.getD u undef]) w := by
  rw [Array.getD_eq_getD_getElem?] at hp
  simp only [results, h]
  simp [Result.andThen, hp, asAddr, hl]
theorem set3 {w : World} {b : Nat} {x0 x1 x2 : Value} {t : TypeId} (h : w.heap[b]? = some (.cells #[x0, x1, x2] t (0, 0))) (y0 y1 y2 : Value) :
    (((w.setCell ⟨b, 0, none⟩ y0).setCell ⟨b, 1, none⟩ y1).setCell ⟨b, 2, none⟩ y2).heap[b]? = some (.cells #[y0, y1, y2] t (0, 0)) ∧
    Chg (fun k => k = b) w (((w.setCell ⟨b, 0, none⟩ y0).setCell ⟨b, 1, none⟩ y1).setCell ⟨b, 2, none⟩ y2) := by
  have h0 := heap_set h (i := 0) y0
  have h1 := heap_set h0 (i := 1) y1
  have h2 := heap_set h1 (i := 2) y2
  refine ⟨h2, ?_⟩
  exact ((((Chg.refl (fun k => k = b) w).setCell (p := ⟨b, 0, none⟩) (.inl rfl) y0).setCell (p := ⟨b, 1, none⟩) (.inl rfl) y1).setCell (p := ⟨b, 2, none⟩) (.inl rfl) y2)
def InsRP (o : Option (InsL × List UInt8)) (w : World) (e : Ending) (w' : World) : Prop := Chg NoB w w' ∧ match o with
  | some (x, l) => e = .returned (.tuple #[x.val, .string (tx l), .bool true])
  | none => ∃ op n s l, e = .returned (.tuple #[.agg #[.int .i64 op, .int .i64 n, .string s], .string l, .bool false])
set_option maxHeartbeats 4000000 in
set_option maxRecDepth 20000 in
theorem rins_none (t : List UInt8) (base : Nat) (w : World) (h : Lb base w) (hs : t.length ≤ 65536) (h0 : (opF (cutW t).1 : Int) = 0) : Calls Tryd.prog 22 #[.string (tx t)] w (InsRP (insF t) w) := by
  have Hr := Lib.hid (show insF t = insG (opF (cutW t).1) (cutW t).2.2 (cutW t).2.1 from rfl)
  have hal_ := (Chg.refl NoB w).alloc (.cells #[.int .i64 0, .int .i64 0, .string ⟨#[]⟩] 38)
  have hb_ := heap_alloc_new w (.cells #[.int .i64 0, .int .i64 0, .string ⟨#[]⟩] 38)
  obtain ⟨b2, hxb_⟩ : ∃ b, b = w.heap.size := ⟨_, rfl⟩
  obtain ⟨w1, hw_⟩ : ∃ w_, w.alloc (.cells #[.int .i64 0, .int .i64 0, .string ⟨#[]⟩] 38) = w_ := ⟨_, rfl⟩
  have hz_ : w1.heap.size = b2 + 1 := by rw [← hw_, hxb_]; exact alloc_size _ _
  rw [hw_] at hal_ hb_
  rw [← hxb_] at hb_
  have Hw2 := Lib.hid hw_
  have Hx2 := Lib.hid hxb_
  have Ha2 := Lib.hid hal_
  have Hb2 := Lib.hid hb_
  have Hz2 := Lib.hid hz_
  clear hal_ hb_ hxb_ hw_ hz_
  have HC := Lib.hid (split_any t w1 (by omega))
  have hop := opF_lt (cutW t).1
  have hlen := (cutW_len t).2
  generalize cutW t = cw at *
  obtain ⟨wd, rest, more⟩ := cw
  simp only at *
  have HO := Lib.hid (fun w => refOp_any wd w)
  generalize hopd : (opF wd : Int) = op at *
  have hop2 : 0 ≤ op ∧ op < 31 := by omega
  have HT := Lib.hid (fun w => refTakes_any op (by omega) (by omega) w)
  clear hopd
  have H := Lib.hid h
  clear hop h
  have h0b : (op == 0) = true := by simp [h0]
  replace Hr := Lib.hid (show insF t = none by rw [Hr.out]; exact if_pos (.inl h0))
  clear h0
  go_enter Tryd.func22, Tryd.ntmps22
  go_upto_region 1 with fail
  rw [Hw2.out, ← Hx2.out]
  go_wp2_with fail
  refine HC.out.mono ?_
  rintro e w2 ⟨rfl, hc2⟩
  have Hc2 := Lib.hid hc2
  clear hc2
  go_wp2_with fail
  refine (HO.out _).mono ?_
  rintro e w3 ⟨rfl, hc3⟩
  have Hc3 := Lib.hid (Hc2.out.trans hc3)
  clear hc3 Hc2
  have hal_ := (Chg.refl NoB w3).alloc (.cells #[.int .i64 op, .int .i64 0, .string ⟨#[]⟩] 38)
  have hb_ := heap_alloc_new w3 (.cells #[.int .i64 op, .int .i64 0, .string ⟨#[]⟩] 38)
  obtain ⟨b8, hxb_⟩ : ∃ b, b = w3.heap.size := ⟨_, rfl⟩
  obtain ⟨w4, hw_⟩ : ∃ w_, w3.alloc (.cells #[.int .i64 op, .int .i64 0, .string ⟨#[]⟩] 38) = w_ := ⟨_, rfl⟩
  have hz_ : w4.heap.size = b8 + 1 := by rw [← hw_, hxb_]; exact alloc_size _ _
  rw [hw_] at hal_ hb_
  rw [← hxb_] at hb_
  have Hw8 := Lib.hid hw_
  have Hx8 := Lib.hid hxb_
  have Ha8 := Lib.hid hal_
  have Hb8 := Lib.hid hb_
  have Hz8 := Lib.hid hz_
  clear hal_ hb_ hxb_ hw_ hz_
  obtain ⟨c0, c1, c2⟩ := var3 Hb8.out
  go_upto_region 3 with fail
  rw [Hw8.out, ← Hx8.out]
  go_wp2_with fail
  refine (HT.out _).mono ?_
  rintro e w5 ⟨rfl, hc5⟩
  have Hc5 := Lib.hid hc5
  have Hb24 := Lib.hid (row_kept (Hc3.out.trans Ha8.out) Hb2.out id)
  have Hb25 := Lib.hid (row_kept hc5 Hb24.out id)
  have Hb85 := Lib.hid (row_kept hc5 Hb8.out id)
  have Hne := Lib.hid (show b2 ≠ b8 by have := Hx2.out; have := Hz2.out; have := Hx8.out; have := Hc3.out.size; omega)
  have Hc25 := Lib.hid (((Ha2.out.trans Hc3.out).trans Ha8.out).trans hc5)
  clear hc5 c0 c1 c2
  obtain ⟨c0, c1, c2⟩ := var3 Hb85.out
  obtain ⟨d0, d1, d2⟩ := var3 Hb25.out
  have fr := row_free Hb25.out
  have fs := row_free Hb85.out
  go_wp2_with fail
  have HS := set3 Hb25.out
  exact bodyPost_ret (res_cell3 (p := 2) (t := 3) (u := 4) (ty := 38) rfl _ rfl (run_loadVar_row _ _ _ _ _ _ _ (HS _ _ _).1 (Tryd.underlying38) rfl rfl)) rfl ⟨(Hc25.out).above (HS _ _ _).2 fun k e => by have := Hx2.out; omega, by rw [Hr.out]; exact ⟨_, _, _, _, rfl⟩⟩
set_option maxHeartbeats 4000000 in
set_option maxRecDepth 20000 in
theorem rins_bad (t : List UInt8) (base : Nat) (w : World) (h : Lb base w) (hs : t.length ≤ 65536) (h0 : (opF (cutW t).1 : Int) ≠ 0) (hm : (cutW t).2.2 ≠ decide (takesF (opF (cutW t).1) ≠ 0)) (nb : Bool) (htk : decide (takesF (opF (cutW t).1) ≠ 0) = nb) : Calls Tryd.prog 22 #[.string (tx t)] w (InsRP (insF t) w) := by
  have Hr := Lib.hid (show insF t = insG (opF (cutW t).1) (cutW t).2.2 (cutW t).2.1 from rfl)
  have hal_ := (Chg.refl NoB w).alloc (.cells #[.int .i64 0, .int .i64 0, .string ⟨#[]⟩] 38)
  have hb_ := heap_alloc_new w (.cells #[.int .i64 0, .int .i64 0, .string ⟨#[]⟩] 38)
  obtain ⟨b2, hxb_⟩ : ∃ b, b = w.heap.size := ⟨_, rfl⟩
  obtain ⟨w1, hw_⟩ : ∃ w_, w.alloc (.cells #[.int .i64 0, .int .i64 0, .string ⟨#[]⟩] 38) = w_ := ⟨_, rfl⟩
  have hz_ : w1.heap.size = b2 + 1 := by rw [← hw_, hxb_]; exact alloc_size _ _
  rw [hw_] at hal_ hb_
  rw [← hxb_] at hb_
  have Hw2 := Lib.hid hw_
  have Hx2 := Lib.hid hxb_
  have Ha2 := Lib.hid hal_
  have Hb2 := Lib.hid hb_
  have Hz2 := Lib.hid hz_
  clear hal_ hb_ hxb_ hw_ hz_
  have HC := Lib.hid (split_any t w1 (by omega))
  have hop := opF_lt (cutW t).1
  have hlen := (cutW_len t).2
  generalize cutW t = cw at *
  obtain ⟨wd, rest, more⟩ := cw
  simp only at *
  have HO := Lib.hid (fun w => refOp_any wd w)
  generalize hopd : (opF wd : Int) = op at *
  have hop2 : 0 ≤ op ∧ op < 31 := by omega
  have HT := Lib.hid (fun w => refTakes_any op (by omega) (by omega) w)
  clear hopd
  have H := Lib.hid h
  clear hop h
  have h0b : (op == 0) = false := by simp [h0]
  replace Hr := Lib.hid (show insF t = none by rw [Hr.out]; exact if_pos (.inr hm))
  have hnb : (takesF op == 0) = !nb := by rw [← htk]; by_cases e : takesF op = 0 <;> simp [e]
  rw [htk] at hm
  clear h0 htk
  cases nb with
  | true =>
    obtain rfl : more = false := by simpa using hm
    clear hm
    simp only [Bool.not_true] at hnb
    go_enter Tryd.func22, Tryd.ntmps22
    go_upto_region 1 with fail
    rw [Hw2.out, ← Hx2.out]
    go_wp2_with fail
    refine HC.out.mono ?_
    rintro e w2 ⟨rfl, hc2⟩
    have Hc2 := Lib.hid hc2
    clear hc2
    go_wp2_with fail
    refine (HO.out _).mono ?_
    rintro e w3 ⟨rfl, hc3⟩
    have Hc3 := Lib.hid (Hc2.out.trans hc3)
    clear hc3 Hc2
    have hal_ := (Chg.refl NoB w3).alloc (.cells #[.int .i64 op, .int .i64 0, .string ⟨#[]⟩] 38)
    have hb_ := heap_alloc_new w3 (.cells #[.int .i64 op, .int .i64 0, .string ⟨#[]⟩] 38)
    obtain ⟨b8, hxb_⟩ : ∃ b, b = w3.heap.size := ⟨_, rfl⟩
    obtain ⟨w4, hw_⟩ : ∃ w_, w3.alloc (.cells #[.int .i64 op, .int .i64 0, .string ⟨#[]⟩] 38) = w_ := ⟨_, rfl⟩
    have hz_ : w4.heap.size = b8 + 1 := by rw [← hw_, hxb_]; exact alloc_size _ _
    rw [hw_] at hal_ hb_
    rw [← hxb_] at hb_
    have Hw8 := Lib.hid hw_
    have Hx8 := Lib.hid hxb_
    have Ha8 := Lib.hid hal_
    have Hb8 := Lib.hid hb_
    have Hz8 := Lib.hid hz_
    clear hal_ hb_ hxb_ hw_ hz_
    obtain ⟨c0, c1, c2⟩ := var3 Hb8.out
    go_upto_region 3 with fail
    rw [Hw8.out, ← Hx8.out]
    go_wp2_with fail
    refine (HT.out _).mono ?_
    rintro e w5 ⟨rfl, hc5⟩
    have Hc5 := Lib.hid hc5
    have Hb24 := Lib.hid (row_kept (Hc3.out.trans Ha8.out) Hb2.out id)
    have Hb25 := Lib.hid (row_kept hc5 Hb24.out id)
    have Hb85 := Lib.hid (row_kept hc5 Hb8.out id)
    have Hne := Lib.hid (show b2 ≠ b8 by have := Hx2.out; have := Hz2.out; have := Hx8.out; have := Hc3.out.size; omega)
    have Hc25 := Lib.hid (((Ha2.out.trans Hc3.out).trans Ha8.out).trans hc5)
    clear hc5 c0 c1 c2
    obtain ⟨c0, c1, c2⟩ := var3 Hb85.out
    obtain ⟨d0, d1, d2⟩ := var3 Hb25.out
    have fr := row_free Hb25.out
    have fs := row_free Hb85.out
    go_wp2_with fail
    have HS := set3 Hb25.out
    exact bodyPost_ret (res_cell3 (p := 2) (t := 3) (u := 4) (ty := 38) rfl _ rfl (run_loadVar_row _ _ _ _ _ _ _ (HS _ _ _).1 (Tryd.underlying38) rfl rfl)) rfl ⟨(Hc25.out).above (HS _ _ _).2 fun k e => by have := Hx2.out; omega, by rw [Hr.out]; exact ⟨_, _, _, _, rfl⟩⟩
  | false =>
    obtain rfl : more = true := by simpa using hm
    clear hm
    simp only [Bool.not_false] at hnb
    go_enter Tryd.func22, Tryd.ntmps22
    go_upto_region 1 with fail
    rw [Hw2.out, ← Hx2.out]
    go_wp2_with fail
    refine HC.out.mono ?_
    rintro e w2 ⟨rfl, hc2⟩
    have Hc2 := Lib.hid hc2
    clear hc2
    go_wp2_with fail
    refine (HO.out _).mono ?_
    rintro e w3 ⟨rfl, hc3⟩
    have Hc3 := Lib.hid (Hc2.out.trans hc3)
    clear hc3 Hc2
    have hal_ := (Chg.refl NoB w3).alloc (.cells #[.int .i64 op, .int .i64 0, .string ⟨#[]⟩] 38)
    have hb_ := heap_alloc_new w3 (.cells #[.int .i64 op, .int .i64 0, .string ⟨#[]⟩] 38)
    obtain ⟨b8, hxb_⟩ : ∃ b, b = w3.heap.size := ⟨_, rfl⟩
    obtain ⟨w4, hw_⟩ : ∃ w_, w3.alloc (.cells #[.int .i64 op, .int .i64 0, .string ⟨#[]⟩] 38) = w_ := ⟨_, rfl⟩
    have hz_ : w4.heap.size = b8 + 1 := by rw [← hw_, hxb_]; exact alloc_size _ _
    rw [hw_] at hal_ hb_
    rw [← hxb_] at hb_
    have Hw8 := Lib.hid hw_
    have Hx8 := Lib.hid hxb_
    have Ha8 := Lib.hid hal_
    have Hb8 := Lib.hid hb_
    have Hz8 := Lib.hid hz_
    clear hal_ hb_ hxb_ hw_ hz_
    obtain ⟨c0, c1, c2⟩ := var3 Hb8.out
    go_upto_region 3 with fail
    rw [Hw8.out, ← Hx8.out]
    go_wp2_with fail
    refine (HT.out _).mono ?_
    rintro e w5 ⟨rfl, hc5⟩
    have Hc5 := Lib.hid hc5
    have Hb24 := Lib.hid (row_kept (Hc3.out.trans Ha8.out) Hb2.out id)
    have Hb25 := Lib.hid (row_kept hc5 Hb24.out id)
    have Hb85 := Lib.hid (row_kept hc5 Hb8.out id)
    have Hne := Lib.hid (show b2 ≠ b8 by have := Hx2.out; have := Hz2.out; have := Hx8.out; have := Hc3.out.size; omega)
    have Hc25 := Lib.hid (((Ha2.out.trans Hc3.out).trans Ha8.out).trans hc5)
    clear hc5 c0 c1 c2
    obtain ⟨c0, c1, c2⟩ := var3 Hb85.out
    obtain ⟨d0, d1, d2⟩ := var3 Hb25.out
    have fr := row_free Hb25.out
    have fs := row_free Hb85.out
    go_wp2_with fail
    have HS := set3 Hb25.out
    exact bodyPost_ret (res_cell3 (p := 2) (t := 3) (u := 4) (ty := 38) rfl _ rfl (run_loadVar_row _ _ _ _ _ _ _ (HS _ _ _).1 (Tryd.underlying38) rfl rfl)) rfl ⟨(Hc25.out).above (HS _ _ _).2 fun k e => by have := Hx2.out; omega, by rw [Hr.out]; exact ⟨_, _, _, _, rfl⟩⟩
set_option maxHeartbeats 4000000 in
set_option maxRecDepth 20000 in
theorem rins_zero (t : List UInt8) (base : Nat) (w : World) (h : Lb base w) (hs : t.length ≤ 65536) (h0 : (opF (cutW t).1 : Int) ≠ 0) (hm : (cutW t).2.2 = decide (takesF (opF (cutW t).1) ≠ 0)) (htk : takesF (opF (cutW t).1) = 0) : Calls Tryd.prog 22 #[.string (tx t)] w (InsRP (insF t) w) := by
  have Hr := Lib.hid (show insF t = insG (opF (cutW t).1) (cutW t).2.2 (cutW t).2.1 from rfl)
  have hal_ := (Chg.refl NoB w).alloc (.cells #[.int .i64 0, .int .i64 0, .string ⟨#[]⟩] 38)
  have hb_ := heap_alloc_new w (.cells #[.int .i64 0, .int .i64 0, .string ⟨#[]⟩] 38)
  obtain ⟨b2, hxb_⟩ : ∃ b, b = w.heap.size := ⟨_, rfl⟩
  obtain ⟨w1, hw_⟩ : ∃ w_, w.alloc (.cells #[.int .i64 0, .int .i64 0, .string ⟨#[]⟩] 38) = w_ := ⟨_, rfl⟩
  have hz_ : w1.heap.size = b2 + 1 := by rw [← hw_, hxb_]; exact alloc_size _ _
  rw [hw_] at hal_ hb_
  rw [← hxb_] at hb_
  have Hw2 := Lib.hid hw_
  have Hx2 := Lib.hid hxb_
  have Ha2 := Lib.hid hal_
  have Hb2 := Lib.hid hb_
  have Hz2 := Lib.hid hz_
  clear hal_ hb_ hxb_ hw_ hz_
  have HC := Lib.hid (split_any t w1 (by omega))
  have hop := opF_lt (cutW t).1
  have hlen := (cutW_len t).2
  generalize cutW t = cw at *
  obtain ⟨wd, rest, more⟩ := cw
  simp only at *
  have HO := Lib.hid (fun w => refOp_any wd w)
  generalize hopd : (opF wd : Int) = op at *
  have hop2 : 0 ≤ op ∧ op < 31 := by omega
  have HT := Lib.hid (fun w => refTakes_any op (by omega) (by omega) w)
  clear hopd
  have H := Lib.hid h
  clear hop h
  have h0b : (op == 0) = false := by simp [h0]
  replace Hr := Lib.hid (show insF t = if takesF op = 1 ∨ takesF op = 3 then (digP rest).map fun n => (⟨op, n, []⟩, []) else if takesF op = 2 then (wholeF rest).map fun s => (⟨op, 0, s⟩, []) else if takesF op = 4 then (if Pth.nameL rest = true then some (⟨op, 0, []⟩, rest) else none) else some (⟨op, 0, []⟩, []) by
    rw [Hr.out]; exact if_neg (by rintro (h | h); exact h0 h; exact h hm))
  clear h0
  rw [htk] at hm HT Hr
  replace Hr := Lib.hid (show insF t = some (⟨op, 0, []⟩, []) by rw [Hr.out]; rfl)
  obtain rfl : more = false := by simpa using hm
  clear hm htk
  go_enter Tryd.func22, Tryd.ntmps22
  go_upto_region 1 with fail
  rw [Hw2.out, ← Hx2.out]
  go_wp2_with fail
  refine HC.out.mono ?_
  rintro e w2 ⟨rfl, hc2⟩
  have Hc2 := Lib.hid hc2
  clear hc2
  go_wp2_with fail
  refine (HO.out _).mono ?_
  rintro e w3 ⟨rfl, hc3⟩
  have Hc3 := Lib.hid (Hc2.out.trans hc3)
  clear hc3 Hc2
  have hal_ := (Chg.refl NoB w3).alloc (.cells #[.int .i64 op, .int .i64 0, .string ⟨#[]⟩] 38)
  have hb_ := heap_alloc_new w3 (.cells #[.int .i64 op, .int .i64 0, .string ⟨#[]⟩] 38)
  obtain ⟨b8, hxb_⟩ : ∃ b, b = w3.heap.size := ⟨_, rfl⟩
  obtain ⟨w4, hw_⟩ : ∃ w_, w3.alloc (.cells #[.int .i64 op, .int .i64 0, .string ⟨#[]⟩] 38) = w_ := ⟨_, rfl⟩
  have hz_ : w4.heap.size = b8 + 1 := by rw [← hw_, hxb_]; exact alloc_size _ _
  rw [hw_] at hal_ hb_
  rw [← hxb_] at hb_
  have Hw8 := Lib.hid hw_
  have Hx8 := Lib.hid hxb_
  have Ha8 := Lib.hid hal_
  have Hb8 := Lib.hid hb_
  have Hz8 := Lib.hid hz_
  clear hal_ hb_ hxb_ hw_ hz_
  obtain ⟨c0, c1, c2⟩ := var3 Hb8.out
  go_upto_region 3 with fail
  rw [Hw8.out, ← Hx8.out]
  go_wp2_with fail
  refine (HT.out _).mono ?_
  rintro e w5 ⟨rfl, hc5⟩
  have Hc5 := Lib.hid hc5
  have Hb24 := Lib.hid (row_kept (Hc3.out.trans Ha8.out) Hb2.out id)
  have Hb25 := Lib.hid (row_kept hc5 Hb24.out id)
  have Hb85 := Lib.hid (row_kept hc5 Hb8.out id)
  have Hne := Lib.hid (show b2 ≠ b8 by have := Hx2.out; have := Hz2.out; have := Hx8.out; have := Hc3.out.size; omega)
  have Hc25 := Lib.hid (((Ha2.out.trans Hc3.out).trans Ha8.out).trans hc5)
  clear hc5 c0 c1 c2
  obtain ⟨c0, c1, c2⟩ := var3 Hb85.out
  obtain ⟨d0, d1, d2⟩ := var3 Hb25.out
  have fr := row_free Hb25.out
  have fs := row_free Hb85.out
  go_wp2_with fail
  have HS := set3 Hb25.out
  exact bodyPost_ret (res_cell3 (p := 2) (t := 3) (u := 4) (ty := 38) rfl _ rfl (run_loadVar_row _ _ _ _ _ _ _ (HS _ _ _).1 (Tryd.underlying38) rfl rfl)) rfl ⟨(Hc25.out).above (HS _ _ _).2 fun k e => by have := Hx2.out; omega, by rw [Hr.out]; rfl⟩
set_option maxHeartbeats 4000000 in
set_option maxRecDepth 20000 in
theorem rins_two (t : List UInt8) (base : Nat) (w : World) (h : Lb base w) (hs : t.length ≤ 65536) (h0 : (opF (cutW t).1 : Int) ≠ 0) (hm : (cutW t).2.2 = decide (takesF (opF (cutW t).1) ≠ 0)) (htk : takesF (opF (cutW t).1) = 2) : Calls Tryd.prog 22 #[.string (tx t)] w (InsRP (insF t) w) := by
  have Hr := Lib.hid (show insF t = insG (opF (cutW t).1) (cutW t).2.2 (cutW t).2.1 from rfl)
  have hal_ := (Chg.refl NoB w).alloc (.cells #[.int .i64 0, .int .i64 0, .string ⟨#[]⟩] 38)
  have hb_ := heap_alloc_new w (.cells #[.int .i64 0, .int .i64 0, .string ⟨#[]⟩] 38)
  obtain ⟨b2, hxb_⟩ : ∃ b, b = w.heap.size := ⟨_, rfl⟩
  obtain ⟨w1, hw_⟩ : ∃ w_, w.alloc (.cells #[.int .i64 0, .int .i64 0, .string ⟨#[]⟩] 38) = w_ := ⟨_, rfl⟩
  have hz_ : w1.heap.size = b2 + 1 := by rw [← hw_, hxb_]; exact alloc_size _ _
  rw [hw_] at hal_ hb_
  rw [← hxb_] at hb_
  have Hw2 := Lib.hid hw_
  have Hx2 := Lib.hid hxb_
  have Ha2 := Lib.hid hal_
  have Hb2 := Lib.hid hb_
  have Hz2 := Lib.hid hz_
  clear hal_ hb_ hxb_ hw_ hz_
  have HC := Lib.hid (split_any t w1 (by omega))
  have hop := opF_lt (cutW t).1
  have hlen := (cutW_len t).2
  generalize cutW t = cw at *
  obtain ⟨wd, rest, more⟩ := cw
  simp only at *
  have HO := Lib.hid (fun w => refOp_any wd w)
  generalize hopd : (opF wd : Int) = op at *
  have hop2 : 0 ≤ op ∧ op < 31 := by omega
  have HT := Lib.hid (fun w => refTakes_any op (by omega) (by omega) w)
  clear hopd
  have H := Lib.hid h
  clear hop h
  have h0b : (op == 0) = false := by simp [h0]
  replace Hr := Lib.hid (show insF t = if takesF op = 1 ∨ takesF op = 3 then (digP rest).map fun n => (⟨op, n, []⟩, []) else if takesF op = 2 then (wholeF rest).map fun s => (⟨op, 0, s⟩, []) else if takesF op = 4 then (if Pth.nameL rest = true then some (⟨op, 0, []⟩, rest) else none) else some (⟨op, 0, []⟩, []) by
    rw [Hr.out]; exact if_neg (by rintro (h | h); exact h0 h; exact h hm))
  clear h0
  rw [htk] at hm HT Hr
  replace Hr := Lib.hid (show insF t = (docF rest).map fun s => (⟨op, 0, s⟩, []) by rw [Hr.out, ← whole_doc]; rfl)
  obtain rfl : more = true := by simpa using hm
  have HQ := Lib.hid (fun w => unq_any rest w (by omega))
  clear hm htk
  go_enter Tryd.func22, Tryd.ntmps22
  go_upto_region 1 with fail
  rw [Hw2.out, ← Hx2.out]
  go_wp2_with fail
  refine HC.out.mono ?_
  rintro e w2 ⟨rfl, hc2⟩
  have Hc2 := Lib.hid hc2
  clear hc2
  go_wp2_with fail
  refine (HO.out _).mono ?_
  rintro e w3 ⟨rfl, hc3⟩
  have Hc3 := Lib.hid (Hc2.out.trans hc3)
  clear hc3 Hc2
  have hal_ := (Chg.refl NoB w3).alloc (.cells #[.int .i64 op, .int .i64 0, .string ⟨#[]⟩] 38)
  have hb_ := heap_alloc_new w3 (.cells #[.int .i64 op, .int .i64 0, .string ⟨#[]⟩] 38)
  obtain ⟨b8, hxb_⟩ : ∃ b, b = w3.heap.size := ⟨_, rfl⟩
  obtain ⟨w4, hw_⟩ : ∃ w_, w3.alloc (.cells #[.int .i64 op, .int .i64 0, .string ⟨#[]⟩] 38) = w_ := ⟨_, rfl⟩
  have hz_ : w4.heap.size = b8 + 1 := by rw [← hw_, hxb_]; exact alloc_size _ _
  rw [hw_] at hal_ hb_
  rw [← hxb_] at hb_
  have Hw8 := Lib.hid hw_
  have Hx8 := Lib.hid hxb_
  have Ha8 := Lib.hid hal_
  have Hb8 := Lib.hid hb_
  have Hz8 := Lib.hid hz_
  clear hal_ hb_ hxb_ hw_ hz_
  obtain ⟨c0, c1, c2⟩ := var3 Hb8.out
  go_upto_region 3 with fail
  rw [Hw8.out, ← Hx8.out]
  go_wp2_with fail
  refine (HT.out _).mono ?_
  rintro e w5 ⟨rfl, hc5⟩
  have Hc5 := Lib.hid hc5
  have Hb24 := Lib.hid (row_kept (Hc3.out.trans Ha8.out) Hb2.out id)
  have Hb25 := Lib.hid (row_kept hc5 Hb24.out id)
  have Hb85 := Lib.hid (row_kept hc5 Hb8.out id)
  have Hne := Lib.hid (show b2 ≠ b8 by have := Hx2.out; have := Hz2.out; have := Hx8.out; have := Hc3.out.size; omega)
  have Hc25 := Lib.hid (((Ha2.out.trans Hc3.out).trans Ha8.out).trans hc5)
  clear hc5 c0 c1 c2
  obtain ⟨c0, c1, c2⟩ := var3 Hb85.out
  obtain ⟨d0, d1, d2⟩ := var3 Hb25.out
  have fr := row_free Hb25.out
  have fs := row_free Hb85.out
  go_wp2_with fail
  refine (HQ.out _).mono ?_
  rintro e w6 ⟨he6, hc6⟩
  have Hb26 := Lib.hid (row_kept hc6 Hb25.out id)
  have Hb86 := Lib.hid (row_kept hc6 Hb85.out id)
  have Hc26 := Lib.hid (Hc25.out.trans hc6)
  clear c0 c1 c2 d0 d1 d2 fr fs hc6
  obtain ⟨c0, c1, c2⟩ := var3 Hb86.out
  obtain ⟨d0, d1, d2⟩ := var3 Hb26.out
  have fr := row_free Hb26.out
  have fs := row_free Hb86.out
  generalize docF rest = o at *
  cases o with
  | none =>
    obtain rfl : e = .returned (.tuple #[.string ⟨#[]⟩, .bool false]) := he6
    go_upto_region 16 with fail
    have hs4 := (Chg.refl (fun k => k = b8) w6).setCell (p := ⟨b8, 2, none⟩) (.inl rfl) (.string ⟨#[]⟩)
    have Hb27 := Lib.hid (row_kept hs4 Hb26.out (fun e => Hne.out e))
    have Hb87 := Lib.hid (heap_set Hb86.out (i := 2) (.string ⟨#[]⟩))
    have Hc27 := Lib.hid (Hc26.out.above hs4 (fun k e => by have := Hx8.out; have := (Ha2.out.trans Hc3.out).size; omega))
    clear hs4 c0 c1 c2 d0 d1 d2 fr fs
    generalize w6.setCell ⟨b8, 2, none⟩ (.string ⟨#[]⟩) = w7 at *
    obtain ⟨c0, c1, c2⟩ := var3 Hb87.out
    obtain ⟨d0, d1, d2⟩ := var3 Hb27.out
    have fr := row_free Hb27.out
    go_wp2_with fail
    have HS := set3 Hb27.out
    exact bodyPost_ret (res_cell3 (p := 2) (t := 3) (u := 4) (ty := 38) rfl _ rfl (run_loadVar_row _ _ _ _ _ _ _ (HS _ _ _).1 (Tryd.underlying38) rfl rfl)) rfl ⟨(Hc27.out).above (HS _ _ _).2 fun k e => by have := Hx2.out; omega, by rw [Hr.out]; exact ⟨_, _, _, _, rfl⟩⟩
  | some N =>
    obtain rfl : e = .returned (.tuple #[.string (tx N), .bool true]) := he6
    go_upto_region 16 with fail
    have hs4 := (Chg.refl (fun k => k = b8) w6).setCell (p := ⟨b8, 2, none⟩) (.inl rfl) (.string (tx N))
    have Hb27 := Lib.hid (row_kept hs4 Hb26.out (fun e => Hne.out e))
    have Hb87 := Lib.hid (heap_set Hb86.out (i := 2) (.string (tx N)))
    have Hc27 := Lib.hid (Hc26.out.above hs4 (fun k e => by have := Hx8.out; have := (Ha2.out.trans Hc3.out).size; omega))
    clear hs4 c0 c1 c2 d0 d1 d2 fr fs
    generalize w6.setCell ⟨b8, 2, none⟩ (.string (tx N)) = w7 at *
    obtain ⟨c0, c1, c2⟩ := var3 Hb87.out
    obtain ⟨d0, d1, d2⟩ := var3 Hb27.out
    have fr := row_free Hb27.out
    go_wp2_with fail
    have HS := set3 Hb27.out
    exact bodyPost_ret (res_cell3 (p := 2) (t := 3) (u := 4) (ty := 38) rfl _ rfl (run_loadVar_row _ _ _ _ _ _ _ (HS _ _ _).1 (Tryd.underlying38) rfl rfl)) rfl ⟨(Hc27.out).above (HS _ _ _).2 fun k e => by have := Hx2.out; omega, by rw [Hr.out]; rfl⟩
set_option maxHeartbeats 4000000 in
set_option maxRecDepth 20000 in
theorem rins_one (t : List UInt8) (base : Nat) (w : World) (h : Lb base w) (hs : t.length ≤ 65536) (h0 : (opF (cutW t).1 : Int) ≠ 0) (hm : (cutW t).2.2 = decide (takesF (opF (cutW t).1) ≠ 0)) (htk : takesF (opF (cutW t).1) = 1) : Calls Tryd.prog 22 #[.string (tx t)] w (InsRP (insF t) w) := by
  have Hr := Lib.hid (show insF t = insG (opF (cutW t).1) (cutW t).2.2 (cutW t).2.1 from rfl)
  have hal_ := (Chg.refl NoB w).alloc (.cells #[.int .i64 0, .int .i64 0, .string ⟨#[]⟩] 38)
  have hb_ := heap_alloc_new w (.cells #[.int .i64 0, .int .i64 0, .string ⟨#[]⟩] 38)
  obtain ⟨b2, hxb_⟩ : ∃ b, b = w.heap.size := ⟨_, rfl⟩
  obtain ⟨w1, hw_⟩ : ∃ w_, w.alloc (.cells #[.int .i64 0, .int .i64 0, .string ⟨#[]⟩] 38) = w_ := ⟨_, rfl⟩
  have hz_ : w1.heap.size = b2 + 1 := by rw [← hw_, hxb_]; exact alloc_size _ _
  rw [hw_] at hal_ hb_
  rw [← hxb_] at hb_
  have Hw2 := Lib.hid hw_
  have Hx2 := Lib.hid hxb_
  have Ha2 := Lib.hid hal_
  have Hb2 := Lib.hid hb_
  have Hz2 := Lib.hid hz_
  clear hal_ hb_ hxb_ hw_ hz_
  have HC := Lib.hid (split_any t w1 (by omega))
  have hop := opF_lt (cutW t).1
  have hlen := (cutW_len t).2
  generalize cutW t = cw at *
  obtain ⟨wd, rest, more⟩ := cw
  simp only at *
  have HO := Lib.hid (fun w => refOp_any wd w)
  generalize hopd : (opF wd : Int) = op at *
  have hop2 : 0 ≤ op ∧ op < 31 := by omega
  have HT := Lib.hid (fun w => refTakes_any op (by omega) (by omega) w)
  clear hopd
  have H := Lib.hid h
  clear hop h
  have h0b : (op == 0) = false := by simp [h0]
  replace Hr := Lib.hid (show insF t = if takesF op = 1 ∨ takesF op = 3 then (digP rest).map fun n => (⟨op, n, []⟩, []) else if takesF op = 2 then (wholeF rest).map fun s => (⟨op, 0, s⟩, []) else if takesF op = 4 then (if Pth.nameL rest = true then some (⟨op, 0, []⟩, rest) else none) else some (⟨op, 0, []⟩, []) by
    rw [Hr.out]; exact if_neg (by rintro (h | h); exact h0 h; exact h hm))
  clear h0
  rw [htk] at hm HT Hr
  replace Hr := Lib.hid (show insF t = (digP rest).map fun n => (⟨op, n, []⟩, []) by rw [Hr.out]; rfl)
  obtain rfl : more = true := by simpa using hm
  have hai := atoiV_in rest
  have HD := Lib.hid (fun w (h : Lb base w) => show Calls Tryd.prog 42 #[.string (tx rest)] w (AtoiP rest w) from by
    have := atoi_any (tx rest) base w h (by rw [tx_size]; omega)
    rwa [show (tx rest).data.toList = rest from tx_list rest] at this)
  have HI := Lib.hid (fun W (h : Lb base W) => show Calls Tryd.prog 32 #[.int .i64 (atoiV rest)] W (SayT (Lib.itoa (atoiV rest)) W) from itoa_any _ hai.1 hai.2 base W h)
  clear hm htk hai
  go_enter Tryd.func22, Tryd.ntmps22
  go_upto_region 1 with fail
  rw [Hw2.out, ← Hx2.out]
  go_wp2_with fail
  refine HC.out.mono ?_
  rintro e w2 ⟨rfl, hc2⟩
  have Hc2 := Lib.hid hc2
  clear hc2
  go_wp2_with fail
  refine (HO.out _).mono ?_
  rintro e w3 ⟨rfl, hc3⟩
  have Hc3 := Lib.hid (Hc2.out.trans hc3)
  clear hc3 Hc2
  have hal_ := (Chg.refl NoB w3).alloc (.cells #[.int .i64 op, .int .i64 0, .string ⟨#[]⟩] 38)
  have hb_ := heap_alloc_new w3 (.cells #[.int .i64 op, .int .i64 0, .string ⟨#[]⟩] 38)
  obtain ⟨b8, hxb_⟩ : ∃ b, b = w3.heap.size := ⟨_, rfl⟩
  obtain ⟨w4, hw_⟩ : ∃ w_, w3.alloc (.cells #[.int .i64 op, .int .i64 0, .string ⟨#[]⟩] 38) = w_ := ⟨_, rfl⟩
  have hz_ : w4.heap.size = b8 + 1 := by rw [← hw_, hxb_]; exact alloc_size _ _
  rw [hw_] at hal_ hb_
  rw [← hxb_] at hb_
  have Hw8 := Lib.hid hw_
  have Hx8 := Lib.hid hxb_
  have Ha8 := Lib.hid hal_
  have Hb8 := Lib.hid hb_
  have Hz8 := Lib.hid hz_
  clear hal_ hb_ hxb_ hw_ hz_
  obtain ⟨c0, c1, c2⟩ := var3 Hb8.out
  go_upto_region 3 with fail
  rw [Hw8.out, ← Hx8.out]
  go_wp2_with fail
  refine (HT.out _).mono ?_
  rintro e w5 ⟨rfl, hc5⟩
  have Hc5 := Lib.hid hc5
  have Hb24 := Lib.hid (row_kept (Hc3.out.trans Ha8.out) Hb2.out id)
  have Hb25 := Lib.hid (row_kept hc5 Hb24.out id)
  have Hb85 := Lib.hid (row_kept hc5 Hb8.out id)
  have Hne := Lib.hid (show b2 ≠ b8 by have := Hx2.out; have := Hz2.out; have := Hx8.out; have := Hc3.out.size; omega)
  have Hc25 := Lib.hid (((Ha2.out.trans Hc3.out).trans Ha8.out).trans hc5)
  clear hc5 c0 c1 c2
  obtain ⟨c0, c1, c2⟩ := var3 Hb85.out
  obtain ⟨d0, d1, d2⟩ := var3 Hb25.out
  have fr := row_free Hb25.out
  have fs := row_free Hb85.out
  go_wp2_with fail
  refine (HD.out _ (H.out.keep Hc25.out)).mono ?_
  rintro e w6 ⟨hc6, ev, rfl⟩
  have Hb26 := Lib.hid (row_kept hc6 Hb25.out id)
  have Hb86 := Lib.hid (row_kept hc6 Hb85.out id)
  have Hc26 := Lib.hid (Hc25.out.trans hc6)
  clear c0 c1 c2 d0 d1 d2 fr fs hc6
  obtain ⟨c0, c1, c2⟩ := var3 Hb86.out
  obtain ⟨d0, d1, d2⟩ := var3 Hb26.out
  have fr := row_free Hb26.out
  have fs := row_free Hb86.out
  go_upto_region 11 with fail
  have hs4 := (Chg.refl (fun k => k = b8) w6).setCell (p := ⟨b8, 1, none⟩) (.inl rfl) (.int .i64 (atoiV rest))
  have Hb27 := Lib.hid (row_kept hs4 Hb26.out (fun e => Hne.out e))
  have Hb87 := Lib.hid (heap_set Hb86.out (i := 1) (.int .i64 (atoiV rest)))
  have Hc27 := Lib.hid (Hc26.out.above hs4 (fun k e => by have := Hx8.out; have := (Ha2.out.trans Hc3.out).size; omega))
  clear hs4 c0 c1 c2 d0 d1 d2 fr fs
  generalize w6.setCell ⟨b8, 1, none⟩ (.int .i64 (atoiV rest)) = w7 at *
  obtain ⟨c0, c1, c2⟩ := var3 Hb87.out
  obtain ⟨d0, d1, d2⟩ := var3 Hb27.out
  have fr := row_free Hb27.out
  go_wp2_with fail
  refine (HI.out _ (H.out.keep Hc27.out)).mono ?_
  rintro e w8 ⟨rfl, hc8⟩
  have Hb28 := Lib.hid (row_kept hc8 Hb27.out id)
  have Hb88 := Lib.hid (row_kept hc8 Hb87.out id)
  have Hc28 := Lib.hid (Hc27.out.trans hc8)
  clear c0 c1 c2 d0 d1 d2 fr hc8
  obtain ⟨c0, c1, c2⟩ := var3 Hb88.out
  obtain ⟨d0, d1, d2⟩ := var3 Hb28.out
  have fr := row_free Hb28.out
  have hdg := digP_atoi rest
  by_cases he : Lib.itoa (atoiV rest) = rest
  · skip
    rw [if_pos he] at hdg
    replace Hr := Lib.hid (show insF t = some (⟨op, atoiV rest, []⟩, []) by rw [Hr.out, hdg]; rfl)
    have q1 : ((tx (Lib.itoa (atoiV rest))).toList == (tx rest).toList) = true := by rw [txQ, txQ, he]; simp
    rw [txQ, txQ] at q1
    have e1 := txQ (Lib.itoa (atoiV rest))
    have e2 := txQ rest
    clear he hdg
    go_wp2_with fail
    have HS := set3 Hb28.out
    exact bodyPost_ret (res_cell3 (p := 2) (t := 3) (u := 4) (ty := 38) rfl _ rfl (run_loadVar_row _ _ _ _ _ _ _ (HS _ _ _).1 (Tryd.underlying38) rfl rfl)) rfl ⟨(Hc28.out).above (HS _ _ _).2 fun k e => by have := Hx2.out; omega, by rw [Hr.out]; rfl⟩
  · skip
    rw [if_neg he] at hdg
    replace Hr := Lib.hid (show insF t = none by rw [Hr.out, hdg]; rfl)
    have q1 : (Lib.itoa (atoiV rest) == rest) = false := by simpa using he
    have e1 := txQ (Lib.itoa (atoiV rest))
    have e2 := txQ rest
    clear he hdg
    go_wp2_with fail
    have HS := set3 Hb28.out
    exact bodyPost_ret (res_cell3 (p := 2) (t := 3) (u := 4) (ty := 38) rfl _ rfl (run_loadVar_row _ _ _ _ _ _ _ (HS _ _ _).1 (Tryd.underlying38) rfl rfl)) rfl ⟨(Hc28.out).above (HS _ _ _).2 fun k e => by have := Hx2.out; omega, by rw [Hr.out]; exact ⟨_, _, _, _, rfl⟩⟩
set_option maxHeartbeats 4000000 in
set_option maxRecDepth 20000 in
theorem rins_three (t : List UInt8) (base : Nat) (w : World) (h : Lb base w) (hs : t.length ≤ 65536) (h0 : (opF (cutW t).1 : Int) ≠ 0) (hm : (cutW t).2.2 = decide (takesF (opF (cutW t).1) ≠ 0)) (htk : takesF (opF (cutW t).1) = 3) : Calls Tryd.prog 22 #[.string (tx t)] w (InsRP (insF t) w) := by
  have Hr := Lib.hid (show insF t = insG (opF (cutW t).1) (cutW t).2.2 (cutW t).2.1 from rfl)
  have hal_ := (Chg.refl NoB w).alloc (.cells #[.int .i64 0, .int .i64 0, .string ⟨#[]⟩] 38)
  have hb_ := heap_alloc_new w (.cells #[.int .i64 0, .int .i64 0, .string ⟨#[]⟩] 38)
  obtain ⟨b2, hxb_⟩ : ∃ b, b = w.heap.size := ⟨_, rfl⟩
  obtain ⟨w1, hw_⟩ : ∃ w_, w.alloc (.cells #[.int .i64 0, .int .i64 0, .string ⟨#[]⟩] 38) = w_ := ⟨_, rfl⟩
  have hz_ : w1.heap.size = b2 + 1 := by rw [← hw_, hxb_]; exact alloc_size _ _
  rw [hw_] at hal_ hb_
  rw [← hxb_] at hb_
  have Hw2 := Lib.hid hw_
  have Hx2 := Lib.hid hxb_
  have Ha2 := Lib.hid hal_
  have Hb2 := Lib.hid hb_
  have Hz2 := Lib.hid hz_
  clear hal_ hb_ hxb_ hw_ hz_
  have HC := Lib.hid (split_any t w1 (by omega))
  have hop := opF_lt (cutW t).1
  have hlen := (cutW_len t).2
  generalize cutW t = cw at *
  obtain ⟨wd, rest, more⟩ := cw
  simp only at *
  have HO := Lib.hid (fun w => refOp_any wd w)
  generalize hopd : (opF wd : Int) = op at *
  have hop2 : 0 ≤ op ∧ op < 31 := by omega
  have HT := Lib.hid (fun w => refTakes_any op (by omega) (by omega) w)
  clear hopd
  have H := Lib.hid h
  clear hop h
  have h0b : (op == 0) = false := by simp [h0]
  replace Hr := Lib.hid (show insF t = if takesF op = 1 ∨ takesF op = 3 then (digP rest).map fun n => (⟨op, n, []⟩, []) else if takesF op = 2 then (wholeF rest).map fun s => (⟨op, 0, s⟩, []) else if takesF op = 4 then (if Pth.nameL rest = true then some (⟨op, 0, []⟩, rest) else none) else some (⟨op, 0, []⟩, []) by
    rw [Hr.out]; exact if_neg (by rintro (h | h); exact h0 h; exact h hm))
  clear h0
  rw [htk] at hm HT Hr
  replace Hr := Lib.hid (show insF t = (digP rest).map fun n => (⟨op, n, []⟩, []) by rw [Hr.out]; rfl)
  obtain rfl : more = true := by simpa using hm
  have hai := atoiV_in rest
  have HD := Lib.hid (fun w (h : Lb base w) => show Calls Tryd.prog 42 #[.string (tx rest)] w (AtoiP rest w) from by
    have := atoi_any (tx rest) base w h (by rw [tx_size]; omega)
    rwa [show (tx rest).data.toList = rest from tx_list rest] at this)
  have HI := Lib.hid (fun W (h : Lb base W) => show Calls Tryd.prog 32 #[.int .i64 (atoiV rest)] W (SayT (Lib.itoa (atoiV rest)) W) from itoa_any _ hai.1 hai.2 base W h)
  clear hm htk hai
  go_enter Tryd.func22, Tryd.ntmps22
  go_upto_region 1 with fail
  rw [Hw2.out, ← Hx2.out]
  go_wp2_with fail
  refine HC.out.mono ?_
  rintro e w2 ⟨rfl, hc2⟩
  have Hc2 := Lib.hid hc2
  clear hc2
  go_wp2_with fail
  refine (HO.out _).mono ?_
  rintro e w3 ⟨rfl, hc3⟩
  have Hc3 := Lib.hid (Hc2.out.trans hc3)
  clear hc3 Hc2
  have hal_ := (Chg.refl NoB w3).alloc (.cells #[.int .i64 op, .int .i64 0, .string ⟨#[]⟩] 38)
  have hb_ := heap_alloc_new w3 (.cells #[.int .i64 op, .int .i64 0, .string ⟨#[]⟩] 38)
  obtain ⟨b8, hxb_⟩ : ∃ b, b = w3.heap.size := ⟨_, rfl⟩
  obtain ⟨w4, hw_⟩ : ∃ w_, w3.alloc (.cells #[.int .i64 op, .int .i64 0, .string ⟨#[]⟩] 38) = w_ := ⟨_, rfl⟩
  have hz_ : w4.heap.size = b8 + 1 := by rw [← hw_, hxb_]; exact alloc_size _ _
  rw [hw_] at hal_ hb_
  rw [← hxb_] at hb_
  have Hw8 := Lib.hid hw_
  have Hx8 := Lib.hid hxb_
  have Ha8 := Lib.hid hal_
  have Hb8 := Lib.hid hb_
  have Hz8 := Lib.hid hz_
  clear hal_ hb_ hxb_ hw_ hz_
  obtain ⟨c0, c1, c2⟩ := var3 Hb8.out
  go_upto_region 3 with fail
  rw [Hw8.out, ← Hx8.out]
  go_wp2_with fail
  refine (HT.out _).mono ?_
  rintro e w5 ⟨rfl, hc5⟩
  have Hc5 := Lib.hid hc5
  have Hb24 := Lib.hid (row_kept (Hc3.out.trans Ha8.out) Hb2.out id)
  have Hb25 := Lib.hid (row_kept hc5 Hb24.out id)
  have Hb85 := Lib.hid (row_kept hc5 Hb8.out id)
  have Hne := Lib.hid (show b2 ≠ b8 by have := Hx2.out; have := Hz2.out; have := Hx8.out; have := Hc3.out.size; omega)
  have Hc25 := Lib.hid (((Ha2.out.trans Hc3.out).trans Ha8.out).trans hc5)
  clear hc5 c0 c1 c2
  obtain ⟨c0, c1, c2⟩ := var3 Hb85.out
  obtain ⟨d0, d1, d2⟩ := var3 Hb25.out
  have fr := row_free Hb25.out
  have fs := row_free Hb85.out
  go_wp2_with fail
  refine (HD.out _ (H.out.keep Hc25.out)).mono ?_
  rintro e w6 ⟨hc6, ev, rfl⟩
  have Hb26 := Lib.hid (row_kept hc6 Hb25.out id)
  have Hb86 := Lib.hid (row_kept hc6 Hb85.out id)
  have Hc26 := Lib.hid (Hc25.out.trans hc6)
  clear c0 c1 c2 d0 d1 d2 fr fs hc6
  obtain ⟨c0, c1, c2⟩ := var3 Hb86.out
  obtain ⟨d0, d1, d2⟩ := var3 Hb26.out
  have fr := row_free Hb26.out
  have fs := row_free Hb86.out
  go_upto_region 11 with fail
  have hs4 := (Chg.refl (fun k => k = b8) w6).setCell (p := ⟨b8, 1, none⟩) (.inl rfl) (.int .i64 (atoiV rest))
  have Hb27 := Lib.hid (row_kept hs4 Hb26.out (fun e => Hne.out e))
  have Hb87 := Lib.hid (heap_set Hb86.out (i := 1) (.int .i64 (atoiV rest)))
  have Hc27 := Lib.hid (Hc26.out.above hs4 (fun k e => by have := Hx8.out; have := (Ha2.out.trans Hc3.out).size; omega))
  clear hs4 c0 c1 c2 d0 d1 d2 fr fs
  generalize w6.setCell ⟨b8, 1, none⟩ (.int .i64 (atoiV rest)) = w7 at *
  obtain ⟨c0, c1, c2⟩ := var3 Hb87.out
  obtain ⟨d0, d1, d2⟩ := var3 Hb27.out
  have fr := row_free Hb27.out
  go_wp2_with fail
  refine (HI.out _ (H.out.keep Hc27.out)).mono ?_
  rintro e w8 ⟨rfl, hc8⟩
  have Hb28 := Lib.hid (row_kept hc8 Hb27.out id)
  have Hb88 := Lib.hid (row_kept hc8 Hb87.out id)
  have Hc28 := Lib.hid (Hc27.out.trans hc8)
  clear c0 c1 c2 d0 d1 d2 fr hc8
  obtain ⟨c0, c1, c2⟩ := var3 Hb88.out
  obtain ⟨d0, d1, d2⟩ := var3 Hb28.out
  have fr := row_free Hb28.out
  have hdg := digP_atoi rest
  by_cases he : Lib.itoa (atoiV rest) = rest
  · skip
    rw [if_pos he] at hdg
    replace Hr := Lib.hid (show insF t = some (⟨op, atoiV rest, []⟩, []) by rw [Hr.out, hdg]; rfl)
    have q1 : ((tx (Lib.itoa (atoiV rest))).toList == (tx rest).toList) = true := by rw [txQ, txQ, he]; simp
    rw [txQ, txQ] at q1
    have e1 := txQ (Lib.itoa (atoiV rest))
    have e2 := txQ rest
    clear he hdg
    go_wp2_with fail
    have HS := set3 Hb28.out
    exact bodyPost_ret (res_cell3 (p := 2) (t := 3) (u := 4) (ty := 38) rfl _ rfl (run_loadVar_row _ _ _ _ _ _ _ (HS _ _ _).1 (Tryd.underlying38) rfl rfl)) rfl ⟨(Hc28.out).above (HS _ _ _).2 fun k e => by have := Hx2.out; omega, by rw [Hr.out]; rfl⟩
  · skip
    rw [if_neg he] at hdg
    replace Hr := Lib.hid (show insF t = none by rw [Hr.out, hdg]; rfl)
    have q1 : (Lib.itoa (atoiV rest) == rest) = false := by simpa using he
    have e1 := txQ (Lib.itoa (atoiV rest))
    have e2 := txQ rest
    clear he hdg
    go_wp2_with fail
    have HS := set3 Hb28.out
    exact bodyPost_ret (res_cell3 (p := 2) (t := 3) (u := 4) (ty := 38) rfl _ rfl (run_loadVar_row _ _ _ _ _ _ _ (HS _ _ _).1 (Tryd.underlying38) rfl rfl)) rfl ⟨(Hc28.out).above (HS _ _ _).2 fun k e => by have := Hx2.out; omega, by rw [Hr.out]; exact ⟨_, _, _, _, rfl⟩⟩
end Go.Proofs.YtaihgciokfkonaaDoor
