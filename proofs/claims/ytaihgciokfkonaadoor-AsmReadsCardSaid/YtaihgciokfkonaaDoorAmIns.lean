/- The contract of the program's instruction: what a line tells. Conditions: the line is not too long; the library's variables and the list of words read as listed. -/
import Derived.Test.YtaihgciokfkonaaDoorAmQcut
import Derived.Test.YtaihgciokfkonaaDoorAmMath
import Derived.Test.YtaihgciokfkonaaDoorCdWords
import Derived.Test.YtaihgciokfkonaaDoorCdNum

/- the result is laid, the call ends: u5 the world ahead of it, HC5 what changed till then -/
/- the second box has one cell more: its row, all else as it was -/

namespace Go.Proofs.YtaihgciokfkonaaDoor
set_option linter.unusedVariables false
open Go.ChangeShapes Go.WideShapes Go.ChangeAt Go.RowKit
structure Av (base : Nat) (w : World) : Prop where
  lb : Lb base w
  wd : Wd base w
theorem Av.chg {S : Nat → Prop} {base : Nat} {w w' : World} (h : Av base w) (hc : Chg S w w') (hS : ∀ k, S k → base ≤ k) : Av base w' := ⟨h.lb.chg hc hS, h.wd.chg hc hS⟩
theorem Av.keep {base : Nat} {w w' : World} (h : Av base w) (hc : Chg NoB w w') : Av base w' := ⟨h.lb.keep hc, h.wd.keep hc⟩
theorem cutW_any (l : List UInt8) (base : Nat) (w : World) (h : Lb base w) (hs : l.length ≤ 1048576) :
    Calls Tryd.prog 58 #[.string (tx l), .string ⟨#[32]⟩] w fun e w' => Chg NoB w w' ∧ e = .returned (.tuple #[.string (tx (cutW l).1), .string (tx (cutW l).2.1), .bool (cutW l).2.2]) := by
  obtain ⟨m, hm⟩ := h.ml
  refine (Tryd.strings_Cut (tx l) ⟨#[32]⟩ m w (by rw [tx_size]; omega) (hm w (Below.refl _ _))).mono ?_
  rintro e w' ⟨rfl, n, rfl⟩
  refine ⟨Chg.drewN (Chg.refl _ _) n, ?_⟩
  rw [tx_list]
  have : (ByteArray.mk #[32]).data.toList = [32] := rfl
  rw [this, cut_eq]
  unfold cutW
  cases cutC 32 l with
  | none => rfl
  | some pr => rfl
theorem cutW_len (l : List UInt8) : (cutW l).1.length ≤ l.length ∧ (cutW l).2.1.length ≤ l.length := by
  unfold cutW
  cases h : cutC 32 l with
  | none => simp
  | some pr =>
    obtain ⟨p, r⟩ := pr
    have := (cutC_some.1 h).1
    simp only [this, List.length_append, List.length_cons]; omega
theorem opF_lt (l : List UInt8) : opF l < 31 := by
  unfold opF
  split <;> omega
theorem nameP (l : List UInt8) (w : World) (hl : l.length ≤ 1048576) : Calls Tryd.prog 37 #[.string (tx l)] w (SayB (Pth.nameL l) w) := by
  have h := Pth.name_any (tx l) w (by rw [tx_size]; exact hl)
  rw [tx_list] at h
  exact h.mono fun e w' h => ⟨h.1, chg_of_below h.2⟩
theorem res_cell2 {fn : Func} {p t : Tmp} {ty : TypeId} (h : fn.results = #[.cell p ty, .tmp t]) (tmps : Array Value) {P : Program} {w : World} {a : Addr} {v : Value} (hp : tmps.getD p undef = .pointer (some a)) (hl : (loadVar ty a).run P w = .ok v w) : (results fn tmps).run P w = .ok (.tuple #[v, tmps.getD t undef]) w := by
  rw [Array.getD_eq_getD_getElem?] at hp
  simp only [results, h]
  simp [Result.andThen, hp, asAddr, hl]
def LineV (no op n : Int) (s lab : ByteArray) : Value := .agg #[.int .i64 no, .int .i64 op, .int .i64 n, .string s, .string lab]
def InsP (o : Option (InsL × List UInt8)) (w : World) (e : Ending) (w' : World) : Prop := Chg NoB w w' ∧ match o with
  | some (x, l) => e = .returned (.tuple #[LineV 0 x.op x.n (tx x.s) (tx l), .bool true])
  | none => ∃ op n s l, e = .returned (.tuple #[LineV 0 op n s l, .bool false])
theorem var5' {w : World} {b : Nat} {x0 x1 x2 x3 x4 : Value} {t : TypeId} (h : w.heap[b]? = some (.cells #[x0, x1, x2, x3, x4] t (0, 0))) : w.cell? ⟨b, 0, none⟩ = some x0 ∧ w.cell? ⟨b, 1, none⟩ = some x1 ∧ w.cell? ⟨b, 2, none⟩ = some x2 ∧ w.cell? ⟨b, 3, none⟩ = some x3 ∧ w.cell? ⟨b, 4, none⟩ = some x4 := by
  refine ⟨?_, ?_, ?_, ?_, ?_⟩ <;> rw [cell_of_row _ b _ _ _ (0, 0) h] <;> rfl
theorem set5 {w : World} {b : Nat} {x0 x1 x2 x3 x4 : Value} {t : TypeId} (h : w.heap[b]? = some (.cells #[x0, x1, x2, x3, x4] t (0, 0))) (y0 y1 y2 y3 y4 : Value) :
    (((((w.setCell ⟨b, 0, none⟩ y0).setCell ⟨b, 1, none⟩ y1).setCell ⟨b, 2, none⟩ y2).setCell ⟨b, 3, none⟩ y3).setCell ⟨b, 4, none⟩ y4).heap[b]? = some (.cells #[y0, y1, y2, y3, y4] t (0, 0)) ∧
    Chg (fun k => k = b) w (((((w.setCell ⟨b, 0, none⟩ y0).setCell ⟨b, 1, none⟩ y1).setCell ⟨b, 2, none⟩ y2).setCell ⟨b, 3, none⟩ y3).setCell ⟨b, 4, none⟩ y4) := by
  have h0 := heap_set h (i := 0) y0
  have h1 := heap_set h0 (i := 1) y1
  have h2 := heap_set h1 (i := 2) y2
  have h3 := heap_set h2 (i := 3) y3
  have h4 := heap_set h3 (i := 4) y4
  refine ⟨h4, ?_⟩
  exact ((((((Chg.refl (fun k => k = b) w).setCell (p := ⟨b, 0, none⟩) (.inl rfl) y0).setCell (p := ⟨b, 1, none⟩) (.inl rfl) y1).setCell (p := ⟨b, 2, none⟩) (.inl rfl) y2).setCell (p := ⟨b, 3, none⟩) (.inl rfl) y3).setCell (p := ⟨b, 4, none⟩) (.inl rfl) y4)
set_option maxHeartbeats 4000000 in
set_option maxRecDepth 20000 in
theorem inst_none (t : List UInt8) (base : Nat) (w : World) (h : Av base w) (hs : t.length ≤ 65536) (h0 : (opF (cutW t).1 : Int) = 0) : Calls Tryd.prog 39 #[.string (tx t)] w (InsP (insF t) w) := by
  have Hr := Lib.hid (show insF t = insG (opF (cutW t).1) (cutW t).2.2 (cutW t).2.1 from rfl)
  have hal_ := (Chg.refl NoB w).alloc (.cells #[.int .i64 0, .int .i64 0, .int .i64 0, .string ⟨#[]⟩, .string ⟨#[]⟩] 76)
  have hb_ := heap_alloc_new w (.cells #[.int .i64 0, .int .i64 0, .int .i64 0, .string ⟨#[]⟩, .string ⟨#[]⟩] 76)
  obtain ⟨b1, hxb_⟩ : ∃ b, b = w.heap.size := ⟨_, rfl⟩
  obtain ⟨w1, hw_⟩ : ∃ w_, w.alloc (.cells #[.int .i64 0, .int .i64 0, .int .i64 0, .string ⟨#[]⟩, .string ⟨#[]⟩] 76) = w_ := ⟨_, rfl⟩
  have hz_ : w1.heap.size = b1 + 1 := by rw [← hw_, hxb_]; exact alloc_size _ _
  rw [hw_] at hal_ hb_
  rw [← hxb_] at hb_
  have Hw1 := Lib.hid hw_
  have Hx1 := Lib.hid hxb_
  have Ha1 := Lib.hid hal_
  have Hb1 := Lib.hid hb_
  have Hz1 := Lib.hid hz_
  clear hal_ hb_ hxb_ hw_ hz_
  have HC := Lib.hid (cutW_any t base w1 (h.keep Ha1.out).lb (by omega))
  have hop := opF_lt (cutW t).1
  have hlen := (cutW_len t).2
  generalize cutW t = cw at *
  obtain ⟨wd, rest, more⟩ := cw
  simp only at *
  have HO := Lib.hid (fun w (h : Wd base w) => op_any wd base w h)
  generalize hopd : (opF wd : Int) = op at *
  have HT := Lib.hid (fun w => takes_any op w)
  have hop2 : 0 ≤ op ∧ op < 31 := by omega
  clear hopd
  have H := Lib.hid h
  clear hop h
  have h0b : (op == 0) = true := by simp [h0]
  replace Hr := Lib.hid (show insF t = none by rw [Hr.out]; exact if_pos (.inl h0))
  clear h0
  go_enter Tryd.func39, Tryd.ntmps39
  go_upto_region 1 with fail
  rw [Hw1.out, ← Hx1.out]
  go_wp2_with fail
  refine HC.out.mono ?_
  rintro e w2 ⟨hc2, rfl⟩
  have Hc2 := Lib.hid hc2
  clear hc2
  go_wp2_with fail
  refine (HO.out _ (H.out.keep (Ha1.out.trans Hc2.out)).wd).mono ?_
  rintro e w3 ⟨rfl, hc3⟩
  have Hc3 := Lib.hid (Hc2.out.trans hc3)
  clear hc3 Hc2
  have hal_ := (Chg.refl NoB w3).alloc (.cells #[.int .i64 0, .int .i64 op, .int .i64 0, .string ⟨#[]⟩, .string ⟨#[]⟩] 76)
  have hb_ := heap_alloc_new w3 (.cells #[.int .i64 0, .int .i64 op, .int .i64 0, .string ⟨#[]⟩, .string ⟨#[]⟩] 76)
  obtain ⟨b4, hxb_⟩ : ∃ b, b = w3.heap.size := ⟨_, rfl⟩
  obtain ⟨w4, hw_⟩ : ∃ w_, w3.alloc (.cells #[.int .i64 0, .int .i64 op, .int .i64 0, .string ⟨#[]⟩, .string ⟨#[]⟩] 76) = w_ := ⟨_, rfl⟩
  have hz_ : w4.heap.size = b4 + 1 := by rw [← hw_, hxb_]; exact alloc_size _ _
  rw [hw_] at hal_ hb_
  rw [← hxb_] at hb_
  have Hw4 := Lib.hid hw_
  have Hx4 := Lib.hid hxb_
  have Ha4 := Lib.hid hal_
  have Hb4 := Lib.hid hb_
  have Hz4 := Lib.hid hz_
  clear hal_ hb_ hxb_ hw_ hz_
  have c0 : w4.cell? ⟨b4, 0, none⟩ = some (.int .i64 0) := (var5' Hb4.out).1
  have c1 : w4.cell? ⟨b4, 1, none⟩ = some (.int .i64 op) := (var5' Hb4.out).2.1
  go_upto_region 3 with fail
  rw [Hw4.out, ← Hx4.out]
  go_wp2_with fail
  refine (HT.out _).mono ?_
  rintro e w5 ⟨rfl, hc5⟩
  have Hc5 := Lib.hid hc5
  have Hb14 := Lib.hid (row_kept (Hc3.out.trans Ha4.out) Hb1.out id)
  have Hb15 := Lib.hid (row_kept hc5 Hb14.out id)
  have Hb45 := Lib.hid (row_kept hc5 Hb4.out id)
  have Hne := Lib.hid (show b1 ≠ b4 by have := Hx1.out; have := Hz1.out; have := Hx4.out; have := Hc3.out.size; omega)
  have Hc15 := Lib.hid (((Ha1.out.trans Hc3.out).trans Ha4.out).trans hc5)
  clear hc5 c0 c1
  obtain ⟨c0, c1, c2, c3, c4⟩ := var5' Hb45.out
  obtain ⟨d0, d1, d2, d3, d4⟩ := var5' Hb15.out
  have fr := row_free Hb15.out
  have fs := row_free Hb45.out
  go_wp2_with fail
  have HS := set5 Hb15.out
  exact bodyPost_ret (res_cell2 (p := 2) (t := 3) (ty := 76) rfl _ rfl (run_loadVar_row _ _ _ _ _ _ _ (HS _ _ _ _ _).1 (Tryd.underlying76) rfl rfl)) rfl ⟨(Hc15.out).above (HS _ _ _ _ _).2 fun k e => by have := Hx1.out; omega, by rw [Hr.out]; exact ⟨_, _, _, _, rfl⟩⟩
set_option maxHeartbeats 4000000 in
set_option maxRecDepth 20000 in
theorem inst_bad (t : List UInt8) (base : Nat) (w : World) (h : Av base w) (hs : t.length ≤ 65536) (h0 : (opF (cutW t).1 : Int) ≠ 0) (hm : (cutW t).2.2 ≠ decide (takesF (opF (cutW t).1) ≠ 0)) (nb : Bool) (htk : decide (takesF (opF (cutW t).1) ≠ 0) = nb) : Calls Tryd.prog 39 #[.string (tx t)] w (InsP (insF t) w) := by
  have Hr := Lib.hid (show insF t = insG (opF (cutW t).1) (cutW t).2.2 (cutW t).2.1 from rfl)
  have hal_ := (Chg.refl NoB w).alloc (.cells #[.int .i64 0, .int .i64 0, .int .i64 0, .string ⟨#[]⟩, .string ⟨#[]⟩] 76)
  have hb_ := heap_alloc_new w (.cells #[.int .i64 0, .int .i64 0, .int .i64 0, .string ⟨#[]⟩, .string ⟨#[]⟩] 76)
  obtain ⟨b1, hxb_⟩ : ∃ b, b = w.heap.size := ⟨_, rfl⟩
  obtain ⟨w1, hw_⟩ : ∃ w_, w.alloc (.cells #[.int .i64 0, .int .i64 0, .int .i64 0, .string ⟨#[]⟩, .string ⟨#[]⟩] 76) = w_ := ⟨_, rfl⟩
  have hz_ : w1.heap.size = b1 + 1 := by rw [← hw_, hxb_]; exact alloc_size _ _
  rw [hw_] at hal_ hb_
  rw [← hxb_] at hb_
  have Hw1 := Lib.hid hw_
  have Hx1 := Lib.hid hxb_
  have Ha1 := Lib.hid hal_
  have Hb1 := Lib.hid hb_
  have Hz1 := Lib.hid hz_
  clear hal_ hb_ hxb_ hw_ hz_
  have HC := Lib.hid (cutW_any t base w1 (h.keep Ha1.out).lb (by omega))
  have hop := opF_lt (cutW t).1
  have hlen := (cutW_len t).2
  generalize cutW t = cw at *
  obtain ⟨wd, rest, more⟩ := cw
  simp only at *
  have HO := Lib.hid (fun w (h : Wd base w) => op_any wd base w h)
  generalize hopd : (opF wd : Int) = op at *
  have HT := Lib.hid (fun w => takes_any op w)
  have hop2 : 0 ≤ op ∧ op < 31 := by omega
  clear hopd
  have H := Lib.hid h
  clear hop h
  have h0b : (op == 0) = false := by simp [h0]
  replace Hr := Lib.hid (show insF t = none by rw [Hr.out]; exact if_pos (.inr hm))
  have hnb : (takesF op != 0) = nb := by rw [← htk, Bool.eq_iff_iff]; simp
  rw [htk] at hm
  clear h0 htk
  cases nb with
  | true =>
    obtain rfl : more = false := by simpa using hm
    clear hm
    go_enter Tryd.func39, Tryd.ntmps39
    go_upto_region 1 with fail
    rw [Hw1.out, ← Hx1.out]
    go_wp2_with fail
    refine HC.out.mono ?_
    rintro e w2 ⟨hc2, rfl⟩
    have Hc2 := Lib.hid hc2
    clear hc2
    go_wp2_with fail
    refine (HO.out _ (H.out.keep (Ha1.out.trans Hc2.out)).wd).mono ?_
    rintro e w3 ⟨rfl, hc3⟩
    have Hc3 := Lib.hid (Hc2.out.trans hc3)
    clear hc3 Hc2
    have hal_ := (Chg.refl NoB w3).alloc (.cells #[.int .i64 0, .int .i64 op, .int .i64 0, .string ⟨#[]⟩, .string ⟨#[]⟩] 76)
    have hb_ := heap_alloc_new w3 (.cells #[.int .i64 0, .int .i64 op, .int .i64 0, .string ⟨#[]⟩, .string ⟨#[]⟩] 76)
    obtain ⟨b4, hxb_⟩ : ∃ b, b = w3.heap.size := ⟨_, rfl⟩
    obtain ⟨w4, hw_⟩ : ∃ w_, w3.alloc (.cells #[.int .i64 0, .int .i64 op, .int .i64 0, .string ⟨#[]⟩, .string ⟨#[]⟩] 76) = w_ := ⟨_, rfl⟩
    have hz_ : w4.heap.size = b4 + 1 := by rw [← hw_, hxb_]; exact alloc_size _ _
    rw [hw_] at hal_ hb_
    rw [← hxb_] at hb_
    have Hw4 := Lib.hid hw_
    have Hx4 := Lib.hid hxb_
    have Ha4 := Lib.hid hal_
    have Hb4 := Lib.hid hb_
    have Hz4 := Lib.hid hz_
    clear hal_ hb_ hxb_ hw_ hz_
    have c0 : w4.cell? ⟨b4, 0, none⟩ = some (.int .i64 0) := (var5' Hb4.out).1
    have c1 : w4.cell? ⟨b4, 1, none⟩ = some (.int .i64 op) := (var5' Hb4.out).2.1
    go_upto_region 3 with fail
    rw [Hw4.out, ← Hx4.out]
    go_wp2_with fail
    refine (HT.out _).mono ?_
    rintro e w5 ⟨rfl, hc5⟩
    have Hc5 := Lib.hid hc5
    have Hb14 := Lib.hid (row_kept (Hc3.out.trans Ha4.out) Hb1.out id)
    have Hb15 := Lib.hid (row_kept hc5 Hb14.out id)
    have Hb45 := Lib.hid (row_kept hc5 Hb4.out id)
    have Hne := Lib.hid (show b1 ≠ b4 by have := Hx1.out; have := Hz1.out; have := Hx4.out; have := Hc3.out.size; omega)
    have Hc15 := Lib.hid (((Ha1.out.trans Hc3.out).trans Ha4.out).trans hc5)
    clear hc5 c0 c1
    obtain ⟨c0, c1, c2, c3, c4⟩ := var5' Hb45.out
    obtain ⟨d0, d1, d2, d3, d4⟩ := var5' Hb15.out
    have fr := row_free Hb15.out
    have fs := row_free Hb45.out
    go_wp2_with fail
    have HS := set5 Hb15.out
    exact bodyPost_ret (res_cell2 (p := 2) (t := 3) (ty := 76) rfl _ rfl (run_loadVar_row _ _ _ _ _ _ _ (HS _ _ _ _ _).1 (Tryd.underlying76) rfl rfl)) rfl ⟨(Hc15.out).above (HS _ _ _ _ _).2 fun k e => by have := Hx1.out; omega, by rw [Hr.out]; exact ⟨_, _, _, _, rfl⟩⟩
  | false =>
    obtain rfl : more = true := by simpa using hm
    clear hm
    go_enter Tryd.func39, Tryd.ntmps39
    go_upto_region 1 with fail
    rw [Hw1.out, ← Hx1.out]
    go_wp2_with fail
    refine HC.out.mono ?_
    rintro e w2 ⟨hc2, rfl⟩
    have Hc2 := Lib.hid hc2
    clear hc2
    go_wp2_with fail
    refine (HO.out _ (H.out.keep (Ha1.out.trans Hc2.out)).wd).mono ?_
    rintro e w3 ⟨rfl, hc3⟩
    have Hc3 := Lib.hid (Hc2.out.trans hc3)
    clear hc3 Hc2
    have hal_ := (Chg.refl NoB w3).alloc (.cells #[.int .i64 0, .int .i64 op, .int .i64 0, .string ⟨#[]⟩, .string ⟨#[]⟩] 76)
    have hb_ := heap_alloc_new w3 (.cells #[.int .i64 0, .int .i64 op, .int .i64 0, .string ⟨#[]⟩, .string ⟨#[]⟩] 76)
    obtain ⟨b4, hxb_⟩ : ∃ b, b = w3.heap.size := ⟨_, rfl⟩
    obtain ⟨w4, hw_⟩ : ∃ w_, w3.alloc (.cells #[.int .i64 0, .int .i64 op, .int .i64 0, .string ⟨#[]⟩, .string ⟨#[]⟩] 76) = w_ := ⟨_, rfl⟩
    have hz_ : w4.heap.size = b4 + 1 := by rw [← hw_, hxb_]; exact alloc_size _ _
    rw [hw_] at hal_ hb_
    rw [← hxb_] at hb_
    have Hw4 := Lib.hid hw_
    have Hx4 := Lib.hid hxb_
    have Ha4 := Lib.hid hal_
    have Hb4 := Lib.hid hb_
    have Hz4 := Lib.hid hz_
    clear hal_ hb_ hxb_ hw_ hz_
    have c0 : w4.cell? ⟨b4, 0, none⟩ = some (.int .i64 0) := (var5' Hb4.out).1
    have c1 : w4.cell? ⟨b4, 1, none⟩ = some (.int .i64 op) := (var5' Hb4.out).2.1
    go_upto_region 3 with fail
    rw [Hw4.out, ← Hx4.out]
    go_wp2_with fail
    refine (HT.out _).mono ?_
    rintro e w5 ⟨rfl, hc5⟩
    have Hc5 := Lib.hid hc5
    have Hb14 := Lib.hid (row_kept (Hc3.out.trans Ha4.out) Hb1.out id)
    have Hb15 := Lib.hid (row_kept hc5 Hb14.out id)
    have Hb45 := Lib.hid (row_kept hc5 Hb4.out id)
    have Hne := Lib.hid (show b1 ≠ b4 by have := Hx1.out; have := Hz1.out; have := Hx4.out; have := Hc3.out.size; omega)
    have Hc15 := Lib.hid (((Ha1.out.trans Hc3.out).trans Ha4.out).trans hc5)
    clear hc5 c0 c1
    obtain ⟨c0, c1, c2, c3, c4⟩ := var5' Hb45.out
    obtain ⟨d0, d1, d2, d3, d4⟩ := var5' Hb15.out
    have fr := row_free Hb15.out
    have fs := row_free Hb45.out
    go_wp2_with fail
    have HS := set5 Hb15.out
    exact bodyPost_ret (res_cell2 (p := 2) (t := 3) (ty := 76) rfl _ rfl (run_loadVar_row _ _ _ _ _ _ _ (HS _ _ _ _ _).1 (Tryd.underlying76) rfl rfl)) rfl ⟨(Hc15.out).above (HS _ _ _ _ _).2 fun k e => by have := Hx1.out; omega, by rw [Hr.out]; exact ⟨_, _, _, _, rfl⟩⟩
set_option maxHeartbeats 4000000 in
set_option maxRecDepth 20000 in
theorem inst_zero (t : List UInt8) (base : Nat) (w : World) (h : Av base w) (hs : t.length ≤ 65536) (h0 : (opF (cutW t).1 : Int) ≠ 0) (hm : (cutW t).2.2 = decide (takesF (opF (cutW t).1) ≠ 0)) (htk : takesF (opF (cutW t).1) = 0) : Calls Tryd.prog 39 #[.string (tx t)] w (InsP (insF t) w) := by
  have Hr := Lib.hid (show insF t = insG (opF (cutW t).1) (cutW t).2.2 (cutW t).2.1 from rfl)
  have hal_ := (Chg.refl NoB w).alloc (.cells #[.int .i64 0, .int .i64 0, .int .i64 0, .string ⟨#[]⟩, .string ⟨#[]⟩] 76)
  have hb_ := heap_alloc_new w (.cells #[.int .i64 0, .int .i64 0, .int .i64 0, .string ⟨#[]⟩, .string ⟨#[]⟩] 76)
  obtain ⟨b1, hxb_⟩ : ∃ b, b = w.heap.size := ⟨_, rfl⟩
  obtain ⟨w1, hw_⟩ : ∃ w_, w.alloc (.cells #[.int .i64 0, .int .i64 0, .int .i64 0, .string ⟨#[]⟩, .string ⟨#[]⟩] 76) = w_ := ⟨_, rfl⟩
  have hz_ : w1.heap.size = b1 + 1 := by rw [← hw_, hxb_]; exact alloc_size _ _
  rw [hw_] at hal_ hb_
  rw [← hxb_] at hb_
  have Hw1 := Lib.hid hw_
  have Hx1 := Lib.hid hxb_
  have Ha1 := Lib.hid hal_
  have Hb1 := Lib.hid hb_
  have Hz1 := Lib.hid hz_
  clear hal_ hb_ hxb_ hw_ hz_
  have HC := Lib.hid (cutW_any t base w1 (h.keep Ha1.out).lb (by omega))
  have hop := opF_lt (cutW t).1
  have hlen := (cutW_len t).2
  generalize cutW t = cw at *
  obtain ⟨wd, rest, more⟩ := cw
  simp only at *
  have HO := Lib.hid (fun w (h : Wd base w) => op_any wd base w h)
  generalize hopd : (opF wd : Int) = op at *
  have HT := Lib.hid (fun w => takes_any op w)
  have hop2 : 0 ≤ op ∧ op < 31 := by omega
  clear hopd
  have H := Lib.hid h
  clear hop h
  have h0b : (op == 0) = false := by simp [h0]
  replace Hr := Lib.hid (show insF t = if takesF op = 1 ∨ takesF op = 3 then (digP rest).map fun n => (⟨op, n, []⟩, []) else if takesF op = 2 then (wholeF rest).map fun s => (⟨op, 0, s⟩, []) else if takesF op = 4 then (if Pth.nameL rest = true then some (⟨op, 0, []⟩, rest) else none) else some (⟨op, 0, []⟩, []) by
    rw [Hr.out]; exact if_neg (by rintro (h | h); exact h0 h; exact h hm))
  clear h0
  rw [htk] at hm HT Hr
  replace Hr := Lib.hid (show insF t = some (⟨op, 0, []⟩, []) by rw [Hr.out]; rfl)
  obtain rfl : more = false := by simpa using hm
  clear hm htk
  go_enter Tryd.func39, Tryd.ntmps39
  go_upto_region 1 with fail
  rw [Hw1.out, ← Hx1.out]
  go_wp2_with fail
  refine HC.out.mono ?_
  rintro e w2 ⟨hc2, rfl⟩
  have Hc2 := Lib.hid hc2
  clear hc2
  go_wp2_with fail
  refine (HO.out _ (H.out.keep (Ha1.out.trans Hc2.out)).wd).mono ?_
  rintro e w3 ⟨rfl, hc3⟩
  have Hc3 := Lib.hid (Hc2.out.trans hc3)
  clear hc3 Hc2
  have hal_ := (Chg.refl NoB w3).alloc (.cells #[.int .i64 0, .int .i64 op, .int .i64 0, .string ⟨#[]⟩, .string ⟨#[]⟩] 76)
  have hb_ := heap_alloc_new w3 (.cells #[.int .i64 0, .int .i64 op, .int .i64 0, .string ⟨#[]⟩, .string ⟨#[]⟩] 76)
  obtain ⟨b4, hxb_⟩ : ∃ b, b = w3.heap.size := ⟨_, rfl⟩
  obtain ⟨w4, hw_⟩ : ∃ w_, w3.alloc (.cells #[.int .i64 0, .int .i64 op, .int .i64 0, .string ⟨#[]⟩, .string ⟨#[]⟩] 76) = w_ := ⟨_, rfl⟩
  have hz_ : w4.heap.size = b4 + 1 := by rw [← hw_, hxb_]; exact alloc_size _ _
  rw [hw_] at hal_ hb_
  rw [← hxb_] at hb_
  have Hw4 := Lib.hid hw_
  have Hx4 := Lib.hid hxb_
  have Ha4 := Lib.hid hal_
  have Hb4 := Lib.hid hb_
  have Hz4 := Lib.hid hz_
  clear hal_ hb_ hxb_ hw_ hz_
  have c0 : w4.cell? ⟨b4, 0, none⟩ = some (.int .i64 0) := (var5' Hb4.out).1
  have c1 : w4.cell? ⟨b4, 1, none⟩ = some (.int .i64 op) := (var5' Hb4.out).2.1
  go_upto_region 3 with fail
  rw [Hw4.out, ← Hx4.out]
  go_wp2_with fail
  refine (HT.out _).mono ?_
  rintro e w5 ⟨rfl, hc5⟩
  have Hc5 := Lib.hid hc5
  have Hb14 := Lib.hid (row_kept (Hc3.out.trans Ha4.out) Hb1.out id)
  have Hb15 := Lib.hid (row_kept hc5 Hb14.out id)
  have Hb45 := Lib.hid (row_kept hc5 Hb4.out id)
  have Hne := Lib.hid (show b1 ≠ b4 by have := Hx1.out; have := Hz1.out; have := Hx4.out; have := Hc3.out.size; omega)
  have Hc15 := Lib.hid (((Ha1.out.trans Hc3.out).trans Ha4.out).trans hc5)
  clear hc5 c0 c1
  obtain ⟨c0, c1, c2, c3, c4⟩ := var5' Hb45.out
  obtain ⟨d0, d1, d2, d3, d4⟩ := var5' Hb15.out
  have fr := row_free Hb15.out
  have fs := row_free Hb45.out
  go_wp2_with fail
  have HS := set5 Hb15.out
  exact bodyPost_ret (res_cell2 (p := 2) (t := 3) (ty := 76) rfl _ rfl (run_loadVar_row _ _ _ _ _ _ _ (HS _ _ _ _ _).1 (Tryd.underlying76) rfl rfl)) rfl ⟨(Hc15.out).above (HS _ _ _ _ _).2 fun k e => by have := Hx1.out; omega, by rw [Hr.out]; rfl⟩
end Go.Proofs.YtaihgciokfkonaaDoor
