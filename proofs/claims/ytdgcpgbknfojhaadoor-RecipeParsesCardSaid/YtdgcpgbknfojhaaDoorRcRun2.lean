/- The contracts of the document's step and want. Condition: the text is not too long. -/
import Derived.Test.YtdgcpgbknfojhaaDoorRcRun


namespace Go.Proofs.YtdgcpgbknfojhaaDoor
set_option linter.unusedVariables false
open Go.ChangeShapes Go.WideShapes Go.ChangeAt Go.RowKit
theorem set_tok4 {w : World} {rb : Nat} {src s : List UInt8} {k a b : Nat} {why place : Int} (h : w.heap[rb]? = some (.cells (rnV src k s a b why place) 63 (0, 0))) (k2 a2 b2 : Nat) (s2 : List UInt8) :
    ((((w.setCell ⟨rb, 1, none⟩ (.int .i64 k2)).setCell ⟨rb, 2, none⟩ (.string (tx s2))).setCell ⟨rb, 3, none⟩ (.int .i64 a2)).setCell ⟨rb, 4, none⟩ (.int .i64 b2)).heap[rb]? = some (.cells (rnV src k2 s2 a2 b2 why place) 63 (0, 0)) ∧
    Chg (fun k => k = rb) w ((((w.setCell ⟨rb, 1, none⟩ (.int .i64 k2)).setCell ⟨rb, 2, none⟩ (.string (tx s2))).setCell ⟨rb, 3, none⟩ (.int .i64 a2)).setCell ⟨rb, 4, none⟩ (.int .i64 b2)) :=
  ⟨heap_set (heap_set (heap_set (heap_set h (i := 1) (.int .i64 k2)) (i := 2) (.string (tx s2))) (i := 3) (.int .i64 a2)) (i := 4) (.int .i64 b2), ((((Chg.refl (fun k => k = rb) w).setCell (p := ⟨rb, 1, none⟩) (.inl rfl) _).setCell (p := ⟨rb, 2, none⟩) (.inl rfl) _).setCell (p := ⟨rb, 3, none⟩) (.inl rfl) _).setCell (p := ⟨rb, 4, none⟩) (.inl rfl) _⟩
theorem take_len {l : List UInt8} {st : RdL} (h : takeF l = .ok st) {src : List UInt8} (hl : l <:+ src) : st.s.length ≤ src.length ∧ st.rest <:+ src ∧ st.rem ≤ src.length := by
  obtain ⟨_, b, c, d⟩ := take_ok h
  have := hl.length_le
  exact ⟨by omega, c.trans hl, by omega⟩
/- behind the region: the box at BX of the world W has the token -/
set_option maxHeartbeats 4000000 in
set_option maxRecDepth 20000 in
theorem rstep_any {w : World} {rb : Nat} {src : List UInt8} {o : StL} (h : RuM w rb src o) (hl : src.length ≤ 8192) : Calls Tryd.prog 29 #[.pointer (some ⟨rb, 0, none⟩)] w (RunP rb src (stepS o) w) := by
  cases o with
  | error x =>
    have H := Lib.hid h
    obtain ⟨k, s, a, b, y, p, h1, h2, h3⟩ := h
    obtain ⟨c0, c1, c2, c3, c4, c5, c6⟩ := cell7 h1
    obtain ⟨rfl, rfl, h4⟩ := h3
    have g5 : (x.2 != 0) = true := by rw [bne_iff_ne]; exact h4
    clear h1 h4
    go_enter Tryd.func29, Tryd.ntmps29
    go_wp2_with fail
    go_end0
    exact ⟨Chg.refl _ _, rfl, H.out⟩
  | ok st =>
    obtain ⟨k, s, a, b, y, p, h1, h2, h3⟩ := h
    obtain ⟨rfl, rfl, rfl, rfl, rfl, rfl, hsuf, hrem, htok⟩ := h3
    have hle := hsuf.length_le
    obtain ⟨B, hB⟩ : ∃ B, B = src.length - st.rest.length := ⟨_, rfl⟩
    have hBl : B ≤ src.length := by omega
    have hdr : src.drop B = st.rest := by rw [hB]; exact suf_drop hsuf
    have HN := Lib.hid (fun W => rnext_any src B W hBl hl)
    rw [hdr] at HN
    rw [← hB] at h1
    obtain ⟨c0, c1, c2, c3, c4, c5, c6⟩ := cell7 h1
    have H1 := Lib.hid h1
    have hrb := lt_of_block h1
    have hs2 := Lib.hid (show ∀ st' : RdL, takeF st.rest = .ok st' → st'.s.length ≤ src.length ∧ st'.rest <:+ src ∧ st'.rem ≤ src.length from fun st' e => take_len e hsuf)
    have Hdef := Lib.hid (show stepS (.ok st) = takeF st.rest from rfl)
    rw [Hdef.out]
    have Htk := Lib.hid (fun st' (e : takeF st.rest = .ok st') => (take_ok e).1)
    have Hbd := Lib.hid (fun x (e : takeF st.rest = .error x) => take_bad e)
    have HO := Lib.hid (show RuC src (.ok st) st.kind st.s (src.length - st.rem) B 0 0 from ⟨rfl, rfl, rfl, hB, rfl, rfl, hsuf, hrem, htok⟩)
    clear h1 htok hsuf hdr hB
    generalize hT : takeF st.rest = T at *
    clear hT
    go_enter Tryd.func29, Tryd.ntmps29
    go_upto_region 1 with fail
    have hA := And.intro c0 c4
    have hcd := (Chg.refl NoB w).drew
    cases T with
    | ok st' =>
      have hz := (Chg.refl NoB w).alloc (.cells #[.int .i64 0, .string ⟨#[]⟩, .int .i64 0, .int .i64 0] 42)
      have hzd := hz.drew
      have hZ := And.intro (hz.keep c0) (hz.keep c4)
      have hZd := And.intro (hzd.keep c0) (hzd.keep c4)
      have hcA := And.intro (hcd.keep c0) (hcd.keep c4)
      go_region_held3 (fun w' => w'.cell? ⟨rb, 0, none⟩ = some (.string (tx src)) ∧ w'.cell? ⟨rb, 4, none⟩ = some (.int .i64 (B : Nat)))
        (first | with_reducible exact hE | with_reducible exact hD | with_reducible exact hC | with_reducible exact hZ | with_reducible exact hZd | with_reducible exact hcA | with_reducible exact hA)
        (first
          | (go_at_call 20; refine (HN.out w.drew).mono ?_; rintro e w2 ⟨hc', he⟩; obtain rfl : e = .returned (.tuple #[.agg #[.int .i64 st'.kind, .string (tx st'.s), .int .i64 ((src.length - st'.rem : Nat) : Int), .int .i64 ((src.length - st'.rest.length : Nat) : Int)], .bool true]) := he; have hc2 : Chg NoB w w2 := hcd.trans hc'; have hC := And.intro (hc2.keep c0) (hc2.keep c4); have hal := hc2.alloc (.cells #[.int .i64 0, .string ⟨#[]⟩, .int .i64 0, .int .i64 0] 42); have hD := And.intro (hal.keep c0) (hal.keep c4); have hbl := hc2.alloc (.cells #[.int .i64 st'.kind, .string (tx st'.s), .int .i64 ((src.length - st'.rem : Nat) : Int), .int .i64 ((src.length - st'.rest.length : Nat) : Int)] 42); have hE := And.intro (hbl.keep c0) (hbl.keep c4))
          | (go_at_call 20; refine (HN.out (w.alloc (.cells #[.int .i64 0, .string ⟨#[]⟩, .int .i64 0, .int .i64 0] 42)).drew).mono ?_; rintro e w2 ⟨hc', he⟩; obtain rfl : e = .returned (.tuple #[.agg #[.int .i64 st'.kind, .string (tx st'.s), .int .i64 ((src.length - st'.rem : Nat) : Int), .int .i64 ((src.length - st'.rest.length : Nat) : Int)], .bool true]) := he; have hc2 : Chg NoB w w2 := hzd.trans hc'; have hC := And.intro (hc2.keep c0) (hc2.keep c4); have hb2 := row_kept hc' (row_kept (Chg.refl NoB _).drew (heap_alloc_new w _) id) id; have hbf := row_free hb2; obtain ⟨v0, v1, v2, v3⟩ := var4 hb2; have hs4 := set4 hb2 (.int .i64 st'.kind) (.string (tx st'.s)) (.int .i64 ((src.length - st'.rem : Nat) : Int)) (.int .i64 ((src.length - st'.rest.length : Nat) : Int)); have hE := And.intro (hs4.2.cell hC.1 (by dsimp only; omega)) (hs4.2.cell hC.2 (by dsimp only; omega))))
      · skip
        have hB0 := heap_alloc_new w2 (.cells #[.int .i64 st'.kind, .string (tx st'.s), .int .i64 ((src.length - st'.rem : Nat) : Int), .int .i64 ((src.length - st'.rest.length : Nat) : Int)] 42)
        have hC0 : Chg NoB w (w2.alloc (.cells #[.int .i64 st'.kind, .string (tx st'.s), .int .i64 ((src.length - st'.rem : Nat) : Int), .int .i64 ((src.length - st'.rest.length : Nat) : Int)] 42)) := hbl
        generalize w2.alloc (.cells #[.int .i64 st'.kind, .string (tx st'.s), .int .i64 ((src.length - st'.rem : Nat) : Int), .int .i64 ((src.length - st'.rest.length : Nat) : Int)] 42) = w3 at *
        obtain ⟨bx, hbx⟩ : ∃ b, b = w2.heap.size := ⟨_, rfl⟩
        rw [← hbx] at hB0 ⊢
        have hbx2 : bx ≠ rb := by subst hbx; first | exact (fun e => by have := hc2.size; omega) | exact (fun e => by omega)
        clear hbx
        have HB := Lib.hid hB0
        have HC := Lib.hid hC0
        have Hr3 := Lib.hid (row_kept hC0 H1.out id)
        clear hB0 hC0 c0 c1 c2 c3 c4 c5 c6 hA hz hzd hZ hZd hcA hcd
        clear hE hbl hD hal hC hc2 hc'
        obtain ⟨e0, e1, e2, e3⟩ := var4 HB.out
        obtain ⟨d0, d1, d2, d3, d4, d5, d6⟩ := cell7 Hr3.out
        have fr := row_free Hr3.out
        obtain ⟨y1, y2, y3⟩ := hs2.out st' rfl
        have ht := Htk.out st' rfl
        have Hend := Lib.hid (set_tok4 Hr3.out st'.kind (src.length - st'.rem) (src.length - st'.rest.length) st'.s)
        have Hy := Lib.hid (And.intro y1 (And.intro y2 (And.intro y3 ht)))
        clear y1 y2 y3 ht
        go_wp2_with fail
        go_end0
        exact ⟨(HC.out.mono fun _ _ h => h.elim).trans Hend.out.2, rfl, _, _, _, _, _, _, Hend.out.1, Hy.out.1, rfl, rfl, rfl, rfl, rfl, rfl, Hy.out.2.1, Hy.out.2.2.1, Hy.out.2.2.2⟩
      · skip
        have hab := hc2.above hs4.2 (fun k e => by omega)
        have hB0 := hs4.1
        have hC0 : Chg NoB w ((((w2.setCell ⟨w.heap.size, 0, none⟩ (.int .i64 st'.kind)).setCell ⟨w.heap.size, 1, none⟩ (.string (tx st'.s))).setCell ⟨w.heap.size, 2, none⟩ (.int .i64 ((src.length - st'.rem : Nat) : Int))).setCell ⟨w.heap.size, 3, none⟩ (.int .i64 ((src.length - st'.rest.length : Nat) : Int))) := hab
        generalize (((w2.setCell ⟨w.heap.size, 0, none⟩ (.int .i64 st'.kind)).setCell ⟨w.heap.size, 1, none⟩ (.string (tx st'.s))).setCell ⟨w.heap.size, 2, none⟩ (.int .i64 ((src.length - st'.rem : Nat) : Int))).setCell ⟨w.heap.size, 3, none⟩ (.int .i64 ((src.length - st'.rest.length : Nat) : Int)) = w3 at *
        obtain ⟨bx, hbx⟩ : ∃ b, b = w.heap.size := ⟨_, rfl⟩
        rw [← hbx] at hB0 ⊢
        have hbx2 : bx ≠ rb := by subst hbx; first | exact (fun e => by have := hc2.size; omega) | exact (fun e => by omega)
        clear hbx
        have HB := Lib.hid hB0
        have HC := Lib.hid hC0
        have Hr3 := Lib.hid (row_kept hC0 H1.out id)
        clear hB0 hC0 c0 c1 c2 c3 c4 c5 c6 hA hz hzd hZ hZd hcA hcd
        clear hab hE hC hc2 hc' hs4 hb2 hbf v0 v1 v2 v3
        obtain ⟨e0, e1, e2, e3⟩ := var4 HB.out
        obtain ⟨d0, d1, d2, d3, d4, d5, d6⟩ := cell7 Hr3.out
        have fr := row_free Hr3.out
        obtain ⟨y1, y2, y3⟩ := hs2.out st' rfl
        have ht := Htk.out st' rfl
        have Hend := Lib.hid (set_tok4 Hr3.out st'.kind (src.length - st'.rem) (src.length - st'.rest.length) st'.s)
        have Hy := Lib.hid (And.intro y1 (And.intro y2 (And.intro y3 ht)))
        clear y1 y2 y3 ht
        go_wp2_with fail
        go_end0
        exact ⟨(HC.out.mono fun _ _ h => h.elim).trans Hend.out.2, rfl, _, _, _, _, _, _, Hend.out.1, Hy.out.1, rfl, rfl, rfl, rfl, rfl, rfl, Hy.out.2.1, Hy.out.2.2.1, Hy.out.2.2.2⟩
    | error x =>
      have hz := (Chg.refl NoB w).alloc (.cells #[.int .i64 0, .string ⟨#[]⟩, .int .i64 0, .int .i64 0] 42)
      have hzd := hz.drew
      have hZ := And.intro (hz.keep c0) (hz.keep c4)
      have hZd := And.intro (hzd.keep c0) (hzd.keep c4)
      have hcA := And.intro (hcd.keep c0) (hcd.keep c4)
      go_region_held3 (fun w' => w'.cell? ⟨rb, 0, none⟩ = some (.string (tx src)) ∧ w'.cell? ⟨rb, 4, none⟩ = some (.int .i64 (B : Nat)))
        (first | with_reducible exact hE | with_reducible exact hD | with_reducible exact hC | with_reducible exact hZ | with_reducible exact hZd | with_reducible exact hcA | with_reducible exact hA)
        (first
          | (go_at_call 20; refine (HN.out w.drew).mono ?_; rintro e w2 ⟨hc', ⟨k, t, b, htl, he⟩⟩; obtain rfl : e = .returned (.tuple #[.agg #[.int .i64 k, .string (tx t), .int .i64 ((src.length - x.1 : Nat) : Int), .int .i64 b], .bool false]) := he; have hc2 : Chg NoB w w2 := hcd.trans hc'; have hC := And.intro (hc2.keep c0) (hc2.keep c4); have hal := hc2.alloc (.cells #[.int .i64 0, .string ⟨#[]⟩, .int .i64 0, .int .i64 0] 42); have hD := And.intro (hal.keep c0) (hal.keep c4); have hbl := hc2.alloc (.cells #[.int .i64 k, .string (tx t), .int .i64 ((src.length - x.1 : Nat) : Int), .int .i64 b] 42); have hE := And.intro (hbl.keep c0) (hbl.keep c4))
          | (go_at_call 20; refine (HN.out (w.alloc (.cells #[.int .i64 0, .string ⟨#[]⟩, .int .i64 0, .int .i64 0] 42)).drew).mono ?_; rintro e w2 ⟨hc', ⟨k, t, b, htl, he⟩⟩; obtain rfl : e = .returned (.tuple #[.agg #[.int .i64 k, .string (tx t), .int .i64 ((src.length - x.1 : Nat) : Int), .int .i64 b], .bool false]) := he; have hc2 : Chg NoB w w2 := hzd.trans hc'; have hC := And.intro (hc2.keep c0) (hc2.keep c4); have hb2 := row_kept hc' (row_kept (Chg.refl NoB _).drew (heap_alloc_new w _) id) id; have hbf := row_free hb2; obtain ⟨v0, v1, v2, v3⟩ := var4 hb2; have hs4 := set4 hb2 (.int .i64 k) (.string (tx t)) (.int .i64 ((src.length - x.1 : Nat) : Int)) (.int .i64 b); have hE := And.intro (hs4.2.cell hC.1 (by dsimp only; omega)) (hs4.2.cell hC.2 (by dsimp only; omega))))
      · skip
        have hB0 := heap_alloc_new w2 (.cells #[.int .i64 k, .string (tx t), .int .i64 ((src.length - x.1 : Nat) : Int), .int .i64 b] 42)
        have hC0 : Chg NoB w (w2.alloc (.cells #[.int .i64 k, .string (tx t), .int .i64 ((src.length - x.1 : Nat) : Int), .int .i64 b] 42)) := hbl
        generalize w2.alloc (.cells #[.int .i64 k, .string (tx t), .int .i64 ((src.length - x.1 : Nat) : Int), .int .i64 b] 42) = w3 at *
        obtain ⟨bx, hbx⟩ : ∃ b, b = w2.heap.size := ⟨_, rfl⟩
        rw [← hbx] at hB0 ⊢
        have hbx2 : bx ≠ rb := by subst hbx; first | exact (fun e => by have := hc2.size; omega) | exact (fun e => by omega)
        clear hbx
        have HB := Lib.hid hB0
        have HC := Lib.hid hC0
        have Hr3 := Lib.hid (row_kept hC0 H1.out id)
        clear hB0 hC0 c0 c1 c2 c3 c4 c5 c6 hA hz hzd hZ hZd hcA hcd
        clear hE hbl hD hal hC hc2 hc'
        obtain ⟨e0, e1, e2, e3⟩ := var4 HB.out
        have hx2 : x.2 = 50 := Hbd.out x rfl
        have hr3 : RuM w3 rb src (.ok st) := ⟨_, _, _, _, _, _, Hr3.out, h2, HO.out⟩
        have HF := Lib.hid (rfail_any hr3 (src.length - x.1) x.1 rfl 50 (by decide))
        have Hz := Lib.hid (show (Except.error x : StL) = failS x.1 50 (.ok st) from by
          obtain ⟨x1, x2⟩ := x
          simp only at hx2
          subst hx2
          rfl)
        rw [Hz.out]
        clear hr3 hx2 Hr3
        go_wp2_with fail
        refine HF.out.mono ?_
        rintro e w4 ⟨hc4, rfl, hr4⟩
        obtain ⟨k5, s5, a5, b5, y5, p5, h5, g5, q5⟩ := hr4
        have hb4 := row_kept hc4 HB.out hbx2
        have Hc4 := Lib.hid ((HC.out.mono fun _ _ h => h.elim).trans hc4)
        clear e0 e1 e2 e3
        obtain ⟨e0, e1, e2, e3⟩ := var4 hb4
        obtain ⟨d0, d1, d2, d3, d4, d5, d6⟩ := cell7 h5
        have fr := row_free h5
        have Hend := Lib.hid (set_tok4 h5 k (src.length - x.1) b t)
        rw [← Hz.out] at q5
        have Hq := Lib.hid q5
        have Htl := Lib.hid htl
        clear q5 h5 hc4 htl hb4 HF g5
        go_wp2_with fail
        go_end0
        exact ⟨Hc4.out.trans Hend.out.2, rfl, _, _, _, _, _, _, Hend.out.1, Htl.out, Hq.out⟩
      · skip
        have hab := hc2.above hs4.2 (fun k e => by omega)
        have hB0 := hs4.1
        have hC0 : Chg NoB w ((((w2.setCell ⟨w.heap.size, 0, none⟩ (.int .i64 k)).setCell ⟨w.heap.size, 1, none⟩ (.string (tx t))).setCell ⟨w.heap.size, 2, none⟩ (.int .i64 ((src.length - x.1 : Nat) : Int))).setCell ⟨w.heap.size, 3, none⟩ (.int .i64 b)) := hab
        generalize (((w2.setCell ⟨w.heap.size, 0, none⟩ (.int .i64 k)).setCell ⟨w.heap.size, 1, none⟩ (.string (tx t))).setCell ⟨w.heap.size, 2, none⟩ (.int .i64 ((src.length - x.1 : Nat) : Int))).setCell ⟨w.heap.size, 3, none⟩ (.int .i64 b) = w3 at *
        obtain ⟨bx, hbx⟩ : ∃ b, b = w.heap.size := ⟨_, rfl⟩
        rw [← hbx] at hB0 ⊢
        have hbx2 : bx ≠ rb := by subst hbx; first | exact (fun e => by have := hc2.size; omega) | exact (fun e => by omega)
        clear hbx
        have HB := Lib.hid hB0
        have HC := Lib.hid hC0
        have Hr3 := Lib.hid (row_kept hC0 H1.out id)
        clear hB0 hC0 c0 c1 c2 c3 c4 c5 c6 hA hz hzd hZ hZd hcA hcd
        clear hab hE hC hc2 hc' hs4 hb2 hbf v0 v1 v2 v3
        obtain ⟨e0, e1, e2, e3⟩ := var4 HB.out
        have hx2 : x.2 = 50 := Hbd.out x rfl
        have hr3 : RuM w3 rb src (.ok st) := ⟨_, _, _, _, _, _, Hr3.out, h2, HO.out⟩
        have HF := Lib.hid (rfail_any hr3 (src.length - x.1) x.1 rfl 50 (by decide))
        have Hz := Lib.hid (show (Except.error x : StL) = failS x.1 50 (.ok st) from by
          obtain ⟨x1, x2⟩ := x
          simp only at hx2
          subst hx2
          rfl)
        rw [Hz.out]
        clear hr3 hx2 Hr3
        go_wp2_with fail
        refine HF.out.mono ?_
        rintro e w4 ⟨hc4, rfl, hr4⟩
        obtain ⟨k5, s5, a5, b5, y5, p5, h5, g5, q5⟩ := hr4
        have hb4 := row_kept hc4 HB.out hbx2
        have Hc4 := Lib.hid ((HC.out.mono fun _ _ h => h.elim).trans hc4)
        clear e0 e1 e2 e3
        obtain ⟨e0, e1, e2, e3⟩ := var4 hb4
        obtain ⟨d0, d1, d2, d3, d4, d5, d6⟩ := cell7 h5
        have fr := row_free h5
        have Hend := Lib.hid (set_tok4 h5 k (src.length - x.1) b t)
        rw [← Hz.out] at q5
        have Hq := Lib.hid q5
        have Htl := Lib.hid htl
        clear q5 h5 hc4 htl hb4 HF g5
        go_wp2_with fail
        go_end0
        exact ⟨Hc4.out.trans Hend.out.2, rfl, _, _, _, _, _, _, Hend.out.1, Htl.out, Hq.out⟩
set_option maxHeartbeats 2000000 in
set_option maxRecDepth 20000 in
theorem rwant_any {w : World} {rb : Nat} {src : List UInt8} {o : StL} (h : RuM w rb src o) (hl : src.length ≤ 8192) (t : List UInt8) : Calls Tryd.prog 30 #[.pointer (some ⟨rb, 0, none⟩), .string (tx t)] w (RunP rb src (wantS t o) w) := by
  have HH := Lib.hid (rhas_any h t)
  cases hh : hasS o t with
  | true =>
    rw [hh] at HH
    have HS := Lib.hid (rstep_any h hl)
    have Hd := Lib.hid (show wantS t o = stepS o by
      cases o with
      | ok st => unfold wantS; simp only; rw [if_pos hh]; rfl
      | error x => rfl)
    rw [Hd.out]
    clear h hh
    go_enter Tryd.func30, Tryd.ntmps30
    go_wp2_with fail
    refine HH.out.mono ?_
    rintro e w2 ⟨rfl, rfl⟩
    go_wp2_with fail
    refine HS.out.mono ?_
    rintro e w3 ⟨hc, rfl, hr⟩
    have Hc := Lib.hid hc
    have Hr := Lib.hid hr
    clear hc hr
    go_wp2_with fail
    go_end0
    exact ⟨Hc.out, rfl, Hr.out⟩
  | false =>
    rw [hh] at HH
    obtain ⟨a, rem, c3, HF, Hd⟩ : ∃ a rem : Nat, w.cell? ⟨rb, 3, none⟩ = some (.int .i64 a) ∧ Hid (Calls Tryd.prog 33 #[.pointer (some ⟨rb, 0, none⟩), .int .i64 (a : Int), .int .i64 50] w (RunP rb src (failS rem 50 o) w)) ∧ Hid (wantS t o = failS rem 50 o) := by
      cases o with
      | ok st =>
        have h' := h
        obtain ⟨k, s, a, b, y, p, h1, h2, h3⟩ := h
        obtain ⟨c0, c1, c2, c3, c4, c5, c6⟩ := cell7 h1
        exact ⟨a, st.rem, c3, Lib.hid (rfail_any h' a st.rem h3.2.2.1 50 (by decide)), Lib.hid (by unfold wantS; simp only; rw [if_neg (by rw [hh]; decide)]; rfl)⟩
      | error x =>
        have h' := h
        obtain ⟨k, s, a, b, y, p, h1, h2, h3⟩ := h
        obtain ⟨c0, c1, c2, c3, c4, c5, c6⟩ := cell7 h1
        exact ⟨a, 0, c3, Lib.hid (rfail_err h' a 50), Lib.hid rfl⟩
    rw [Hd.out]
    clear h hh Hd
    go_enter Tryd.func30, Tryd.ntmps30
    go_wp2_with fail
    refine HH.out.mono ?_
    rintro e w2 ⟨rfl, rfl⟩
    go_wp2_with fail
    refine HF.out.mono ?_
    rintro e w3 ⟨hc, rfl, hr⟩
    have Hc := Lib.hid hc
    have Hr := Lib.hid hr
    clear hc hr
    go_wp2_with fail
    go_end0
    exact ⟨Hc.out, rfl, Hr.out⟩
end Go.Proofs.YtdgcpgbknfojhaaDoor
