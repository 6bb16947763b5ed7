/- The contracts of choice, binding, term, expr. Conditions: the text is not too long; the keywords read as listed. -/
import Derived.Test.YtdgcpgbknfojhaaDoorRcExpr

namespace Go.Proofs.YtdgcpgbknfojhaaDoor
set_option linter.unusedVariables false
open Go.ChangeShapes Go.WideShapes Go.ChangeAt Go.RowKit
/- an expression in a variable of its own -/
def BoxE (w : World) (lo b : Nat) (x : ExL) : Prop := ∃ q n c kb ko, w.heap[b]? = some (.cells #[.int .i64 x.kind, .string (tx x.s), .slice q n c] 26 (0, 0)) ∧ x.s.length ≤ maxLen ∧ ExS w (fun k => lo ≤ k ∧ k < w.heap.size) (.slice q n c) x.kids kb ko
theorem BoxE.step {w w' : World} {lo b rb : Nat} {x : ExL} (h : BoxE w lo b x) (hc : Chg (fun k => k = rb) w w') (hr : rb < lo) (hb : b ≠ rb) : BoxE w' lo b x := by
  obtain ⟨q, n, c, kb, ko, h1, h2, h3⟩ := h
  exact ⟨q, n, c, kb, ko, row_kept hc h1 hb, h2, (h3.keep hc fun k hk e => by omega).mono fun k hk => ⟨hk.1, Nat.lt_of_lt_of_le hk.2 hc.size⟩⟩
theorem BoxE.keep {w w' : World} {lo b : Nat} {x : ExL} (h : BoxE w lo b x) (hc : Chg NoB w w') : BoxE w' lo b x := by
  obtain ⟨q, n, c, kb, ko, h1, h2, h3⟩ := h
  exact ⟨q, n, c, kb, ko, row_kept hc h1 id, h2, (h3.keep hc fun _ _ => id).mono fun k hk => ⟨hk.1, Nat.lt_of_lt_of_le hk.2 hc.size⟩⟩
theorem ExR.lit {w : World} {S : Nat → Prop} {b : Nat} {xs : List ExL} {vs : List Value} (h : ExR w S xs vs) (hb : w.heap[b]? = some (.cells vs.toArray 26 (0, 0))) (hS : S b) (hm : xs.length ≤ maxLen) : ExS w S (.slice (some ⟨b, 0, none⟩) xs.length xs.length) xs b 0 := by
  refine ⟨⟨_, _, rfl, Nat.le_refl _, hm, fun _ => rfl⟩, fun i hi => ?_⟩
  obtain ⟨c, g1, g2, g3, g4, kb, ko, g5⟩ := h.at' i hi
  rw [Nat.zero_add]
  refine ExC.of hS g4 ?_ ?_ ?_ g5
  · rw [cell_of_row w b _ _ _ (0, 0) hb]; simpa using g1
  · rw [cell_of_row w b _ _ _ (0, 0) hb]; simpa using g2
  · rw [cell_of_row w b _ _ _ (0, 0) hb]; simpa using g3
theorem BoxE.lt {w : World} {lo b : Nat} {x : ExL} (h : BoxE w lo b x) : b < w.heap.size := by
  obtain ⟨q, n, c, kb, ko, h1, _⟩ := h
  exact lt_of_block h1
theorem made_lit {w W : World} {lo b4 : Nat} {xs : List ExL} {vs : List Value} {K : Int} {s : List UInt8} (hrow : ExR w (fun k => lo ≤ k ∧ k < w.heap.size) xs vs) (hm : xs.length ≤ maxLen) (hlo : lo ≤ w.heap.size) (hs : s.length ≤ maxLen) (hb4 : b4 < lo) (hW : Chg (fun k => k = b4) (w.alloc (.cells vs.toArray 26)) W) :
    ExV W (fun k => lo ≤ k ∧ k < W.heap.size) (.agg #[.int .i64 K, .string (tx s), .slice (some ⟨w.heap.size, 0, none⟩) xs.length xs.length]) (.mk K s xs) := by
  have hal := (Chg.refl NoB w).alloc (.cells vs.toArray 26)
  have hz := alloc_size w (.cells vs.toArray 26)
  have h1 := hrow.keep (S' := fun k => lo ≤ k ∧ k < (w.alloc (.cells vs.toArray 26)).heap.size) hal (fun _ _ => id) fun k hk => ⟨hk.1, by rw [hz]; omega⟩
  have h2 := h1.lit (b := w.heap.size) (heap_alloc_new w _) ⟨hlo, by rw [hz]; omega⟩ hm
  exact ⟨hs, _, _, _, rfl, (h2.keep hW fun k hk e => by omega).mono fun k hk => ⟨hk.1, Nat.lt_of_lt_of_le hk.2 hW.size⟩⟩
/- an expression is read; W the world, ST the state, then the new world, the box's, the expression, its state -/
set_option maxHeartbeats 8000000 in
set_option maxRecDepth 20000 in
theorem choice_of {t : TermL} {n : Int} {base rb : Nat} {src : List UInt8} (ht : ExprOk (exprW t) n base rb src) (hl : src.length ≤ 8192) (hrb : base ≤ rb) (w : World) (st0 : RdL) (hr : RdM w rb src st0) (hk : Kw base w) : Calls Tryd.prog 89 #[.pointer (some ⟨rb, 0, none⟩), .int .i64 n] w (ExprP rb src (choiceF t st0) w) := by
  have Ht := Lib.hid ht
  have Hrb := Lib.hid hr.lt
  have Hkw := Lib.hid (fun w' (h : Chg (fun k => k = rb) w w') => hk.chg h fun k e => by omega)
  have hal_ := (Chg.refl NoB w).alloc (.cells #[.int .i64 0, .string ⟨#[]⟩, .slice none 0 0] 26)
  have hb_ := heap_alloc_new w (.cells #[.int .i64 0, .string ⟨#[]⟩, .slice none 0 0] 26)
  obtain ⟨b4, hxb_⟩ : ∃ b, b = w.heap.size := ⟨_, rfl⟩
  obtain ⟨w1, hw_⟩ : ∃ w_, w.alloc (.cells #[.int .i64 0, .string ⟨#[]⟩, .slice none 0 0] 26) = w_ := ⟨_, rfl⟩
  have hz_ : w1.heap.size = b4 + 1 := by rw [← hw_, hxb_]; exact alloc_size _ _
  rw [hw_] at hal_ hb_
  rw [← hxb_] at hb_
  have Hw4 := Lib.hid hw_
  have Hx4 := Lib.hid hxb_
  have Ha4 := Lib.hid hal_
  have Hb4 := Lib.hid hb_
  have Hz4 := Lib.hid hz_
  clear hal_ hb_ hxb_ hw_ hz_
  have Hr := Lib.hid (hr.keep Ha4.out)
  have Hk := Lib.hid (hk.keep Ha4.out)
  have Hc := Lib.hid (Ha4.out.mono fun _ _ h => h.elim : Chg (fun k => k = rb) w w1)
  have HB4 := Lib.hid (show BoxE w1 (b4 + 1) b4 (.mk 0 [] []) from ⟨none, 0, 0, 0, 0, Hb4.out, Nat.zero_le _, ExS.nil _ _⟩)
  have Hrl := Lib.hid (show rb < b4 + 1 by have := Hx4.out; have := Hrb.out; omega)
  have Hne4 := Lib.hid (show b4 ≠ rb by have := Hx4.out; have := Hrb.out; omega)
  have Hdef := Lib.hid (show choiceF t st0 = match exprW t st0 with
    | .error e => .error e
    | .ok (a, s0) => match mustF 2 [61] s0 with
      | .error e => .error e
      | .ok s1 => match exprW t s1 with
        | .error e => .error e
        | .ok (b, s2) => match mustF 1 kThen s2 with
          | .error e => .error e
          | .ok s3 => match exprW t s3 with
            | .error e => .error e
            | .ok (c, s4) => match mustF 1 kElse s4 with
              | .error e => .error e
              | .ok s5 => match exprW t s5 with
                | .error e => .error e
                | .ok (d, s6) => .ok (.mk 4 [] [a, b, c, d], s6) by
    unfold choiceF exprM
    cases exprW t st0 with
    | error e => rfl
    | ok p =>
      obtain ⟨a, s0⟩ := p
      simp only
      cases mustF 2 [61] s0 with
      | error e => rfl
      | ok s1 =>
        simp only
        cases exprW t s1 with
        | error e => rfl
        | ok p =>
          obtain ⟨b, s2⟩ := p
          simp only
          cases mustF 1 kThen s2 with
          | error e => rfl
          | ok s3 =>
            simp only
            cases exprW t s3 with
            | error e => rfl
            | ok p =>
              obtain ⟨c, s4⟩ := p
              simp only
              cases mustF 1 kElse s4 with
              | error e => rfl
              | ok s5 =>
                simp only
                cases exprW t s5 <;> rfl)
  clear ht hr hk
  generalize choiceF t st0 = R at *
  go_enter Tryd.func89, Tryd.ntmps89
  go_upto_region 1 with fail
  rw [Hw4.out, ← Hx4.out]
  have HT := Lib.hid (Ht.out w1 st0 Hr.out Hk.out)
  clear Hr Hk
  go_wp2_with fail
  refine HT.out.mono ?_
  rintro e w2 ⟨hc, h2⟩
  clear HT
  have Hcq := Lib.hid (Hc.out.trans hc)
  have Hkq := Lib.hid (show Kw base w2 from Hkw.out _ Hcq.out)
  cases ht1 : exprW t st0 with
  | error z =>
    rw [ht1] at h2 Hdef
    obtain rfl : e = quitF ((src.length - z.1 : Nat) : Int) z.2 := h2
    clear hc
    unfold quitF
    go_wp2_with fail
    refine ⟨rfl, Hcq.out, ?_⟩
    rw [Hdef.out]
    rfl
  | ok p =>
    obtain ⟨xa, s0⟩ := p
    rw [ht1] at h2 Hdef
    simp only at Hdef
    obtain ⟨hr2, v, rfl, hv⟩ := h2
    obtain ⟨q5, n5, c5, kb5, ko5, rfl, hxl5, hxs⟩ := hv.shape
    have hal_ := (Chg.refl NoB w2).alloc (.cells #[.int .i64 xa.kind, .string (tx xa.s), .slice q5 n5 c5] 26)
    have hb_ := heap_alloc_new w2 (.cells #[.int .i64 xa.kind, .string (tx xa.s), .slice q5 n5 c5] 26)
    obtain ⟨b5, hxb_⟩ : ∃ b, b = w2.heap.size := ⟨_, rfl⟩
    obtain ⟨w3, hw_⟩ : ∃ w_, w2.alloc (.cells #[.int .i64 xa.kind, .string (tx xa.s), .slice q5 n5 c5] 26) = w_ := ⟨_, rfl⟩
    have hz_ : w3.heap.size = b5 + 1 := by rw [← hw_, hxb_]; exact alloc_size _ _
    rw [hw_] at hal_ hb_
    rw [← hxb_] at hb_
    have Hw5 := Lib.hid hw_
    have Hx5 := Lib.hid hxb_
    have Ha5 := Lib.hid hal_
    have Hb5 := Lib.hid hb_
    have Hz5 := Lib.hid hz_
    clear hal_ hb_ hxb_ hw_ hz_
    have hlw : b4 + 1 ≤ w1.heap.size := HB4.out.lt
    have HB5 := Lib.hid (show BoxE w3 (b4 + 1) b5 xa from ⟨_, _, _, _, _, Hb5.out, hxl5, (hxs.keep Ha5.out fun _ _ => id).mono fun k hk => ⟨Nat.le_trans hlw hk.1, Nat.lt_of_lt_of_le hk.2 Ha5.out.size⟩⟩)
    have Hne5 := Lib.hid (show b5 ≠ rb by have := Hx5.out; have := Hcq.out.size; have := Hrb.out; omega)
    have Hch := Lib.hid (show Chg (fun k => k = rb) w1 w3 from hc.trans (Ha5.out.mono fun _ _ h => h.elim))
    have Hr := Lib.hid (hr2.keep Ha5.out)
    have Hk := Lib.hid (Hkq.out.keep Ha5.out)
    replace HB4 := Lib.hid (HB4.out.step Hch.out Hrl.out Hne4.out)
    replace Hc := Lib.hid (Hcq.out.trans (Ha5.out.mono fun _ _ h => h.elim) : Chg (fun k => k = rb) w w3)
    clear hv hxs hr2 hc hlw Hcq Hkq ht1 Hb5 hxl5
    have HT := Lib.hid (must_any base Hr.out hl Hk.out hrb 2 [61])
    clear Hr Hk
    go_upto_region 2 with fail
    rw [Hw5.out, ← Hx5.out]
    go_wp2_with fail
    refine HT.out.mono ?_
    rintro e w4 ⟨hc, h2⟩
    clear HT
    have Hch := Lib.hid hc
    have Hcq := Lib.hid (Hc.out.trans hc)
    cases ht1 : mustF 2 [61] s0 with
    | error z =>
      rw [ht1] at h2 Hdef
      obtain rfl : e = quitF ((src.length - z.1 : Nat) : Int) z.2 := h2
      clear hc
      unfold quitF
      go_wp2_with fail
      refine ⟨rfl, Hcq.out, ?_⟩
      rw [Hdef.out]
      rfl
    | ok s1 =>
      rw [ht1] at h2 Hdef
      simp only at Hdef
      obtain ⟨rfl, hr2⟩ := h2
      have Hr := Lib.hid hr2
      have Hk := Lib.hid (show Kw base w4 from Hkw.out _ Hcq.out)
      replace HB4 := Lib.hid (HB4.out.step Hch.out Hrl.out Hne4.out)
      replace Hc := Lib.hid Hcq.out
      clear hc hr2 Hcq ht1
      have HB5 := Lib.hid (HB5.out.step Hch.out Hrl.out Hne5.out)
      have HT := Lib.hid (Ht.out w4 s1 Hr.out Hk.out)
      clear Hr Hk
      go_wp2_with fail
      refine HT.out.mono ?_
      rintro e w5 ⟨hc, h2⟩
      clear HT
      have Hcq := Lib.hid (Hc.out.trans hc)
      have Hkq := Lib.hid (show Kw base w5 from Hkw.out _ Hcq.out)
      cases ht1 : exprW t s1 with
      | error z =>
        rw [ht1] at h2 Hdef
        obtain rfl : e = quitF ((src.length - z.1 : Nat) : Int) z.2 := h2
        clear hc
        unfold quitF
        go_wp2_with fail
        refine ⟨rfl, Hcq.out, ?_⟩
        rw [Hdef.out]
        rfl
      | ok p =>
        obtain ⟨xb, s2⟩ := p
        rw [ht1] at h2 Hdef
        simp only at Hdef
        obtain ⟨hr2, v, rfl, hv⟩ := h2
        obtain ⟨q6, n6, c6, kb6, ko6, rfl, hxl6, hxs⟩ := hv.shape
        have hal_ := (Chg.refl NoB w5).alloc (.cells #[.int .i64 xb.kind, .string (tx xb.s), .slice q6 n6 c6] 26)
        have hb_ := heap_alloc_new w5 (.cells #[.int .i64 xb.kind, .string (tx xb.s), .slice q6 n6 c6] 26)
        obtain ⟨b6, hxb_⟩ : ∃ b, b = w5.heap.size := ⟨_, rfl⟩
        obtain ⟨w6, hw_⟩ : ∃ w_, w5.alloc (.cells #[.int .i64 xb.kind, .string (tx xb.s), .slice q6 n6 c6] 26) = w_ := ⟨_, rfl⟩
        have hz_ : w6.heap.size = b6 + 1 := by rw [← hw_, hxb_]; exact alloc_size _ _
        rw [hw_] at hal_ hb_
        rw [← hxb_] at hb_
        have Hw6 := Lib.hid hw_
        have Hx6 := Lib.hid hxb_
        have Ha6 := Lib.hid hal_
        have Hb6 := Lib.hid hb_
        have Hz6 := Lib.hid hz_
        clear hal_ hb_ hxb_ hw_ hz_
        have hlw : b4 + 1 ≤ w4.heap.size := HB4.out.lt
        have HB6 := Lib.hid (show BoxE w6 (b4 + 1) b6 xb from ⟨_, _, _, _, _, Hb6.out, hxl6, (hxs.keep Ha6.out fun _ _ => id).mono fun k hk => ⟨Nat.le_trans hlw hk.1, Nat.lt_of_lt_of_le hk.2 Ha6.out.size⟩⟩)
        have Hne6 := Lib.hid (show b6 ≠ rb by have := Hx6.out; have := Hcq.out.size; have := Hrb.out; omega)
        have Hch := Lib.hid (show Chg (fun k => k = rb) w4 w6 from hc.trans (Ha6.out.mono fun _ _ h => h.elim))
        have Hr := Lib.hid (hr2.keep Ha6.out)
        have Hk := Lib.hid (Hkq.out.keep Ha6.out)
        replace HB4 := Lib.hid (HB4.out.step Hch.out Hrl.out Hne4.out)
        replace Hc := Lib.hid (Hcq.out.trans (Ha6.out.mono fun _ _ h => h.elim) : Chg (fun k => k = rb) w w6)
        clear hv hxs hr2 hc hlw Hcq Hkq ht1 Hb6 hxl6
        have HB5 := Lib.hid (HB5.out.step Hch.out Hrl.out Hne5.out)
        have HT := Lib.hid (must_any base Hr.out hl Hk.out hrb 1 kThen)
        clear Hr Hk
        go_upto_region 4 with fail
        rw [Hw6.out, ← Hx6.out]
        go_wp2_with fail
        refine HT.out.mono ?_
        rintro e w7 ⟨hc, h2⟩
        clear HT
        have Hch := Lib.hid hc
        have Hcq := Lib.hid (Hc.out.trans hc)
        cases ht1 : mustF 1 kThen s2 with
        | error z =>
          rw [ht1] at h2 Hdef
          obtain rfl : e = quitF ((src.length - z.1 : Nat) : Int) z.2 := h2
          clear hc
          unfold quitF
          go_wp2_with fail
          refine ⟨rfl, Hcq.out, ?_⟩
          rw [Hdef.out]
          rfl
        | ok s3 =>
          rw [ht1] at h2 Hdef
          simp only at Hdef
          obtain ⟨rfl, hr2⟩ := h2
          have Hr := Lib.hid hr2
          have Hk := Lib.hid (show Kw base w7 from Hkw.out _ Hcq.out)
          replace HB4 := Lib.hid (HB4.out.step Hch.out Hrl.out Hne4.out)
          replace Hc := Lib.hid Hcq.out
          clear hc hr2 Hcq ht1
          have HB5 := Lib.hid (HB5.out.step Hch.out Hrl.out Hne5.out)
          have HB6 := Lib.hid (HB6.out.step Hch.out Hrl.out Hne6.out)
          have HT := Lib.hid (Ht.out w7 s3 Hr.out Hk.out)
          clear Hr Hk
          go_wp2_with fail
          refine HT.out.mono ?_
          rintro e w8 ⟨hc, h2⟩
          clear HT
          have Hcq := Lib.hid (Hc.out.trans hc)
          have Hkq := Lib.hid (show Kw base w8 from Hkw.out _ Hcq.out)
          cases ht1 : exprW t s3 with
          | error z =>
            rw [ht1] at h2 Hdef
            obtain rfl : e = quitF ((src.length - z.1 : Nat) : Int) z.2 := h2
            clear hc
            unfold quitF
            go_wp2_with fail
            refine ⟨rfl, Hcq.out, ?_⟩
            rw [Hdef.out]
            rfl
          | ok p =>
            obtain ⟨xc, s4⟩ := p
            rw [ht1] at h2 Hdef
            simp only at Hdef
            obtain ⟨hr2, v, rfl, hv⟩ := h2
            obtain ⟨q7, n7, c7, kb7, ko7, rfl, hxl7, hxs⟩ := hv.shape
            have hal_ := (Chg.refl NoB w8).alloc (.cells #[.int .i64 xc.kind, .string (tx xc.s), .slice q7 n7 c7] 26)
            have hb_ := heap_alloc_new w8 (.cells #[.int .i64 xc.kind, .string (tx xc.s), .slice q7 n7 c7] 26)
            obtain ⟨b7, hxb_⟩ : ∃ b, b = w8.heap.size := ⟨_, rfl⟩
            obtain ⟨w9, hw_⟩ : ∃ w_, w8.alloc (.cells #[.int .i64 xc.kind, .string (tx xc.s), .slice q7 n7 c7] 26) = w_ := ⟨_, rfl⟩
            have hz_ : w9.heap.size = b7 + 1 := by rw [← hw_, hxb_]; exact alloc_size _ _
            rw [hw_] at hal_ hb_
            rw [← hxb_] at hb_
            have Hw7 := Lib.hid hw_
            have Hx7 := Lib.hid hxb_
            have Ha7 := Lib.hid hal_
            have Hb7 := Lib.hid hb_
            have Hz7 := Lib.hid hz_
            clear hal_ hb_ hxb_ hw_ hz_
            have hlw : b4 + 1 ≤ w7.heap.size := HB4.out.lt
            have HB7 := Lib.hid (show BoxE w9 (b4 + 1) b7 xc from ⟨_, _, _, _, _, Hb7.out, hxl7, (hxs.keep Ha7.out fun _ _ => id).mono fun k hk => ⟨Nat.le_trans hlw hk.1, Nat.lt_of_lt_of_le hk.2 Ha7.out.size⟩⟩)
            have Hne7 := Lib.hid (show b7 ≠ rb by have := Hx7.out; have := Hcq.out.size; have := Hrb.out; omega)
            have Hch := Lib.hid (show Chg (fun k => k = rb) w7 w9 from hc.trans (Ha7.out.mono fun _ _ h => h.elim))
            have Hr := Lib.hid (hr2.keep Ha7.out)
            have Hk := Lib.hid (Hkq.out.keep Ha7.out)
            replace HB4 := Lib.hid (HB4.out.step Hch.out Hrl.out Hne4.out)
            replace Hc := Lib.hid (Hcq.out.trans (Ha7.out.mono fun _ _ h => h.elim) : Chg (fun k => k = rb) w w9)
            clear hv hxs hr2 hc hlw Hcq Hkq ht1 Hb7 hxl7
            have HB5 := Lib.hid (HB5.out.step Hch.out Hrl.out Hne5.out)
            have HB6 := Lib.hid (HB6.out.step Hch.out Hrl.out Hne6.out)
            have HT := Lib.hid (must_any base Hr.out hl Hk.out hrb 1 kElse)
            clear Hr Hk
            go_upto_region 6 with fail
            rw [Hw7.out, ← Hx7.out]
            go_wp2_with fail
            refine HT.out.mono ?_
            rintro e w10 ⟨hc, h2⟩
            clear HT
            have Hch := Lib.hid hc
            have Hcq := Lib.hid (Hc.out.trans hc)
            cases ht1 : mustF 1 kElse s4 with
            | error z =>
              rw [ht1] at h2 Hdef
              obtain rfl : e = quitF ((src.length - z.1 : Nat) : Int) z.2 := h2
              clear hc
              unfold quitF
              go_wp2_with fail
              refine ⟨rfl, Hcq.out, ?_⟩
              rw [Hdef.out]
              rfl
            | ok s5 =>
              rw [ht1] at h2 Hdef
              simp only at Hdef
              obtain ⟨rfl, hr2⟩ := h2
              have Hr := Lib.hid hr2
              have Hk := Lib.hid (show Kw base w10 from Hkw.out _ Hcq.out)
              replace HB4 := Lib.hid (HB4.out.step Hch.out Hrl.out Hne4.out)
              replace Hc := Lib.hid Hcq.out
              clear hc hr2 Hcq ht1
              have HB5 := Lib.hid (HB5.out.step Hch.out Hrl.out Hne5.out)
              have HB6 := Lib.hid (HB6.out.step Hch.out Hrl.out Hne6.out)
              have HB7 := Lib.hid (HB7.out.step Hch.out Hrl.out Hne7.out)
              have HT := Lib.hid (Ht.out w10 s5 Hr.out Hk.out)
              clear Hr Hk
              go_wp2_with fail
              refine HT.out.mono ?_
              rintro e w11 ⟨hc, h2⟩
              clear HT
              have Hcq := Lib.hid (Hc.out.trans hc)
              have Hkq := Lib.hid (show Kw base w11 from Hkw.out _ Hcq.out)
              cases ht1 : exprW t s5 with
              | error z =>
                rw [ht1] at h2 Hdef
                obtain rfl : e = quitF ((src.length - z.1 : Nat) : Int) z.2 := h2
                clear hc
                unfold quitF
                go_wp2_with fail
                refine ⟨rfl, Hcq.out, ?_⟩
                rw [Hdef.out]
                rfl
              | ok p =>
                obtain ⟨xd, s6⟩ := p
                rw [ht1] at h2 Hdef
                simp only at Hdef
                obtain ⟨hr2, v, rfl, hv⟩ := h2
                obtain ⟨q8, n8, c8, kb8, ko8, rfl, hxl8, hxs⟩ := hv.shape
                have hal_ := (Chg.refl NoB w11).alloc (.cells #[.int .i64 xd.kind, .string (tx xd.s), .slice q8 n8 c8] 26)
                have hb_ := heap_alloc_new w11 (.cells #[.int .i64 xd.kind, .string (tx xd.s), .slice q8 n8 c8] 26)
                obtain ⟨b8, hxb_⟩ : ∃ b, b = w11.heap.size := ⟨_, rfl⟩
                obtain ⟨w12, hw_⟩ : ∃ w_, w11.alloc (.cells #[.int .i64 xd.kind, .string (tx xd.s), .slice q8 n8 c8] 26) = w_ := ⟨_, rfl⟩
                have hz_ : w12.heap.size = b8 + 1 := by rw [← hw_, hxb_]; exact alloc_size _ _
                rw [hw_] at hal_ hb_
                rw [← hxb_] at hb_
                have Hw8 := Lib.hid hw_
                have Hx8 := Lib.hid hxb_
                have Ha8 := Lib.hid hal_
                have Hb8 := Lib.hid hb_
                have Hz8 := Lib.hid hz_
                clear hal_ hb_ hxb_ hw_ hz_
                have hlw : b4 + 1 ≤ w10.heap.size := HB4.out.lt
                have HB8 := Lib.hid (show BoxE w12 (b4 + 1) b8 xd from ⟨_, _, _, _, _, Hb8.out, hxl8, (hxs.keep Ha8.out fun _ _ => id).mono fun k hk => ⟨Nat.le_trans hlw hk.1, Nat.lt_of_lt_of_le hk.2 Ha8.out.size⟩⟩)
                have Hne8 := Lib.hid (show b8 ≠ rb by have := Hx8.out; have := Hcq.out.size; have := Hrb.out; omega)
                have Hch := Lib.hid (show Chg (fun k => k = rb) w10 w12 from hc.trans (Ha8.out.mono fun _ _ h => h.elim))
                have Hr := Lib.hid (hr2.keep Ha8.out)
                have Hk := Lib.hid (Hkq.out.keep Ha8.out)
                replace HB4 := Lib.hid (HB4.out.step Hch.out Hrl.out Hne4.out)
                replace Hc := Lib.hid (Hcq.out.trans (Ha8.out.mono fun _ _ h => h.elim) : Chg (fun k => k = rb) w w12)
                clear hv hxs hr2 hc hlw Hcq Hkq ht1 Hb8 hxl8
                have HB5 := Lib.hid (HB5.out.step Hch.out Hrl.out Hne5.out)
                have HB6 := Lib.hid (HB6.out.step Hch.out Hrl.out Hne6.out)
                have HB7 := Lib.hid (HB7.out.step Hch.out Hrl.out Hne7.out)
                obtain ⟨q4, n4, c4, _, _, h4, -, -⟩ := HB4.out
                obtain ⟨q5, n5, c5, kb5, ko5, h5, y5, z5⟩ := HB5.out
                obtain ⟨q6, n6, c6, kb6, ko6, h6, y6, z6⟩ := HB6.out
                obtain ⟨q7, n7, c7, kb7, ko7, h7, y7, z7⟩ := HB7.out
                obtain ⟨q8, n8, c8, kb8, ko8, h8, y8, z8⟩ := HB8.out
                go_upto_region 8 with fail
                rw [Hw8.out, ← Hx8.out]
                obtain ⟨u50, u51, u52⟩ := var3 h5
                obtain ⟨u60, u61, u62⟩ := var3 h6
                obtain ⟨u70, u71, u72⟩ := var3 h7
                obtain ⟨u80, u81, u82⟩ := var3 h8
                have hal := (Chg.refl NoB w12).alloc (.cells #[.int .i64 xa.kind, .string (tx xa.s), .slice q5 n5 c5, .int .i64 xb.kind, .string (tx xb.s), .slice q6 n6 c6, .int .i64 xc.kind, .string (tx xc.s), .slice q7 n7 c7, .int .i64 xd.kind, .string (tx xd.s), .slice q8 n8 c8] 26)
                have h4' := row_kept hal h4 id
                have fr4 := row_free h4'
                obtain ⟨u40, u41, u42⟩ := var3 h4'
                have hnew := heap_alloc_new w12 (.cells #[.int .i64 xa.kind, .string (tx xa.s), .slice q5 n5 c5, .int .i64 xb.kind, .string (tx xb.s), .slice q6 n6 c6, .int .i64 xc.kind, .string (tx xc.s), .slice q7 n7 c7, .int .i64 xd.kind, .string (tx xd.s), .slice q8 n8 c8] 26)
                have HS := set3x h4'
                have Hal := Lib.hid hal
                have Hnew := Lib.hid hnew
                have Hsz := Lib.hid (show b4 < w12.heap.size from lt_of_block h4)
                have Hz := Lib.hid (And.intro z5 (And.intro z6 (And.intro z7 z8)))
                have Hy := Lib.hid (And.intro y5 (And.intro y6 (And.intro y7 y8)))
                have Hrow := Lib.hid (show ExR w12 (fun k => b4 + 1 ≤ k ∧ k < w12.heap.size) [xa, xb, xc, xd] [.int .i64 xa.kind, .string (tx xa.s), .slice q5 n5 c5, .int .i64 xb.kind, .string (tx xb.s), .slice q6 n6 c6, .int .i64 xc.kind, .string (tx xc.s), .slice q7 n7 c7, .int .i64 xd.kind, .string (tx xd.s), .slice q8 n8 c8] from ⟨⟨rfl, rfl, y5, _, _, z5⟩, ⟨rfl, rfl, y6, _, _, z6⟩, ⟨rfl, rfl, y7, _, _, z7⟩, ⟨rfl, rfl, y8, _, _, z8⟩, trivial⟩)
                clear hal hnew h4 h5 h6 h7 h8 y5 y6 y7 y8 z5 z6 z7 z8
                go_wp2_with fail
                refine bodyPost_ret (results_cellE rfl _ rfl (run_loadVar_row _ _ _ _ _ _ _ (HS _ _ _).1 (Tryd.underlying26) rfl rfl)) rfl ⟨(Hc.out.trans (Hal.out.mono fun _ _ h => h.elim)).wide (HS _ _ _).2 fun k hk e => by have := Hx4.out; omega, ?_⟩
                rw [Hdef.out]
                refine ⟨(Hr.out.keep Hal.out).chg (HS _ _ _).2 fun e => Hne4.out e.symm, _, rfl, (made_lit (s := []) Hrow.out (show 4 ≤ maxLen by decide) Hsz.out (Nat.zero_le _) (Nat.lt_succ_self _) (HS _ _ _).2).mono fun k hk => ⟨by have := Hx4.out; omega, hk.2⟩⟩
set_option maxHeartbeats 8000000 in
set_option maxRecDepth 20000 in
theorem bind_of {t : TermL} {n : Int} {base rb : Nat} {src : List UInt8} (ht : ExprOk (exprW t) n base rb src) (hl : src.length ≤ 8192) (hrb : base ≤ rb) (w : World) (st0 : RdL) (hr : RdM w rb src st0) (hk : Kw base w) : Calls Tryd.prog 90 #[.pointer (some ⟨rb, 0, none⟩), .int .i64 n] w (ExprP rb src (bindF t st0) w) := by
  have Ht := Lib.hid ht
  have Hrb := Lib.hid hr.lt
  have Hkw := Lib.hid (fun w' (h : Chg (fun k => k = rb) w w') => hk.chg h fun k e => by omega)
  have hsl := hr.len
  have hal_ := (Chg.refl NoB w).alloc (.cells #[.int .i64 0, .string ⟨#[]⟩, .slice none 0 0] 26)
  have hb_ := heap_alloc_new w (.cells #[.int .i64 0, .string ⟨#[]⟩, .slice none 0 0] 26)
  obtain ⟨b4, hxb_⟩ : ∃ b, b = w.heap.size := ⟨_, rfl⟩
  obtain ⟨w1, hw_⟩ : ∃ w_, w.alloc (.cells #[.int .i64 0, .string ⟨#[]⟩, .slice none 0 0] 26) = w_ := ⟨_, rfl⟩
  have hz_ : w1.heap.size = b4 + 1 := by rw [← hw_, hxb_]; exact alloc_size _ _
  rw [hw_] at hal_ hb_
  rw [← hxb_] at hb_
  have Hw4 := Lib.hid hw_
  have Hx4 := Lib.hid hxb_
  have Ha4 := Lib.hid hal_
  have Hb4 := Lib.hid hb_
  have Hz4 := Lib.hid hz_
  clear hal_ hb_ hxb_ hw_ hz_
  have Hr := Lib.hid (hr.keep Ha4.out)
  have Hk := Lib.hid (hk.keep Ha4.out)
  have Hc := Lib.hid (Ha4.out.mono fun _ _ h => h.elim : Chg (fun k => k = rb) w w1)
  have Hrl := Lib.hid (show rb < b4 + 1 by have := Hx4.out; have := Hrb.out; omega)
  have HB4 := Lib.hid (show BoxE w1 (b4 + 1) b4 (.mk 0 [] []) from ⟨none, 0, 0, 0, 0, Hb4.out, Nat.zero_le _, ExS.nil _ _⟩)
  have Hne4 := Lib.hid (show b4 ≠ rb by have := Hx4.out; have := Hrb.out; omega)
  have Hdef := Lib.hid (show bindF t st0 = match nameT st0 with
    | .error e => .error e
    | .ok s0 => match mustF 2 [61] s0 with
      | .error e => .error e
      | .ok s1 => match exprW t s1 with
        | .error e => .error e
        | .ok (a, s2) => match mustF 1 kIn s2 with
          | .error e => .error e
          | .ok s3 => match exprW t s3 with
            | .error e => .error e
            | .ok (b, s4) => .ok (.mk 5 st0.s [a, b], s4) by
    unfold bindF exprM
    cases nameT st0 with
    | error e => rfl
    | ok s0 =>
      simp only
      cases mustF 2 [61] s0 with
      | error e => rfl
      | ok s1 =>
        simp only
        cases exprW t s1 with
        | error e => rfl
        | ok p =>
          obtain ⟨b, s2⟩ := p
          simp only
          cases mustF 1 kIn s2 with
          | error e => rfl
          | ok s3 =>
            simp only
            cases exprW t s3 <;> rfl)
  clear ht hr hk
  generalize bindF t st0 = R at *
  go_enter Tryd.func90, Tryd.ntmps90
  go_upto_region 1 with fail
  rw [Hw4.out, ← Hx4.out]
  have HT := Lib.hid (rname_any base Hr.out hl Hk.out hrb)
  clear Hr Hk
  go_wp2_with fail
  refine HT.out.mono ?_
  rintro e w2 ⟨hc, h2⟩
  clear HT
  have Hch := Lib.hid hc
  have Hcq := Lib.hid (Hc.out.trans hc)
  cases ht1 : nameT st0 with
  | error z =>
    rw [ht1] at h2 Hdef
    obtain rfl : e = quitF ((src.length - z.1 : Nat) : Int) z.2 := h2
    clear hc
    unfold quitF
    go_wp2_with fail
    refine ⟨rfl, Hcq.out, ?_⟩
    rw [Hdef.out]
    rfl
  | ok s0 =>
    rw [ht1] at h2 Hdef
    simp only at Hdef
    obtain ⟨rfl, hr2⟩ := h2
    have Hr := Lib.hid hr2
    have Hk := Lib.hid (show Kw base w2 from Hkw.out _ Hcq.out)
    replace HB4 := Lib.hid (HB4.out.step Hch.out Hrl.out Hne4.out)
    replace Hc := Lib.hid Hcq.out
    clear hc hr2 Hcq ht1
    generalize st0.s = nm at *
    have HT := Lib.hid (must_any base Hr.out hl Hk.out hrb 2 [61])
    clear Hr Hk
    go_wp2_with fail
    refine HT.out.mono ?_
    rintro e w3 ⟨hc, h2⟩
    clear HT
    have Hch := Lib.hid hc
    have Hcq := Lib.hid (Hc.out.trans hc)
    cases ht1 : mustF 2 [61] s0 with
    | error z =>
      rw [ht1] at h2 Hdef
      obtain rfl : e = quitF ((src.length - z.1 : Nat) : Int) z.2 := h2
      clear hc
      unfold quitF
      go_wp2_with fail
      refine ⟨rfl, Hcq.out, ?_⟩
      rw [Hdef.out]
      rfl
    | ok s1 =>
      rw [ht1] at h2 Hdef
      simp only at Hdef
      obtain ⟨rfl, hr2⟩ := h2
      have Hr := Lib.hid hr2
      have Hk := Lib.hid (show Kw base w3 from Hkw.out _ Hcq.out)
      replace HB4 := Lib.hid (HB4.out.step Hch.out Hrl.out Hne4.out)
      replace Hc := Lib.hid Hcq.out
      clear hc hr2 Hcq ht1
      have HT := Lib.hid (Ht.out w3 s1 Hr.out Hk.out)
      clear Hr Hk
      go_wp2_with fail
      refine HT.out.mono ?_
      rintro e w5 ⟨hc, h2⟩
      clear HT
      have Hcq := Lib.hid (Hc.out.trans hc)
      have Hkq := Lib.hid (show Kw base w5 from Hkw.out _ Hcq.out)
      cases ht1 : exprW t s1 with
      | error z =>
        rw [ht1] at h2 Hdef
        obtain rfl : e = quitF ((src.length - z.1 : Nat) : Int) z.2 := h2
        clear hc
        unfold quitF
        go_wp2_with fail
        refine ⟨rfl, Hcq.out, ?_⟩
        rw [Hdef.out]
        rfl
      | ok p =>
        obtain ⟨xb, s2⟩ := p
        rw [ht1] at h2 Hdef
        simp only at Hdef
        obtain ⟨hr2, v, rfl, hv⟩ := h2
        obtain ⟨q6, n6, c6, kb6, ko6, rfl, hxl6, hxs⟩ := hv.shape
        have hal_ := (Chg.refl NoB w5).alloc (.cells #[.int .i64 xb.kind, .string (tx xb.s), .slice q6 n6 c6] 26)
        have hb_ := heap_alloc_new w5 (.cells #[.int .i64 xb.kind, .string (tx xb.s), .slice q6 n6 c6] 26)
        obtain ⟨b6, hxb_⟩ : ∃ b, b = w5.heap.size := ⟨_, rfl⟩
        obtain ⟨w6, hw_⟩ : ∃ w_, w5.alloc (.cells #[.int .i64 xb.kind, .string (tx xb.s), .slice q6 n6 c6] 26) = w_ := ⟨_, rfl⟩
        have hz_ : w6.heap.size = b6 + 1 := by rw [← hw_, hxb_]; exact alloc_size _ _
        rw [hw_] at hal_ hb_
        rw [← hxb_] at hb_
        have Hw6 := Lib.hid hw_
        have Hx6 := Lib.hid hxb_
        have Ha6 := Lib.hid hal_
        have Hb6 := Lib.hid hb_
        have Hz6 := Lib.hid hz_
        clear hal_ hb_ hxb_ hw_ hz_
        have hlw : b4 + 1 ≤ w3.heap.size := HB4.out.lt
        have HB6 := Lib.hid (show BoxE w6 (b4 + 1) b6 xb from ⟨_, _, _, _, _, Hb6.out, hxl6, (hxs.keep Ha6.out fun _ _ => id).mono fun k hk => ⟨Nat.le_trans hlw hk.1, Nat.lt_of_lt_of_le hk.2 Ha6.out.size⟩⟩)
        have Hne6 := Lib.hid (show b6 ≠ rb by have := Hx6.out; have := Hcq.out.size; have := Hrb.out; omega)
        have Hch := Lib.hid (show Chg (fun k => k = rb) w3 w6 from hc.trans (Ha6.out.mono fun _ _ h => h.elim))
        have Hr := Lib.hid (hr2.keep Ha6.out)
        have Hk := Lib.hid (Hkq.out.keep Ha6.out)
        replace HB4 := Lib.hid (HB4.out.step Hch.out Hrl.out Hne4.out)
        replace Hc := Lib.hid (Hcq.out.trans (Ha6.out.mono fun _ _ h => h.elim) : Chg (fun k => k = rb) w w6)
        clear hv hxs hr2 hc hlw Hcq Hkq ht1 Hb6 hxl6
        have HT := Lib.hid (must_any base Hr.out hl Hk.out hrb 1 kIn)
        clear Hr Hk
        go_upto_region 4 with fail
        rw [Hw6.out, ← Hx6.out]
        go_wp2_with fail
        refine HT.out.mono ?_
        rintro e w7 ⟨hc, h2⟩
        clear HT
        have Hch := Lib.hid hc
        have Hcq := Lib.hid (Hc.out.trans hc)
        cases ht1 : mustF 1 kIn s2 with
        | error z =>
          rw [ht1] at h2 Hdef
          obtain rfl : e = quitF ((src.length - z.1 : Nat) : Int) z.2 := h2
          clear hc
          unfold quitF
          go_wp2_with fail
          refine ⟨rfl, Hcq.out, ?_⟩
          rw [Hdef.out]
          rfl
        | ok s3 =>
          rw [ht1] at h2 Hdef
          simp only at Hdef
          obtain ⟨rfl, hr2⟩ := h2
          have Hr := Lib.hid hr2
          have Hk := Lib.hid (show Kw base w7 from Hkw.out _ Hcq.out)
          replace HB4 := Lib.hid (HB4.out.step Hch.out Hrl.out Hne4.out)
          replace Hc := Lib.hid Hcq.out
          clear hc hr2 Hcq ht1
          have HB6 := Lib.hid (HB6.out.step Hch.out Hrl.out Hne6.out)
          have HT := Lib.hid (Ht.out w7 s3 Hr.out Hk.out)
          clear Hr Hk
          go_wp2_with fail
          refine HT.out.mono ?_
          rintro e w8 ⟨hc, h2⟩
          clear HT
          have Hcq := Lib.hid (Hc.out.trans hc)
          have Hkq := Lib.hid (show Kw base w8 from Hkw.out _ Hcq.out)
          cases ht1 : exprW t s3 with
          | error z =>
            rw [ht1] at h2 Hdef
            obtain rfl : e = quitF ((src.length - z.1 : Nat) : Int) z.2 := h2
            clear hc
            unfold quitF
            go_wp2_with fail
            refine ⟨rfl, Hcq.out, ?_⟩
            rw [Hdef.out]
            rfl
          | ok p =>
            obtain ⟨xc, s4⟩ := p
            rw [ht1] at h2 Hdef
            simp only at Hdef
            obtain ⟨hr2, v, rfl, hv⟩ := h2
            obtain ⟨q7, n7, c7, kb7, ko7, rfl, hxl7, hxs⟩ := hv.shape
            have hal_ := (Chg.refl NoB w8).alloc (.cells #[.int .i64 xc.kind, .string (tx xc.s), .slice q7 n7 c7] 26)
            have hb_ := heap_alloc_new w8 (.cells #[.int .i64 xc.kind, .string (tx xc.s), .slice q7 n7 c7] 26)
            obtain ⟨b7, hxb_⟩ : ∃ b, b = w8.heap.size := ⟨_, rfl⟩
            obtain ⟨w12, hw_⟩ : ∃ w_, w8.alloc (.cells #[.int .i64 xc.kind, .string (tx xc.s), .slice q7 n7 c7] 26) = w_ := ⟨_, rfl⟩
            have hz_ : w12.heap.size = b7 + 1 := by rw [← hw_, hxb_]; exact alloc_size _ _
            rw [hw_] at hal_ hb_
            rw [← hxb_] at hb_
            have Hw7 := Lib.hid hw_
            have Hx7 := Lib.hid hxb_
            have Ha7 := Lib.hid hal_
            have Hb7 := Lib.hid hb_
            have Hz7 := Lib.hid hz_
            clear hal_ hb_ hxb_ hw_ hz_
            have hlw : b4 + 1 ≤ w7.heap.size := HB4.out.lt
            have HB7 := Lib.hid (show BoxE w12 (b4 + 1) b7 xc from ⟨_, _, _, _, _, Hb7.out, hxl7, (hxs.keep Ha7.out fun _ _ => id).mono fun k hk => ⟨Nat.le_trans hlw hk.1, Nat.lt_of_lt_of_le hk.2 Ha7.out.size⟩⟩)
            have Hne7 := Lib.hid (show b7 ≠ rb by have := Hx7.out; have := Hcq.out.size; have := Hrb.out; omega)
            have Hch := Lib.hid (show Chg (fun k => k = rb) w7 w12 from hc.trans (Ha7.out.mono fun _ _ h => h.elim))
            have Hr := Lib.hid (hr2.keep Ha7.out)
            have Hk := Lib.hid (Hkq.out.keep Ha7.out)
            replace HB4 := Lib.hid (HB4.out.step Hch.out Hrl.out Hne4.out)
            replace Hc := Lib.hid (Hcq.out.trans (Ha7.out.mono fun _ _ h => h.elim) : Chg (fun k => k = rb) w w12)
            clear hv hxs hr2 hc hlw Hcq Hkq ht1 Hb7 hxl7
            have HB6 := Lib.hid (HB6.out.step Hch.out Hrl.out Hne6.out)
            obtain ⟨q4, n4, c4, _, _, h4, -, -⟩ := HB4.out
            obtain ⟨q6, n6, c6, kb6, ko6, h6, y6, z6⟩ := HB6.out
            obtain ⟨q7, n7, c7, kb7, ko7, h7, y7, z7⟩ := HB7.out
            go_upto_region 6 with fail
            rw [Hw7.out, ← Hx7.out]
            obtain ⟨u60, u61, u62⟩ := var3 h6
            obtain ⟨u70, u71, u72⟩ := var3 h7
            have hal := (Chg.refl NoB w12).alloc (.cells #[.int .i64 xb.kind, .string (tx xb.s), .slice q6 n6 c6, .int .i64 xc.kind, .string (tx xc.s), .slice q7 n7 c7] 26)
            have h4' := row_kept hal h4 id
            have fr4 := row_free h4'
            obtain ⟨u40, u41, u42⟩ := var3 h4'
            have HS := set3x h4'
            have Hal := Lib.hid hal
            have Hsz := Lib.hid (show b4 < w12.heap.size from lt_of_block h4)
            have Hrow := Lib.hid (show ExR w12 (fun k => b4 + 1 ≤ k ∧ k < w12.heap.size) [xb, xc] [.int .i64 xb.kind, .string (tx xb.s), .slice q6 n6 c6, .int .i64 xc.kind, .string (tx xc.s), .slice q7 n7 c7] from ⟨⟨rfl, rfl, y6, _, _, z6⟩, ⟨rfl, rfl, y7, _, _, z7⟩, trivial⟩)
            clear hal h4 h6 h7 y6 y7 z6 z7
            go_wp2_with fail
            refine bodyPost_ret (results_cellE rfl _ rfl (run_loadVar_row _ _ _ _ _ _ _ (HS _ _ _).1 (Tryd.underlying26) rfl rfl)) rfl ⟨(Hc.out.trans (Hal.out.mono fun _ _ h => h.elim)).wide (HS _ _ _).2 fun k hk e => by have := Hx4.out; omega, ?_⟩
            rw [Hdef.out]
            refine ⟨(Hr.out.keep Hal.out).chg (HS _ _ _).2 fun e => Hne4.out e.symm, _, rfl, (made_lit (s := nm) Hrow.out (show 2 ≤ maxLen by decide) Hsz.out (by unfold maxLen; omega) (Nat.lt_succ_self _) (HS _ _ _).2).mono fun k hk => ⟨by have := Hx4.out; omega, hk.2⟩⟩
end Go.Proofs.YtdgcpgbknfojhaaDoor
