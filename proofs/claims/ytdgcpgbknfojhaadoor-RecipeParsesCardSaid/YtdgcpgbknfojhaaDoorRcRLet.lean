/- The contract of the document's let, given expr's. Condition: the text is not too long. -/
import Derived.Test.YtdgcpgbknfojhaaDoorRcRExpr
import Derived.Test.YtdgcpgbknfojhaaDoorRcTerm
import Derived.Test.YtdgcpgbknfojhaaDoorRcRName


/- an expression is read: W the world, O the state; the new world, the box's, the box, its slot, the expression, the reading -/
namespace Go.Proofs.YtdgcpgbknfojhaaDoor
set_option linter.unusedVariables false
open Go.ChangeShapes Go.WideShapes Go.ChangeAt Go.RowKit
def nameS : StL → StL
  | .ok st => if st.kind = 1 ∧ nameN st.s = true then .ok st else .error (st.rem, 50)
  | .error z => .error z
theorem let_eq {t : TermL} {o : StL} {s0 : List UInt8} (xa xb : ExL) (h0 : ∀ st, o = .ok st → s0 = st.s) (hA : ∀ y s, runO (exprW t) (wantS [61] (stepS (nameS o))) = .ok (y, s) → xa = y)
    (hT : ∀ s, stO (runO (exprW t) (wantS [61] (stepS (nameS o)))) = .ok s → TokOk s)
    (hB : ∀ y s, runO (exprW t) (wantS kIn (stO (runO (exprW t) (wantS [61] (stepS (nameS o)))))) = .ok (y, s) → xb = y) :
    stO (runO (bindF t) o) = stO (runO (exprW t) (wantS kIn (stO (runO (exprW t) (wantS [61] (stepS (nameS o))))))) ∧ ∀ y s, runO (bindF t) o = .ok (y, s) → ExL.mk 5 s0 [xa, xb] = y := by
  cases o with
  | error z => exact ⟨rfl, fun y s e => by cases e⟩
  | ok st =>
    have e0 := h0 st rfl
    subst e0
    have e1 : runO (bindF t) (.ok st) = bindF t st := rfl
    rw [e1]
    unfold bindF nameT
    by_cases hn : st.kind = 1 ∧ nameN st.s = true
    · have e2 : nameS (.ok st) = .ok st := by unfold nameS; simp only; rw [if_pos hn]
      rw [e2] at hA hT hB ⊢
      rw [if_neg (fun h => h hn)]
      have e3 : stepS (.ok st) = takeF st.rest := rfl
      rw [e3] at hA hT hB ⊢
      cases h1 : takeF st.rest with
      | error z => exact ⟨rfl, fun y s e => by cases e⟩
      | ok s1 =>
        rw [h1] at hA hT hB
        rw [want_sign (take_ok h1).1 (by decide)] at hA hT hB ⊢
        simp only
        cases h2 : mustF 2 [61] s1 with
        | error z => exact ⟨rfl, fun y s e => by cases e⟩
        | ok s2 =>
          rw [h2] at hA hT hB
          have e4 : runO (exprW t) (.ok s2) = exprW t s2 := rfl
          rw [e4] at hA hT hB ⊢
          unfold exprM
          dsimp only
          cases h3 : exprW t s2 with
          | error z => exact ⟨rfl, fun y s e => by cases e⟩
          | ok p =>
            obtain ⟨a, s3⟩ := p
            rw [h3] at hA hT hB
            dsimp only
            have e5 := hA a s3 rfl
            subst e5
            have e6 : stO (.ok (xa, s3)) = .ok s3 := rfl
            rw [e6] at hT hB ⊢
            rw [want_word (hT s3 rfl) (by decide)] at hB ⊢
            cases h4 : mustF 1 kIn s3 with
            | error z => exact ⟨rfl, fun y s e => by cases e⟩
            | ok s4 =>
              rw [h4] at hB
              have e7 : runO (exprW t) (.ok s4) = exprW t s4 := rfl
              rw [e7] at hB ⊢
              dsimp only
              cases h5 : exprW t s4 with
              | error z => exact ⟨rfl, fun y s e => by cases e⟩
              | ok p =>
                obtain ⟨b, s5⟩ := p
                have e8 := hB b s5 h5
                subst e8
                exact ⟨rfl, fun y s e => by cases e; rfl⟩
    · have e2 : nameS (.ok st) = .error (st.rem, 50) := by unfold nameS; simp only; rw [if_neg hn]
      rw [e2, if_pos hn]
      exact ⟨rfl, fun y s e => by cases e⟩
theorem made_lit2 {w W : World} {S : Nat → Prop} {lo : Nat} {xs : List ExL} {vs : List Value} {K : Int} {s : List UInt8} (hrow : ExR w (fun k => lo ≤ k ∧ k < w.heap.size) xs vs) (hm : xs.length ≤ maxLen) (hlo : lo ≤ w.heap.size) (hs : s.length ≤ maxLen) (hS : ∀ k, S k → k < lo) (hW : Chg S (w.alloc (.cells vs.toArray 26)) W) :
    ExV W (fun k => lo ≤ k ∧ k < W.heap.size) (.agg #[.int .i64 K, .string (tx s), .slice (some ⟨w.heap.size, 0, none⟩) xs.length xs.length]) (.mk K s xs) := by
  have hal := (Chg.refl NoB w).alloc (.cells vs.toArray 26)
  have hz := alloc_size w (.cells vs.toArray 26)
  have h1 := hrow.keep (S' := fun k => lo ≤ k ∧ k < (w.alloc (.cells vs.toArray 26)).heap.size) hal (fun _ _ => id) fun k hk => ⟨hk.1, by rw [hz]; omega⟩
  have h2 := h1.lit (b := w.heap.size) (heap_alloc_new w _) ⟨hlo, by rw [hz]; omega⟩ hm
  exact ⟨hs, _, _, _, rfl, (h2.keep hW fun k hk e => by have := hS k e; omega).mono fun k hk => ⟨hk.1, Nat.lt_of_lt_of_le hk.2 hW.size⟩⟩
/- from the condition on: W the world, O the state -/
/- the fault is told -/
set_option maxHeartbeats 8000000 in
set_option maxRecDepth 20000 in
theorem rlet_of {t : TermL} {n : Int} {rb : Nat} {src : List UInt8} (ht : RExprOk (exprW t) (n + 1) rb src) (hl : src.length ≤ 8192) (hn : IntKind.i64.wrap (n + 1) = n + 1) (w : World) (o : StL) (hr : RuM w rb src o) : Calls Tryd.prog 73 #[.pointer (some ⟨rb, 0, none⟩), .int .i64 n] w (RExP rb src (runO (bindF t) o) w) := by
  have Ht := Lib.hid ht
  have hbw : rb < w.heap.size := hr.lt
  have hal_ := (Chg.refl NoB w).alloc (.cells #[.int .i64 0, .string ⟨#[]⟩, .slice none 0 0] 26)
  have hb_ := heap_alloc_new w (.cells #[.int .i64 0, .string ⟨#[]⟩, .slice none 0 0] 26)
  obtain ⟨b4, hxb_⟩ : ∃ b, b = w.heap.size := ⟨_, rfl⟩
  obtain ⟨w1, hw_⟩ : ∃ w_, w.alloc (.cells #[.int .i64 0, .string ⟨#[]⟩, .slice none 0 0] 26) = w_ := ⟨_, rfl⟩
  have hz_ : w1.heap.size = b4 + 1 := by rw [← hw_, hxb_]; exact alloc_size _ _
  rw [hw_] at hal_ hb_
  rw [← hxb_] at hb_
  have Hw4 := Lib.hid hw_
  have Hx4 := Lib.hid hxb_
  have Ha4 := Lib.hid hal_
  have Hb4 := Lib.hid hb_
  have Hz4 := Lib.hid hz_
  clear hal_ hb_ hxb_ hw_ hz_
  have hr1 := hr.keep Ha4.out
  obtain ⟨k, s0, a, b, y, p, h1, h2, h3⟩ := hr1
  have hal_ := (Chg.refl NoB w1).alloc (.cells #[.int .i64 5, .string (tx s0), .slice none 0 0] 26)
  have hb_ := heap_alloc_new w1 (.cells #[.int .i64 5, .string (tx s0), .slice none 0 0] 26)
  obtain ⟨b5, hxb_⟩ : ∃ b, b = w1.heap.size := ⟨_, rfl⟩
  obtain ⟨w2, hw_⟩ : ∃ w_, w1.alloc (.cells #[.int .i64 5, .string (tx s0), .slice none 0 0] 26) = w_ := ⟨_, rfl⟩
  have hz_ : w2.heap.size = b5 + 1 := by rw [← hw_, hxb_]; exact alloc_size _ _
  rw [hw_] at hal_ hb_
  rw [← hxb_] at hb_
  have Hw5 := Lib.hid hw_
  have Hx5 := Lib.hid hxb_
  have Ha5 := Lib.hid hal_
  have Hb5 := Lib.hid hb_
  have Hz5 := Lib.hid hz_
  clear hal_ hb_ hxb_ hw_ hz_
  have h12 := row_kept Ha5.out h1 id
  have Hr := Lib.hid (show RuM w2 rb src o from ⟨k, s0, a, b, y, p, h12, h2, h3⟩)
  have Hc := Lib.hid ((Ha4.out.trans Ha5.out).mono fun _ _ h => h.elim : Chg (fun k => k = rb) w w2)
  obtain ⟨lo, hlo⟩ : ∃ lo, lo = w2.heap.size := ⟨_, rfl⟩
  have Hlw := Lib.hid (show lo ≤ w2.heap.size by omega)
  have Hn5 := Lib.hid (show b4 = w.heap.size ∧ b5 = b4 + 1 ∧ lo = b5 + 1 from ⟨Hx4.out, by rw [Hx5.out, Hz4.out], by rw [hlo, Hz5.out]⟩)
  have Hrl := Lib.hid (show rb < lo by have := Hn5.out; omega)
  have Hne4 := Lib.hid (show b4 ≠ rb by have := Hn5.out; omega)
  have Hne5 := Lib.hid (show b5 ≠ rb by have := Hn5.out; omega)
  have Hn45 := Lib.hid (show b4 ≠ b5 by have := Hn5.out; omega)
  have H4 := Lib.hid (row_kept Ha5.out Hb4.out id)
  have H5 := Lib.hid Hb5.out
  have Heq := Lib.hid (fun xa xb => let_eq (t := t) (o := o) (s0 := s0) xa xb fun st e => by subst e; exact h3.2.1)
  have HNm := Lib.hid (fun W => rnam_any s0 W (by omega))
  have Hfail := Lib.hid (show ¬ (k = 1 ∧ nameN s0 = true) → ∀ W, Chg NoB w2 W → Calls Tryd.prog 33 #[.pointer (some ⟨rb, 0, none⟩), .int .i64 (a : Int), .int .i64 50] W (RunP rb src (nameS o) W) from by
      intro hb W hW
      have hr2 : RuM W rb src o := ⟨k, s0, a, b, y, p, row_kept hW h12 id, h2, h3⟩
      cases o with
      | ok st =>
        obtain ⟨rfl, rfl, ha, -⟩ := h3
        have e : nameS (.ok st) = failS st.rem 50 (.ok st) := by unfold nameS failS; simp only; rw [if_neg hb]
        rw [e]
        exact rfail_any hr2 a st.rem ha 50 (by decide)
      | error z => exact rfail_err hr2 a 50)
  have Hgood := Lib.hid (show k = 1 ∧ nameN s0 = true → nameS o = o from fun hb => by
    cases o with
    | ok st =>
      obtain ⟨rfl, rfl, -⟩ := h3
      unfold nameS; simp only; rw [if_pos hb]
    | error z => rfl)
  obtain ⟨c0, c1, c2, c3, c4, c5, c6⟩ := cell7 h12
  obtain ⟨d0, d1, d2, d3, d4, d5, d6⟩ := cell7 h1
  clear ht hr hlo h1 h12 h3
  generalize runO (bindF t) o = R at *
  go_enter Tryd.func73, Tryd.ntmps73
  go_upto_region 1 with fail
  rw [Hw4.out, ← Hx4.out]
  go_upto_region 2 with fail
  rw [Hw5.out, ← Hx5.out]
  clear d0 d1 d2 d3 d4 d5 d6
  by_cases hk1 : k = 1
  · have hkb : ((k : Int) != 1) = false := by simp [hk1]
    cases hnm : nameN s0 with
    | true =>
      rw [hnm] at HNm
      rw [Hgood.out ⟨hk1, hnm⟩] at Heq
      clear Hfail Hgood hk1 hnm
      go_wp2_with fail
      refine (HNm.out _).mono ?_
      rintro e w3 ⟨rfl, hc3⟩
      replace Hr := Lib.hid (Hr.out.keep hc3)
      replace Hlw := Lib.hid (Nat.le_trans Hlw.out hc3.size)
      replace Hc := Lib.hid (Hc.out.trans (hc3.mono fun _ _ h => h.elim))
      replace H5 := Lib.hid (row_kept hc3 H5.out id)
      replace H4 := Lib.hid (row_kept hc3 H4.out id)
      clear hc3 HNm c0 c1 c2 c3 c4 c5 c6
      have HT := Lib.hid (rstep_any Hr.out hl)
      clear Hr
      go_wp2_with fail
      refine HT.out.mono ?_
      rintro e w5 ⟨hc, rfl, hr2⟩
      clear HT
      have Hch := Lib.hid hc
      have Hr := Lib.hid hr2
      replace Hlw := Lib.hid (Nat.le_trans Hlw.out hc.size)
      replace Hc := Lib.hid (Hc.out.trans hc)
      replace H5 := Lib.hid (row_kept hc H5.out Hne5.out)
      replace H4 := Lib.hid (row_kept hc H4.out Hne4.out)
      clear hc hr2
      have HT := Lib.hid (rwant_any Hr.out hl [61])
      clear Hr
      go_wp2_with fail
      refine HT.out.mono ?_
      rintro e w6 ⟨hc, rfl, hr2⟩
      clear HT
      have Hr := Lib.hid hr2
      replace Hlw := Lib.hid (Nat.le_trans Hlw.out hc.size)
      replace Hc := Lib.hid (Hc.out.trans hc)
      replace H5 := Lib.hid (row_kept hc H5.out Hne5.out)
      replace H4 := Lib.hid (row_kept hc H4.out Hne4.out)
      clear hc hr2
      have HT := Lib.hid (Ht.out w6 (wantS [61] (stepS o)) Hr.out)
      clear Hr
      go_wp2_with fail
      refine HT.out.mono ?_
      rintro e w7 ⟨hc, hr2, v, xa, rfl, hv, hx⟩
      clear HT
      obtain ⟨q6, n6, c6, kb6, ko6, rfl, hxl6, hxs⟩ := hv.shape
      have hal_ := (Chg.refl NoB w7).alloc (.cells #[.int .i64 xa.kind, .string (tx xa.s), .slice q6 n6 c6] 26)
      have hb_ := heap_alloc_new w7 (.cells #[.int .i64 xa.kind, .string (tx xa.s), .slice q6 n6 c6] 26)
      obtain ⟨b6, hxb_⟩ : ∃ b, b = w7.heap.size := ⟨_, rfl⟩
      obtain ⟨w8, hw_⟩ : ∃ w_, w7.alloc (.cells #[.int .i64 xa.kind, .string (tx xa.s), .slice q6 n6 c6] 26) = w_ := ⟨_, rfl⟩
      have hz_ : w8.heap.size = b6 + 1 := by rw [← hw_, hxb_]; exact alloc_size _ _
      rw [hw_] at hal_ hb_
      rw [← hxb_] at hb_
      have Hw6 := Lib.hid hw_
      have Hx6 := Lib.hid hxb_
      have Ha6 := Lib.hid hal_
      have Hb6 := Lib.hid hb_
      have Hz6 := Lib.hid hz_
      clear hal_ hb_ hxb_ hw_ hz_
      have hlw : lo ≤ w6.heap.size := Hlw.out
      have HB6 := Lib.hid (show BoxE w8 lo b6 xa from ⟨_, _, _, _, _, Hb6.out, hxl6, (hxs.keep Ha6.out fun _ _ => id).mono fun k hk => ⟨Nat.le_trans hlw hk.1, Nat.lt_of_lt_of_le hk.2 Ha6.out.size⟩⟩)
      have Hne6 := Lib.hid (show b6 ≠ rb by have := Hx6.out; have := hc.size; have := Hrl.out; omega)
      have Hch := Lib.hid (show Chg (fun k => k = rb) w6 w8 from hc.trans (Ha6.out.mono fun _ _ h => h.elim))
      have Hr := Lib.hid (hr2.keep Ha6.out)
      have HV6 := Lib.hid hx
      replace Hlw := Lib.hid (Nat.le_trans hlw Hch.out.size)
      replace Hc := Lib.hid (Hc.out.trans Hch.out)
      clear hv hxs hr2 hc hlw hx Hb6 hxl6
      replace H5 := Lib.hid (row_kept Hch.out H5.out Hne5.out)
      replace H4 := Lib.hid (row_kept Hch.out H4.out Hne4.out)
      have HTa := Lib.hid (fun s (e : stO (runO (exprW t) (wantS [61] (stepS o))) = .ok s) => (show RuM w8 rb src (.ok s) by rw [← e]; exact Hr.out).tok)
      have HT := Lib.hid (rwant_any Hr.out hl kIn)
      clear Hr
      go_upto_region 7 with fail
      rw [Hw6.out, ← Hx6.out]
      go_wp2_with fail
      refine HT.out.mono ?_
      rintro e w9 ⟨hc, rfl, hr2⟩
      clear HT
      have Hr := Lib.hid hr2
      replace HB6 := Lib.hid (HB6.out.step hc Hrl.out Hne6.out)
      replace Hlw := Lib.hid (Nat.le_trans Hlw.out hc.size)
      replace Hc := Lib.hid (Hc.out.trans hc)
      replace H5 := Lib.hid (row_kept hc H5.out Hne5.out)
      replace H4 := Lib.hid (row_kept hc H4.out Hne4.out)
      clear hc hr2
      have HT := Lib.hid (Ht.out w9 (wantS kIn (stO (runO (exprW t) (wantS [61] (stepS o))))) Hr.out)
      clear Hr
      go_wp2_with fail
      refine HT.out.mono ?_
      rintro e w10 ⟨hc, hr2, v, xb, rfl, hv, hx⟩
      clear HT
      obtain ⟨q7, n7, c7, kb7, ko7, rfl, hxl7, hxs⟩ := hv.shape
      have hal_ := (Chg.refl NoB w10).alloc (.cells #[.int .i64 xb.kind, .string (tx xb.s), .slice q7 n7 c7] 26)
      have hb_ := heap_alloc_new w10 (.cells #[.int .i64 xb.kind, .string (tx xb.s), .slice q7 n7 c7] 26)
      obtain ⟨b7, hxb_⟩ : ∃ b, b = w10.heap.size := ⟨_, rfl⟩
      obtain ⟨w11, hw_⟩ : ∃ w_, w10.alloc (.cells #[.int .i64 xb.kind, .string (tx xb.s), .slice q7 n7 c7] 26) = w_ := ⟨_, rfl⟩
      have hz_ : w11.heap.size = b7 + 1 := by rw [← hw_, hxb_]; exact alloc_size _ _
      rw [hw_] at hal_ hb_
      rw [← hxb_] at hb_
      have Hw7 := Lib.hid hw_
      have Hx7 := Lib.hid hxb_
      have Ha7 := Lib.hid hal_
      have Hb7 := Lib.hid hb_
      have Hz7 := Lib.hid hz_
      clear hal_ hb_ hxb_ hw_ hz_
      have hlw : lo ≤ w9.heap.size := Hlw.out
      have HB7 := Lib.hid (show BoxE w11 lo b7 xb from ⟨_, _, _, _, _, Hb7.out, hxl7, (hxs.keep Ha7.out fun _ _ => id).mono fun k hk => ⟨Nat.le_trans hlw hk.1, Nat.lt_of_lt_of_le hk.2 Ha7.out.size⟩⟩)
      have Hne7 := Lib.hid (show b7 ≠ rb by have := Hx7.out; have := hc.size; have := Hrl.out; omega)
      have Hch := Lib.hid (show Chg (fun k => k = rb) w9 w11 from hc.trans (Ha7.out.mono fun _ _ h => h.elim))
      have Hr := Lib.hid (hr2.keep Ha7.out)
      have HV7 := Lib.hid hx
      replace Hlw := Lib.hid (Nat.le_trans hlw Hch.out.size)
      replace Hc := Lib.hid (Hc.out.trans Hch.out)
      clear hv hxs hr2 hc hlw hx Hb7 hxl7
      replace HB6 := Lib.hid (HB6.out.step Hch.out Hrl.out Hne6.out)
      replace H5 := Lib.hid (row_kept Hch.out H5.out Hne5.out)
      replace H4 := Lib.hid (row_kept Hch.out H4.out Hne4.out)
      have HQ := Lib.hid (Heq.out xa xb HV6.out HTa.out HV7.out)
      clear Heq HV6 HV7 HTa
      obtain ⟨q6, n6, c6, kb6, ko6, h6, y6, z6⟩ := HB6.out
      obtain ⟨q7, n7, c7, kb7, ko7, h7, y7, z7⟩ := HB7.out
      go_upto_region 9 with fail
      rw [Hw7.out, ← Hx7.out]
      obtain ⟨u60, u61, u62⟩ := var3 h6
      obtain ⟨u70, u71, u72⟩ := var3 h7
      have hal := (Chg.refl NoB w11).alloc (.cells #[.int .i64 xa.kind, .string (tx xa.s), .slice q6 n6 c6, .int .i64 xb.kind, .string (tx xb.s), .slice q7 n7 c7] 26)
      have h5' := row_kept hal H5.out id
      have h4' := row_kept hal H4.out id
      have f5 := row_free h5'
      have f4 := row_free h4'
      obtain ⟨u50, u51, u52⟩ := var3 h5'
      obtain ⟨u40, u41, u42⟩ := var3 h4'
      have n45 : ¬ b4 = b5 := Hn45.out
      have n54 : ¬ b5 = b4 := fun e => Hn45.out e.symm
      have hs5 := heap_set h5' (i := 2) (.slice (some ⟨w11.heap.size, 0, none⟩) 2 2)
      have hc5 := (Chg.refl (fun k => k = b5) (w11.alloc (.cells #[.int .i64 xa.kind, .string (tx xa.s), .slice q6 n6 c6, .int .i64 xb.kind, .string (tx xb.s), .slice q7 n7 c7] 26))).setCell (p := ⟨b5, 2, none⟩) (.inl rfl) (.slice (some ⟨w11.heap.size, 0, none⟩) 2 2)
      have h4'' := row_kept hc5 h4' n45
      obtain ⟨t50, t51, t52⟩ := var3 hs5
      obtain ⟨t40, t41, t42⟩ := var3 h4''
      have f4' := row_free h4''
      have HS := set3x h4''
      have Hc5 := Lib.hid hc5
      have Hal := Lib.hid hal
      have Hsz := Lib.hid (show b4 < w11.heap.size from lt_of_block H4.out)
      have Hrow := Lib.hid (show ExR w11 (fun k => lo ≤ k ∧ k < w11.heap.size) [xa, xb] [.int .i64 xa.kind, .string (tx xa.s), .slice q6 n6 c6, .int .i64 xb.kind, .string (tx xb.s), .slice q7 n7 c7] from ⟨⟨rfl, rfl, y6, _, _, z6⟩, ⟨rfl, rfl, y7, _, _, z7⟩, trivial⟩)
      clear hal h5' h4' h6 h7 y6 y7 z6 z7 hs5 hc5 h4'' H5 H4
      go_wp2_with fail
      have hcw := (Hc5.out.mono (T := fun k => k = b5 ∨ k = b4) fun _ _ e => .inl e).trans ((HS (.int .i64 5) (.string (tx s0)) (.slice (some ⟨w11.heap.size, 0, none⟩) 2 2)).2.mono fun _ _ e => .inr e)
      refine bodyPost_ret (results_cellE rfl _ rfl (run_loadVar_row _ _ _ _ _ _ _ (HS _ _ _).1 (Tryd.underlying26) rfl rfl)) rfl ⟨(Hc.out.trans (Hal.out.mono fun _ _ h => h.elim)).wide hcw fun k hk e => by have := Hx4.out; have := Hn5.out; omega, ?_⟩
      rw [HQ.out.1]
      refine ⟨(Hr.out.keep Hal.out).chg hcw fun e => by have := Hne4.out; have := Hne5.out; omega, _, _, rfl, (made_lit2 (s := s0) Hrow.out (show 2 ≤ maxLen by decide) Hlw.out (by unfold maxLen; omega) (fun k e => by have := Hn5.out; omega) hcw).mono fun k hk => ⟨by have := Hn5.out; omega, hk.2⟩, HQ.out.2⟩
    | false =>
      rw [hnm] at HNm
      have HF0 := Lib.hid (Hfail.out fun h => by rw [hnm] at h; cases h.2)
      clear Hfail Hgood hk1 hnm
      go_wp2_with fail
      refine (HNm.out _).mono ?_
      rintro e w3 ⟨rfl, hc3⟩
      have HF := Lib.hid (HF0.out w3 hc3)
      replace Hlw := Lib.hid (Nat.le_trans Hlw.out hc3.size)
      replace Hc := Lib.hid (Hc.out.trans (hc3.mono fun _ _ h => h.elim))
      replace H5 := Lib.hid (row_kept hc3 H5.out id)
      replace H4 := Lib.hid (row_kept hc3 H4.out id)
      have d3 := hc3.keep c3
      clear hc3 HNm c0 c1 c2 c3 c4 c5 c6 Hr HF0
      go_wp2_with fail
      refine HF.out.mono ?_
      rintro e w4 ⟨hc4, rfl, hr4⟩
      have Hr := Lib.hid hr4
      replace Hlw := Lib.hid (Nat.le_trans Hlw.out hc4.size)
      replace Hc := Lib.hid (Hc.out.trans hc4)
      replace H5 := Lib.hid (row_kept hc4 H5.out Hne5.out)
      replace H4 := Lib.hid (row_kept hc4 H4.out Hne4.out)
      clear hc4 hr4 HF
      clear d3
      have HT := Lib.hid (rstep_any Hr.out hl)
      clear Hr
      go_wp2_with fail
      refine HT.out.mono ?_
      rintro e w5 ⟨hc, rfl, hr2⟩
      clear HT
      have Hch := Lib.hid hc
      have Hr := Lib.hid hr2
      replace Hlw := Lib.hid (Nat.le_trans Hlw.out hc.size)
      replace Hc := Lib.hid (Hc.out.trans hc)
      replace H5 := Lib.hid (row_kept hc H5.out Hne5.out)
      replace H4 := Lib.hid (row_kept hc H4.out Hne4.out)
      clear hc hr2
      have HT := Lib.hid (rwant_any Hr.out hl [61])
      clear Hr
      go_wp2_with fail
      refine HT.out.mono ?_
      rintro e w6 ⟨hc, rfl, hr2⟩
      clear HT
      have Hr := Lib.hid hr2
      replace Hlw := Lib.hid (Nat.le_trans Hlw.out hc.size)
      replace Hc := Lib.hid (Hc.out.trans hc)
      replace H5 := Lib.hid (row_kept hc H5.out Hne5.out)
      replace H4 := Lib.hid (row_kept hc H4.out Hne4.out)
      clear hc hr2
      have HT := Lib.hid (Ht.out w6 (wantS [61] (stepS (nameS o))) Hr.out)
      clear Hr
      go_wp2_with fail
      refine HT.out.mono ?_
      rintro e w7 ⟨hc, hr2, v, xa, rfl, hv, hx⟩
      clear HT
      obtain ⟨q6, n6, c6, kb6, ko6, rfl, hxl6, hxs⟩ := hv.shape
      have hal_ := (Chg.refl NoB w7).alloc (.cells #[.int .i64 xa.kind, .string (tx xa.s), .slice q6 n6 c6] 26)
      have hb_ := heap_alloc_new w7 (.cells #[.int .i64 xa.kind, .string (tx xa.s), .slice q6 n6 c6] 26)
      obtain ⟨b6, hxb_⟩ : ∃ b, b = w7.heap.size := ⟨_, rfl⟩
      obtain ⟨w8, hw_⟩ : ∃ w_, w7.alloc (.cells #[.int .i64 xa.kind, .string (tx xa.s), .slice q6 n6 c6] 26) = w_ := ⟨_, rfl⟩
      have hz_ : w8.heap.size = b6 + 1 := by rw [← hw_, hxb_]; exact alloc_size _ _
      rw [hw_] at hal_ hb_
      rw [← hxb_] at hb_
      have Hw6 := Lib.hid hw_
      have Hx6 := Lib.hid hxb_
      have Ha6 := Lib.hid hal_
      have Hb6 := Lib.hid hb_
      have Hz6 := Lib.hid hz_
      clear hal_ hb_ hxb_ hw_ hz_
      have hlw : lo ≤ w6.heap.size := Hlw.out
      have HB6 := Lib.hid (show BoxE w8 lo b6 xa from ⟨_, _, _, _, _, Hb6.out, hxl6, (hxs.keep Ha6.out fun _ _ => id).mono fun k hk => ⟨Nat.le_trans hlw hk.1, Nat.lt_of_lt_of_le hk.2 Ha6.out.size⟩⟩)
      have Hne6 := Lib.hid (show b6 ≠ rb by have := Hx6.out; have := hc.size; have := Hrl.out; omega)
      have Hch := Lib.hid (show Chg (fun k => k = rb) w6 w8 from hc.trans (Ha6.out.mono fun _ _ h => h.elim))
      have Hr := Lib.hid (hr2.keep Ha6.out)
      have HV6 := Lib.hid hx
      replace Hlw := Lib.hid (Nat.le_trans hlw Hch.out.size)
      replace Hc := Lib.hid (Hc.out.trans Hch.out)
      clear hv hxs hr2 hc hlw hx Hb6 hxl6
      replace H5 := Lib.hid (row_kept Hch.out H5.out Hne5.out)
      replace H4 := Lib.hid (row_kept Hch.out H4.out Hne4.out)
      have HTa := Lib.hid (fun s (e : stO (runO (exprW t) (wantS [61] (stepS (nameS o)))) = .ok s) => (show RuM w8 rb src (.ok s) by rw [← e]; exact Hr.out).tok)
      have HT := Lib.hid (rwant_any Hr.out hl kIn)
      clear Hr
      go_upto_region 7 with fail
      rw [Hw6.out, ← Hx6.out]
      go_wp2_with fail
      refine HT.out.mono ?_
      rintro e w9 ⟨hc, rfl, hr2⟩
      clear HT
      have Hr := Lib.hid hr2
      replace HB6 := Lib.hid (HB6.out.step hc Hrl.out Hne6.out)
      replace Hlw := Lib.hid (Nat.le_trans Hlw.out hc.size)
      replace Hc := Lib.hid (Hc.out.trans hc)
      replace H5 := Lib.hid (row_kept hc H5.out Hne5.out)
      replace H4 := Lib.hid (row_kept hc H4.out Hne4.out)
      clear hc hr2
      have HT := Lib.hid (Ht.out w9 (wantS kIn (stO (runO (exprW t) (wantS [61] (stepS (nameS o)))))) Hr.out)
      clear Hr
      go_wp2_with fail
      refine HT.out.mono ?_
      rintro e w10 ⟨hc, hr2, v, xb, rfl, hv, hx⟩
      clear HT
      obtain ⟨q7, n7, c7, kb7, ko7, rfl, hxl7, hxs⟩ := hv.shape
      have hal_ := (Chg.refl NoB w10).alloc (.cells #[.int .i64 xb.kind, .string (tx xb.s), .slice q7 n7 c7] 26)
      have hb_ := heap_alloc_new w10 (.cells #[.int .i64 xb.kind, .string (tx xb.s), .slice q7 n7 c7] 26)
      obtain ⟨b7, hxb_⟩ : ∃ b, b = w10.heap.size := ⟨_, rfl⟩
      obtain ⟨w11, hw_⟩ : ∃ w_, w10.alloc (.cells #[.int .i64 xb.kind, .string (tx xb.s), .slice q7 n7 c7] 26) = w_ := ⟨_, rfl⟩
      have hz_ : w11.heap.size = b7 + 1 := by rw [← hw_, hxb_]; exact alloc_size _ _
      rw [hw_] at hal_ hb_
      rw [← hxb_] at hb_
      have Hw7 := Lib.hid hw_
      have Hx7 := Lib.hid hxb_
      have Ha7 := Lib.hid hal_
      have Hb7 := Lib.hid hb_
      have Hz7 := Lib.hid hz_
      clear hal_ hb_ hxb_ hw_ hz_
      have hlw : lo ≤ w9.heap.size := Hlw.out
      have HB7 := Lib.hid (show BoxE w11 lo b7 xb from ⟨_, _, _, _, _, Hb7.out, hxl7, (hxs.keep Ha7.out fun _ _ => id).mono fun k hk => ⟨Nat.le_trans hlw hk.1, Nat.lt_of_lt_of_le hk.2 Ha7.out.size⟩⟩)
      have Hne7 := Lib.hid (show b7 ≠ rb by have := Hx7.out; have := hc.size; have := Hrl.out; omega)
      have Hch := Lib.hid (show Chg (fun k => k = rb) w9 w11 from hc.trans (Ha7.out.mono fun _ _ h => h.elim))
      have Hr := Lib.hid (hr2.keep Ha7.out)
      have HV7 := Lib.hid hx
      replace Hlw := Lib.hid (Nat.le_trans hlw Hch.out.size)
      replace Hc := Lib.hid (Hc.out.trans Hch.out)
      clear hv hxs hr2 hc hlw hx Hb7 hxl7
      replace HB6 := Lib.hid (HB6.out.step Hch.out Hrl.out Hne6.out)
      replace H5 := Lib.hid (row_kept Hch.out H5.out Hne5.out)
      replace H4 := Lib.hid (row_kept Hch.out H4.out Hne4.out)
      have HQ := Lib.hid (Heq.out xa xb HV6.out HTa.out HV7.out)
      clear Heq HV6 HV7 HTa
      obtain ⟨q6, n6, c6, kb6, ko6, h6, y6, z6⟩ := HB6.out
      obtain ⟨q7, n7, c7, kb7, ko7, h7, y7, z7⟩ := HB7.out
      go_upto_region 9 with fail
      rw [Hw7.out, ← Hx7.out]
      obtain ⟨u60, u61, u62⟩ := var3 h6
      obtain ⟨u70, u71, u72⟩ := var3 h7
      have hal := (Chg.refl NoB w11).alloc (.cells #[.int .i64 xa.kind, .string (tx xa.s), .slice q6 n6 c6, .int .i64 xb.kind, .string (tx xb.s), .slice q7 n7 c7] 26)
      have h5' := row_kept hal H5.out id
      have h4' := row_kept hal H4.out id
      have f5 := row_free h5'
      have f4 := row_free h4'
      obtain ⟨u50, u51, u52⟩ := var3 h5'
      obtain ⟨u40, u41, u42⟩ := var3 h4'
      have n45 : ¬ b4 = b5 := Hn45.out
      have n54 : ¬ b5 = b4 := fun e => Hn45.out e.symm
      have hs5 := heap_set h5' (i := 2) (.slice (some ⟨w11.heap.size, 0, none⟩) 2 2)
      have hc5 := (Chg.refl (fun k => k = b5) (w11.alloc (.cells #[.int .i64 xa.kind, .string (tx xa.s), .slice q6 n6 c6, .int .i64 xb.kind, .string (tx xb.s), .slice q7 n7 c7] 26))).setCell (p := ⟨b5, 2, none⟩) (.inl rfl) (.slice (some ⟨w11.heap.size, 0, none⟩) 2 2)
      have h4'' := row_kept hc5 h4' n45
      obtain ⟨t50, t51, t52⟩ := var3 hs5
      obtain ⟨t40, t41, t42⟩ := var3 h4''
      have f4' := row_free h4''
      have HS := set3x h4''
      have Hc5 := Lib.hid hc5
      have Hal := Lib.hid hal
      have Hsz := Lib.hid (show b4 < w11.heap.size from lt_of_block H4.out)
      have Hrow := Lib.hid (show ExR w11 (fun k => lo ≤ k ∧ k < w11.heap.size) [xa, xb] [.int .i64 xa.kind, .string (tx xa.s), .slice q6 n6 c6, .int .i64 xb.kind, .string (tx xb.s), .slice q7 n7 c7] from ⟨⟨rfl, rfl, y6, _, _, z6⟩, ⟨rfl, rfl, y7, _, _, z7⟩, trivial⟩)
      clear hal h5' h4' h6 h7 y6 y7 z6 z7 hs5 hc5 h4'' H5 H4
      go_wp2_with fail
      have hcw := (Hc5.out.mono (T := fun k => k = b5 ∨ k = b4) fun _ _ e => .inl e).trans ((HS (.int .i64 5) (.string (tx s0)) (.slice (some ⟨w11.heap.size, 0, none⟩) 2 2)).2.mono fun _ _ e => .inr e)
      refine bodyPost_ret (results_cellE rfl _ rfl (run_loadVar_row _ _ _ _ _ _ _ (HS _ _ _).1 (Tryd.underlying26) rfl rfl)) rfl ⟨(Hc.out.trans (Hal.out.mono fun _ _ h => h.elim)).wide hcw fun k hk e => by have := Hx4.out; have := Hn5.out; omega, ?_⟩
      rw [HQ.out.1]
      refine ⟨(Hr.out.keep Hal.out).chg hcw fun e => by have := Hne4.out; have := Hne5.out; omega, _, _, rfl, (made_lit2 (s := s0) Hrow.out (show 2 ≤ maxLen by decide) Hlw.out (by unfold maxLen; omega) (fun k e => by have := Hn5.out; omega) hcw).mono fun k hk => ⟨by have := Hn5.out; omega, hk.2⟩, HQ.out.2⟩
  · have hkb : ((k : Int) != 1) = true := by rw [bne_iff_ne]; omega
    have HF := Lib.hid (Hfail.out (fun h => hk1 h.1) w2 (Chg.refl _ _))
    clear Hfail Hgood hk1 HNm Hr
    go_wp2_with fail
    refine HF.out.mono ?_
    rintro e w4 ⟨hc4, rfl, hr4⟩
    have Hr := Lib.hid hr4
    replace Hlw := Lib.hid (Nat.le_trans Hlw.out hc4.size)
    replace Hc := Lib.hid (Hc.out.trans hc4)
    replace H5 := Lib.hid (row_kept hc4 H5.out Hne5.out)
    replace H4 := Lib.hid (row_kept hc4 H4.out Hne4.out)
    clear hc4 hr4 HF
    clear c0 c1 c2 c3 c4 c5 c6
    have HT := Lib.hid (rstep_any Hr.out hl)
    clear Hr
    go_wp2_with fail
    refine HT.out.mono ?_
    rintro e w5 ⟨hc, rfl, hr2⟩
    clear HT
    have Hch := Lib.hid hc
    have Hr := Lib.hid hr2
    replace Hlw := Lib.hid (Nat.le_trans Hlw.out hc.size)
    replace Hc := Lib.hid (Hc.out.trans hc)
    replace H5 := Lib.hid (row_kept hc H5.out Hne5.out)
    replace H4 := Lib.hid (row_kept hc H4.out Hne4.out)
    clear hc hr2
    have HT := Lib.hid (rwant_any Hr.out hl [61])
    clear Hr
    go_wp2_with fail
    refine HT.out.mono ?_
    rintro e w6 ⟨hc, rfl, hr2⟩
    clear HT
    have Hr := Lib.hid hr2
    replace Hlw := Lib.hid (Nat.le_trans Hlw.out hc.size)
    replace Hc := Lib.hid (Hc.out.trans hc)
    replace H5 := Lib.hid (row_kept hc H5.out Hne5.out)
    replace H4 := Lib.hid (row_kept hc H4.out Hne4.out)
    clear hc hr2
    have HT := Lib.hid (Ht.out w6 (wantS [61] (stepS (nameS o))) Hr.out)
    clear Hr
    go_wp2_with fail
    refine HT.out.mono ?_
    rintro e w7 ⟨hc, hr2, v, xa, rfl, hv, hx⟩
    clear HT
    obtain ⟨q6, n6, c6, kb6, ko6, rfl, hxl6, hxs⟩ := hv.shape
    have hal_ := (Chg.refl NoB w7).alloc (.cells #[.int .i64 xa.kind, .string (tx xa.s), .slice q6 n6 c6] 26)
    have hb_ := heap_alloc_new w7 (.cells #[.int .i64 xa.kind, .string (tx xa.s), .slice q6 n6 c6] 26)
    obtain ⟨b6, hxb_⟩ : ∃ b, b = w7.heap.size := ⟨_, rfl⟩
    obtain ⟨w8, hw_⟩ : ∃ w_, w7.alloc (.cells #[.int .i64 xa.kind, .string (tx xa.s), .slice q6 n6 c6] 26) = w_ := ⟨_, rfl⟩
    have hz_ : w8.heap.size = b6 + 1 := by rw [← hw_, hxb_]; exact alloc_size _ _
    rw [hw_] at hal_ hb_
    rw [← hxb_] at hb_
    have Hw6 := Lib.hid hw_
    have Hx6 := Lib.hid hxb_
    have Ha6 := Lib.hid hal_
    have Hb6 := Lib.hid hb_
    have Hz6 := Lib.hid hz_
    clear hal_ hb_ hxb_ hw_ hz_
    have hlw : lo ≤ w6.heap.size := Hlw.out
    have HB6 := Lib.hid (show BoxE w8 lo b6 xa from ⟨_, _, _, _, _, Hb6.out, hxl6, (hxs.keep Ha6.out fun _ _ => id).mono fun k hk => ⟨Nat.le_trans hlw hk.1, Nat.lt_of_lt_of_le hk.2 Ha6.out.size⟩⟩)
    have Hne6 := Lib.hid (show b6 ≠ rb by have := Hx6.out; have := hc.size; have := Hrl.out; omega)
    have Hch := Lib.hid (show Chg (fun k => k = rb) w6 w8 from hc.trans (Ha6.out.mono fun _ _ h => h.elim))
    have Hr := Lib.hid (hr2.keep Ha6.out)
    have HV6 := Lib.hid hx
    replace Hlw := Lib.hid (Nat.le_trans hlw Hch.out.size)
    replace Hc := Lib.hid (Hc.out.trans Hch.out)
    clear hv hxs hr2 hc hlw hx Hb6 hxl6
    replace H5 := Lib.hid (row_kept Hch.out H5.out Hne5.out)
    replace H4 := Lib.hid (row_kept Hch.out H4.out Hne4.out)
    have HTa := Lib.hid (fun s (e : stO (runO (exprW t) (wantS [61] (stepS (nameS o)))) = .ok s) => (show RuM w8 rb src (.ok s) by rw [← e]; exact Hr.out).tok)
    have HT := Lib.hid (rwant_any Hr.out hl kIn)
    clear Hr
    go_upto_region 7 with fail
    rw [Hw6.out, ← Hx6.out]
    go_wp2_with fail
    refine HT.out.mono ?_
    rintro e w9 ⟨hc, rfl, hr2⟩
    clear HT
    have Hr := Lib.hid hr2
    replace HB6 := Lib.hid (HB6.out.step hc Hrl.out Hne6.out)
    replace Hlw := Lib.hid (Nat.le_trans Hlw.out hc.size)
    replace Hc := Lib.hid (Hc.out.trans hc)
    replace H5 := Lib.hid (row_kept hc H5.out Hne5.out)
    replace H4 := Lib.hid (row_kept hc H4.out Hne4.out)
    clear hc hr2
    have HT := Lib.hid (Ht.out w9 (wantS kIn (stO (runO (exprW t) (wantS [61] (stepS (nameS o)))))) Hr.out)
    clear Hr
    go_wp2_with fail
    refine HT.out.mono ?_
    rintro e w10 ⟨hc, hr2, v, xb, rfl, hv, hx⟩
    clear HT
    obtain ⟨q7, n7, c7, kb7, ko7, rfl, hxl7, hxs⟩ := hv.shape
    have hal_ := (Chg.refl NoB w10).alloc (.cells #[.int .i64 xb.kind, .string (tx xb.s), .slice q7 n7 c7] 26)
    have hb_ := heap_alloc_new w10 (.cells #[.int .i64 xb.kind, .string (tx xb.s), .slice q7 n7 c7] 26)
    obtain ⟨b7, hxb_⟩ : ∃ b, b = w10.heap.size := ⟨_, rfl⟩
    obtain ⟨w11, hw_⟩ : ∃ w_, w10.alloc (.cells #[.int .i64 xb.kind, .string (tx xb.s), .slice q7 n7 c7] 26) = w_ := ⟨_, rfl⟩
    have hz_ : w11.heap.size = b7 + 1 := by rw [← hw_, hxb_]; exact alloc_size _ _
    rw [hw_] at hal_ hb_
    rw [← hxb_] at hb_
    have Hw7 := Lib.hid hw_
    have Hx7 := Lib.hid hxb_
    have Ha7 := Lib.hid hal_
    have Hb7 := Lib.hid hb_
    have Hz7 := Lib.hid hz_
    clear hal_ hb_ hxb_ hw_ hz_
    have hlw : lo ≤ w9.heap.size := Hlw.out
    have HB7 := Lib.hid (show BoxE w11 lo b7 xb from ⟨_, _, _, _, _, Hb7.out, hxl7, (hxs.keep Ha7.out fun _ _ => id).mono fun k hk => ⟨Nat.le_trans hlw hk.1, Nat.lt_of_lt_of_le hk.2 Ha7.out.size⟩⟩)
    have Hne7 := Lib.hid (show b7 ≠ rb by have := Hx7.out; have := hc.size; have := Hrl.out; omega)
    have Hch := Lib.hid (show Chg (fun k => k = rb) w9 w11 from hc.trans (Ha7.out.mono fun _ _ h => h.elim))
    have Hr := Lib.hid (hr2.keep Ha7.out)
    have HV7 := Lib.hid hx
    replace Hlw := Lib.hid (Nat.le_trans hlw Hch.out.size)
    replace Hc := Lib.hid (Hc.out.trans Hch.out)
    clear hv hxs hr2 hc hlw hx Hb7 hxl7
    replace HB6 := Lib.hid (HB6.out.step Hch.out Hrl.out Hne6.out)
    replace H5 := Lib.hid (row_kept Hch.out H5.out Hne5.out)
    replace H4 := Lib.hid (row_kept Hch.out H4.out Hne4.out)
    have HQ := Lib.hid (Heq.out xa xb HV6.out HTa.out HV7.out)
    clear Heq HV6 HV7 HTa
    obtain ⟨q6, n6, c6, kb6, ko6, h6, y6, z6⟩ := HB6.out
    obtain ⟨q7, n7, c7, kb7, ko7, h7, y7, z7⟩ := HB7.out
    go_upto_region 9 with fail
    rw [Hw7.out, ← Hx7.out]
    obtain ⟨u60, u61, u62⟩ := var3 h6
    obtain ⟨u70, u71, u72⟩ := var3 h7
    have hal := (Chg.refl NoB w11).alloc (.cells #[.int .i64 xa.kind, .string (tx xa.s), .slice q6 n6 c6, .int .i64 xb.kind, .string (tx xb.s), .slice q7 n7 c7] 26)
    have h5' := row_kept hal H5.out id
    have h4' := row_kept hal H4.out id
    have f5 := row_free h5'
    have f4 := row_free h4'
    obtain ⟨u50, u51, u52⟩ := var3 h5'
    obtain ⟨u40, u41, u42⟩ := var3 h4'
    have n45 : ¬ b4 = b5 := Hn45.out
    have n54 : ¬ b5 = b4 := fun e => Hn45.out e.symm
    have hs5 := heap_set h5' (i := 2) (.slice (some ⟨w11.heap.size, 0, none⟩) 2 2)
    have hc5 := (Chg.refl (fun k => k = b5) (w11.alloc (.cells #[.int .i64 xa.kind, .string (tx xa.s), .slice q6 n6 c6, .int .i64 xb.kind, .string (tx xb.s), .slice q7 n7 c7] 26))).setCell (p := ⟨b5, 2, none⟩) (.inl rfl) (.slice (some ⟨w11.heap.size, 0, none⟩) 2 2)
    have h4'' := row_kept hc5 h4' n45
    obtain ⟨t50, t51, t52⟩ := var3 hs5
    obtain ⟨t40, t41, t42⟩ := var3 h4''
    have f4' := row_free h4''
    have HS := set3x h4''
    have Hc5 := Lib.hid hc5
    have Hal := Lib.hid hal
    have Hsz := Lib.hid (show b4 < w11.heap.size from lt_of_block H4.out)
    have Hrow := Lib.hid (show ExR w11 (fun k => lo ≤ k ∧ k < w11.heap.size) [xa, xb] [.int .i64 xa.kind, .string (tx xa.s), .slice q6 n6 c6, .int .i64 xb.kind, .string (tx xb.s), .slice q7 n7 c7] from ⟨⟨rfl, rfl, y6, _, _, z6⟩, ⟨rfl, rfl, y7, _, _, z7⟩, trivial⟩)
    clear hal h5' h4' h6 h7 y6 y7 z6 z7 hs5 hc5 h4'' H5 H4
    go_wp2_with fail
    have hcw := (Hc5.out.mono (T := fun k => k = b5 ∨ k = b4) fun _ _ e => .inl e).trans ((HS (.int .i64 5) (.string (tx s0)) (.slice (some ⟨w11.heap.size, 0, none⟩) 2 2)).2.mono fun _ _ e => .inr e)
    refine bodyPost_ret (results_cellE rfl _ rfl (run_loadVar_row _ _ _ _ _ _ _ (HS _ _ _).1 (Tryd.underlying26) rfl rfl)) rfl ⟨(Hc.out.trans (Hal.out.mono fun _ _ h => h.elim)).wide hcw fun k hk e => by have := Hx4.out; have := Hn5.out; omega, ?_⟩
    rw [HQ.out.1]
    refine ⟨(Hr.out.keep Hal.out).chg hcw fun e => by have := Hne4.out; have := Hne5.out; omega, _, _, rfl, (made_lit2 (s := s0) Hrow.out (show 2 ≤ maxLen by decide) Hlw.out (by unfold maxLen; omega) (fun k e => by have := Hn5.out; omega) hcw).mono fun k hk => ⟨by have := Hn5.out; omega, hk.2⟩, HQ.out.2⟩
end Go.Proofs.YtdgcpgbknfojhaaDoor
