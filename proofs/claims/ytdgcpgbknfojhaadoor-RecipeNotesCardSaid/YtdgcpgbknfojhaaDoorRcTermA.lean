/- The contracts of term and expr. Conditions: the text is not too long; the keywords read as listed. -/
import Derived.Test.YtdgcpgbknfojhaaDoorRcTerm

namespace Go.Proofs.YtdgcpgbknfojhaaDoor
set_option linter.unusedVariables false
open Go.ChangeShapes Go.WideShapes Go.ChangeAt Go.RowKit
/- the box takes three values and is answered -/
set_option maxHeartbeats 8000000 in
set_option maxRecDepth 20000 in
theorem term_zero {base rb : Nat} {src : List UInt8} (hl : src.length ≤ 8192) (hrb : base ≤ rb) : TermOk (termF 0) 32 base rb src := by
  intro w st0 hr hk
  have Hrb := Lib.hid hr.lt
  have Hkw := Lib.hid (fun w' (h : Chg (fun k => k = rb) w w') => hk.chg h fun k e => by omega)
  have hsl := hr.len
  have hal_ := (Chg.refl NoB w).alloc (.cells #[.int .i64 0, .string ⟨#[]⟩, .slice none 0 0] 26)
  have hb_ := heap_alloc_new w (.cells #[.int .i64 0, .string ⟨#[]⟩, .slice none 0 0] 26)
  obtain ⟨b4, hxb_⟩ : ∃ b, b = w.heap.size := ⟨_, rfl⟩
  obtain ⟨w1, hw_⟩ : ∃ w_, w.alloc (.cells #[.int .i64 0, .string ⟨#[]⟩, .slice none 0 0] 26) = w_ := ⟨_, rfl⟩
  have hz_ : w1.heap.size = b4 + 1 := by rw [← hw_, hxb_]; exact alloc_size _ _
  rw [hw_] at hal_ hb_
  rw [← hxb_] at hb_
  have Hw4 := Lib.hid hw_
  have Hx4 := Lib.hid hxb_
  have Ha4 := Lib.hid hal_
  have Hb4 := Lib.hid hb_
  have Hz4 := Lib.hid hz_
  clear hal_ hb_ hxb_ hw_ hz_
  have hr1 := hr.keep Ha4.out
  have hk1 := hk.keep Ha4.out
  have HBg := Lib.hid (begins_any base hr1 hk1)
  have Hr1 := Lib.hid hr1
  have Hk1 := Lib.hid hk1
  have Hne4 := Lib.hid (show b4 ≠ rb by have := Hx4.out; have := Hrb.out; omega)
  clear hr hk hr1 hk1
  go_enter Tryd.func72, Tryd.ntmps72
  go_upto_region 1 with fail
  rw [Hw4.out, ← Hx4.out]
  go_wp2_with fail
  refine HBg.out.mono ?_
  rintro e w2 ⟨rfl, hc2⟩
  have Hr2 := Lib.hid (Hr1.out.keep hc2)
  have Hk2 := Lib.hid (Hk1.out.keep hc2)
  have Hb42 := Lib.hid (row_kept hc2 Hb4.out id)
  have Hc2 := Lib.hid ((Ha4.out.trans hc2).mono fun _ _ h => h.elim : Chg (fun k => k = rb) w w2)
  have Hsz2 := Lib.hid hc2.size
  clear hc2 HBg Hr1 Hk1
  cases hb : beginsF st0 with
  | false =>
    have HF := Lib.hid (fail_any Hr2.out 50)
    have Hx := Lib.hid (show termF 0 st0 = .error (st0.rem, 50) by rw [termF, hb]; rfl)
    clear Hr2 Hk2
    go_wp2_with fail
    refine HF.out.mono ?_
    rintro e w3 ⟨rfl, rfl⟩
    unfold quitF
    go_wp2_with fail
    refine ⟨rfl, Hc2.out, ?_⟩
    rw [Hx.out]
    rfl
  | true =>
    have HF := Lib.hid (fail_any Hr2.out 4)
    have Hx := Lib.hid (show termF 0 st0 = .error (st0.rem, 4) by rw [termF, hb]; rfl)
    clear Hr2 Hk2
    go_wp2_with fail
    refine HF.out.mono ?_
    rintro e w3 ⟨rfl, rfl⟩
    unfold quitF
    go_wp2_with fail
    refine ⟨rfl, Hc2.out, ?_⟩
    rw [Hx.out]
    rfl
set_option maxHeartbeats 8000000 in
set_option maxRecDepth 20000 in
theorem term_more {d : Nat} {base rb : Nat} {src : List UInt8} {n : Int} (hn : 0 ≤ n ∧ n < 32) (he : ExprOk (exprW (termF d)) (n + 1) base rb src) (hl : src.length ≤ 8192) (hrb : base ≤ rb) : TermOk (termF (d + 1)) n base rb src := by
  have hq1 : IntKind.i64.wrap (n + 1) = n + 1 := by rw [IntKind.wrap_i64]; omega
  intro w st0 hr hk
  have Hrb := Lib.hid hr.lt
  have Hkw := Lib.hid (fun w' (h : Chg (fun k => k = rb) w w') => hk.chg h fun k e => by omega)
  have hsl := hr.len
  have hal_ := (Chg.refl NoB w).alloc (.cells #[.int .i64 0, .string ⟨#[]⟩, .slice none 0 0] 26)
  have hb_ := heap_alloc_new w (.cells #[.int .i64 0, .string ⟨#[]⟩, .slice none 0 0] 26)
  obtain ⟨b4, hxb_⟩ : ∃ b, b = w.heap.size := ⟨_, rfl⟩
  obtain ⟨w1, hw_⟩ : ∃ w_, w.alloc (.cells #[.int .i64 0, .string ⟨#[]⟩, .slice none 0 0] 26) = w_ := ⟨_, rfl⟩
  have hz_ : w1.heap.size = b4 + 1 := by rw [← hw_, hxb_]; exact alloc_size _ _
  rw [hw_] at hal_ hb_
  rw [← hxb_] at hb_
  have Hw4 := Lib.hid hw_
  have Hx4 := Lib.hid hxb_
  have Ha4 := Lib.hid hal_
  have Hb4 := Lib.hid hb_
  have Hz4 := Lib.hid hz_
  clear hal_ hb_ hxb_ hw_ hz_
  have hr1 := hr.keep Ha4.out
  have hk1 := hk.keep Ha4.out
  have HBg := Lib.hid (begins_any base hr1 hk1)
  have Hr1 := Lib.hid hr1
  have Hk1 := Lib.hid hk1
  have Hne4 := Lib.hid (show b4 ≠ rb by have := Hx4.out; have := Hrb.out; omega)
  clear hr hk hr1 hk1
  go_enter Tryd.func72, Tryd.ntmps72
  go_upto_region 1 with fail
  rw [Hw4.out, ← Hx4.out]
  go_wp2_with fail
  refine HBg.out.mono ?_
  rintro e w2 ⟨rfl, hc2⟩
  have Hr2 := Lib.hid (Hr1.out.keep hc2)
  have Hk2 := Lib.hid (Hk1.out.keep hc2)
  have Hb42 := Lib.hid (row_kept hc2 Hb4.out id)
  have Hc2 := Lib.hid ((Ha4.out.trans hc2).mono fun _ _ h => h.elim : Chg (fun k => k = rb) w w2)
  have Hsz2 := Lib.hid hc2.size
  clear hc2 HBg Hr1 Hk1
  cases hb : beginsF st0 with
  | false =>
    have HF := Lib.hid (fail_any Hr2.out 50)
    have Hx := Lib.hid (show termF (d + 1) st0 = .error (st0.rem, 50) by rw [termF, hb]; rfl)
    clear Hr2 Hk2
    go_wp2_with fail
    refine HF.out.mono ?_
    rintro e w3 ⟨rfl, rfl⟩
    unfold quitF
    go_wp2_with fail
    refine ⟨rfl, Hc2.out, ?_⟩
    rw [Hx.out]
    rfl
  | true =>
    have hkd := begins_kind hb
    have hn32 : ¬ 32 ≤ n := by omega
    have Hdef := Lib.hid (show termF (d + 1) st0 = match takeF st0.rest with
      | .error e => .error e
      | .ok s1 =>
        if st0.kind = 3 then .ok (.mk 1 st0.s [], s1)
        else if st0.kind = 2 then exprM (termF d) 2 [41] s1
        else if st0.s = kIf then choiceF (termF d) s1
        else if st0.s = kLet then bindF (termF d) s1
        else .ok (.mk 2 st0.s [], s1) by rw [termF, hb]; rfl)
    have HT := Lib.hid (fun W (h : Chg NoB w2 W) => take_any base (Hr2.out.keep h) hl (Hk2.out.keep h) hrb)
    obtain ⟨c0, c1, c2, c3, c4⟩ := cell5 Hr2.out.row
    obtain ⟨at', hat⟩ : ∃ n, n = src.length - st0.rem := ⟨_, rfl⟩
    rw [← hat] at c4
    have hal_ := (Chg.refl NoB w2).alloc (.cells #[.int .i64 st0.kind, .string (tx st0.s), .int .i64 at'] 57)
    have hb_ := heap_alloc_new w2 (.cells #[.int .i64 st0.kind, .string (tx st0.s), .int .i64 at'] 57)
    obtain ⟨b5, hxb_⟩ : ∃ b, b = w2.heap.size := ⟨_, rfl⟩
    obtain ⟨w3, hw_⟩ : ∃ w_, w2.alloc (.cells #[.int .i64 st0.kind, .string (tx st0.s), .int .i64 at'] 57) = w_ := ⟨_, rfl⟩
    have hz_ : w3.heap.size = b5 + 1 := by rw [← hw_, hxb_]; exact alloc_size _ _
    rw [hw_] at hal_ hb_
    rw [← hxb_] at hb_
    have Hw5 := Lib.hid hw_
    have Hx5 := Lib.hid hxb_
    have Ha5 := Lib.hid hal_
    have Hb5 := Lib.hid hb_
    have Hz5 := Lib.hid hz_
    clear hal_ hb_ hxb_ hw_ hz_
    have HT3 := Lib.hid (HT.out w3 Ha5.out)
    have Hc3 := Lib.hid (Hc2.out.trans (Ha5.out.mono fun _ _ h => h.elim))
    have Hb43 := Lib.hid (row_kept Ha5.out Hb42.out id)
    have Hne5 := Lib.hid (show b5 ≠ rb by have := Hx5.out; have := Hc2.out.size; have := Hrb.out; omega)
    clear HT hb hat Hr2 Hk2 Hb42
    go_upto_region 6 with fail
    rw [Hw5.out, ← Hx5.out]
    clear c0 c1 c2 c3 c4
    go_wp2_with fail
    refine HT3.out.mono ?_
    rintro e w4 ⟨hc, h2⟩
    have Hc4 := Lib.hid (Hc3.out.trans hc)
    cases ht1 : takeF st0.rest with
    | error z =>
      rw [ht1] at h2 Hdef
      obtain rfl : e = quitF ((src.length - z.1 : Nat) : Int) z.2 := h2
      clear hc
      unfold quitF
      go_wp2_with fail
      refine ⟨rfl, Hc4.out, ?_⟩
      rw [Hdef.out]
      rfl
    | ok s1 =>
      rw [ht1] at h2 Hdef
      simp only at Hdef
      obtain ⟨rfl, hr4⟩ := h2
      have Hr4 := Lib.hid hr4
      have Hk4 := Lib.hid (show Kw base w4 from Hkw.out _ Hc4.out)
      have Hb44 := Lib.hid (row_kept hc Hb43.out Hne4.out)
      have Hb54 := Lib.hid (row_kept hc Hb5.out Hne5.out)
      have Hsz4 := Lib.hid (show b4 < w4.heap.size from lt_of_block Hb44.out)
      clear hc hr4 HT3 ht1 Hb43 Hb5
      obtain ⟨e0, e1, e2⟩ := var3 Hb54.out
      obtain ⟨d0, d1, d2⟩ := var3 Hb44.out
      have fr := row_free Hb44.out
      by_cases h3 : st0.kind = 3
      · have h3b : ((st0.kind : Int) == 3) = true := by simp [h3]
        rw [if_pos h3] at Hdef
        clear h3 hkd
        generalize st0.s = nm at *
        have HS := set3x Hb44.out
        go_wp2_with fail
        refine bodyPost_ret (results_cellE rfl _ rfl (run_loadVar_row _ _ _ _ _ _ _ (HS _ _ _).1 (Tryd.underlying26) rfl rfl)) rfl ⟨(Hc4.out).wide (HS _ _ _).2 fun k hk e => by have := Hx4.out; omega, ?_⟩
        rw [Hdef.out]
        refine ⟨(Hr4.out).chg (HS _ _ _).2 fun e => Hne4.out e.symm, _, rfl, ⟨by show nm.length ≤ maxLen; unfold maxLen; omega, _, 0, 0, rfl, ExS.nil _ _⟩⟩
      · have h3b : ((st0.kind : Int) == 3) = false := by rw [beq_eq_false_iff_ne]; omega
        rw [if_neg h3] at Hdef
        by_cases h4 : st0.kind = 2
        · have h4b : ((st0.kind : Int) == 2) = true := by simp [h4]
          rw [if_pos h4] at Hdef
          have HE := Lib.hid (he w4 s1 Hr4.out Hk4.out)
          have Hdef2 := Lib.hid (show exprM (termF d) 2 [41] s1 = match exprW (termF d) s1 with
            | .error e => .error e
            | .ok (x, st1) => match mustF 2 [41] st1 with
              | .error e => .error e
              | .ok st2 => .ok (x, st2) from rfl)
          rw [← Hdef.out] at Hdef2
          clear h3 h4 hkd Hdef Hk4 Hr4 he
          generalize termF (d + 1) st0 = R at *
          go_wp2_with fail
          refine HE.out.mono ?_
          rintro e w5 ⟨hc, h2⟩
          clear HE
          have Hc5 := Lib.hid (Hc4.out.trans hc)
          cases ht1 : exprW (termF d) s1 with
          | error z =>
            rw [ht1] at h2 Hdef2
            obtain rfl : e = quitF ((src.length - z.1 : Nat) : Int) z.2 := h2
            clear hc
            unfold quitF
            go_wp2_with fail
            refine ⟨rfl, Hc5.out, ?_⟩
            rw [Hdef2.out]
            rfl
          | ok p =>
            obtain ⟨x, s2⟩ := p
            rw [ht1] at h2 Hdef2
            simp only at Hdef2
            obtain ⟨hr5, v, rfl, hv⟩ := h2
            obtain ⟨q6, n6, c6, kb6, ko6, rfl, hxl, hxs⟩ := hv.shape
            have hal_ := (Chg.refl NoB w5).alloc (.cells #[.int .i64 x.kind, .string (tx x.s), .slice q6 n6 c6] 26)
            have hb_ := heap_alloc_new w5 (.cells #[.int .i64 x.kind, .string (tx x.s), .slice q6 n6 c6] 26)
            obtain ⟨b6, hxb_⟩ : ∃ b, b = w5.heap.size := ⟨_, rfl⟩
            obtain ⟨w6, hw_⟩ : ∃ w_, w5.alloc (.cells #[.int .i64 x.kind, .string (tx x.s), .slice q6 n6 c6] 26) = w_ := ⟨_, rfl⟩
            have hz_ : w6.heap.size = b6 + 1 := by rw [← hw_, hxb_]; exact alloc_size _ _
            rw [hw_] at hal_ hb_
            rw [← hxb_] at hb_
            have Hw6 := Lib.hid hw_
            have Hx6 := Lib.hid hxb_
            have Ha6 := Lib.hid hal_
            have Hb6 := Lib.hid hb_
            have Hz6 := Lib.hid hz_
            clear hal_ hb_ hxb_ hw_ hz_
            have hlw := Hsz4.out
            have HB6 := Lib.hid (show BoxE w6 (b4 + 1) b6 x from ⟨_, _, _, _, _, Hb6.out, hxl, (hxs.keep Ha6.out fun _ _ => id).mono fun k hk => ⟨Nat.le_trans hlw hk.1, Nat.lt_of_lt_of_le hk.2 Ha6.out.size⟩⟩)
            have Hne6 := Lib.hid (show b6 ≠ rb by have := Hx6.out; have := Hc5.out.size; have := Hrb.out; omega)
            have Hb46 := Lib.hid (row_kept Ha6.out (row_kept hc Hb44.out Hne4.out) id)
            have hr6 := hr5.keep Ha6.out
            have Hc6 := Lib.hid (Hc5.out.trans (Ha6.out.mono fun _ _ h => h.elim))
            have HM := Lib.hid (must_any base hr6 hl (Hkw.out _ Hc6.out) hrb 2 [41])
            clear hv hxs hr5 hr6 hc hlw ht1 Hb6 hxl e0 e1 e2 d0 d1 d2 fr Hb44
            go_upto_region 11 with fail
            rw [Hw6.out, ← Hx6.out]
            go_wp2_with fail
            refine HM.out.mono ?_
            rintro e w7 ⟨hc, h2⟩
            clear HM
            have Hc7 := Lib.hid (Hc6.out.trans hc)
            cases ht1 : mustF 2 [41] s2 with
            | error z =>
              rw [ht1] at h2 Hdef2
              obtain rfl : e = quitF ((src.length - z.1 : Nat) : Int) z.2 := h2
              clear hc
              unfold quitF
              go_wp2_with fail
              refine ⟨rfl, Hc7.out, ?_⟩
              rw [Hdef2.out]
              rfl
            | ok s3 =>
              rw [ht1] at h2 Hdef2
              simp only at Hdef2
              obtain ⟨rfl, hr7⟩ := h2
              obtain ⟨q6, n6, c6, kb6, ko6, h6, y6, z6⟩ := HB6.out.step hc (by have := Hx4.out; have := Hrb.out; omega) Hne6.out
              have Hb47 := Lib.hid (row_kept hc Hb46.out Hne4.out)
              have Hr7 := Lib.hid hr7
              have Z6 := Lib.hid z6
              have Y6 := Lib.hid y6
              clear hc hr7 ht1 y6 z6 Hb46
              obtain ⟨e0, e1, e2⟩ := var3 h6
              obtain ⟨d0, d1, d2⟩ := var3 Hb47.out
              have fr := row_free Hb47.out
              have Hdef := Lib.hid Hdef2.out
              have HS := set3x Hb47.out
              go_wp2_with fail
              refine bodyPost_ret (results_cellE rfl _ rfl (run_loadVar_row _ _ _ _ _ _ _ (HS _ _ _).1 (Tryd.underlying26) rfl rfl)) rfl ⟨(Hc7.out).wide (HS _ _ _).2 fun k hk e => by have := Hx4.out; omega, ?_⟩
              rw [Hdef.out]
              refine ⟨(Hr7.out).chg (HS _ _ _).2 fun e => Hne4.out e.symm, _, rfl, ⟨Y6.out, _, kb6, ko6, rfl, (Z6.out.keep (HS _ _ _).2 fun k hk e => by omega).mono fun k hk => ⟨by have := Hx4.out; omega, Nat.lt_of_lt_of_le hk.2 (HS _ _ _).2.size⟩⟩⟩
        · have h4b : ((st0.kind : Int) == 2) = false := by rw [beq_eq_false_iff_ne]; omega
          rw [if_neg h4] at Hdef
          have en1 := txQ st0.s
          clear h3 h4 hkd
          by_cases h5 : st0.s = kIf
          · rw [if_pos h5] at Hdef
            have h5b : (st0.s == ([105, 102] : List UInt8)) = true := by rw [h5]; rfl
            have HE := Lib.hid (choice_of he hl hrb w4 s1 Hr4.out Hk4.out)
            rw [← Hdef.out] at HE
            clear h5 Hr4 Hk4 he Hdef
            generalize termF (d + 1) st0 = R at *
            generalize st0.s = nm at *
            go_wp2_with fail
            refine HE.out.mono ?_
            rintro e w5 ⟨hc, h2⟩
            clear HE
            have Hc5 := Lib.hid (Hc4.out.trans hc)
            cases R with
            | error z =>
              obtain rfl : e = quitF ((src.length - z.1 : Nat) : Int) z.2 := h2
              clear hc
              unfold quitF
              go_wp2_with fail
              exact ⟨rfl, Hc5.out, rfl⟩
            | ok p =>
              obtain ⟨x, s2⟩ := p
              obtain ⟨hr5, v, rfl, hv⟩ := h2
              obtain ⟨q6, n6, c6, kb6, ko6, rfl, hxl, hxs⟩ := hv.shape
              have Hxs := Lib.hid hxs
              have Hr5 := Lib.hid hr5
              have hlw := Hsz4.out
              have Hb45 := row_kept hc Hb44.out Hne4.out
              clear hv hxs hr5 hc e0 e1 e2 d0 d1 d2 fr Hb44
              obtain ⟨d0, d1, d2⟩ := var3 Hb45
              have fr := row_free Hb45
              have HS := set3x Hb45
              go_wp2_with fail
              refine bodyPost_ret (results_cellE rfl _ rfl (run_loadVar_row _ _ _ _ _ _ _ (HS _ _ _).1 (Tryd.underlying26) rfl rfl)) rfl ⟨Hc5.out.wide (HS _ _ _).2 fun k hk e => by have := Hx4.out; omega, ?_⟩
              refine ⟨Hr5.out.chg (HS _ _ _).2 fun e => Hne4.out e.symm, _, rfl, hxl, _, kb6, ko6, rfl, (Hxs.out.keep (HS _ _ _).2 fun k hk e => by omega).mono fun k hk => ⟨by have := Hx4.out; omega, Nat.lt_of_lt_of_le hk.2 (HS _ _ _).2.size⟩⟩
          · rw [if_neg h5] at Hdef
            have h5b : (st0.s == ([105, 102] : List UInt8)) = false := by rw [beq_eq_false_iff_ne]; exact h5
            by_cases h6 : st0.s = kLet
            · rw [if_pos h6] at Hdef
              have h6b : (st0.s == ([108, 101, 116] : List UInt8)) = true := by rw [h6]; rfl
              have HE := Lib.hid (bind_of he hl hrb w4 s1 Hr4.out Hk4.out)
              rw [← Hdef.out] at HE
              clear h5 h6 Hr4 Hk4 he Hdef
              generalize termF (d + 1) st0 = R at *
              generalize st0.s = nm at *
              go_wp2_with fail
              refine HE.out.mono ?_
              rintro e w5 ⟨hc, h2⟩
              clear HE
              have Hc5 := Lib.hid (Hc4.out.trans hc)
              cases R with
              | error z =>
                obtain rfl : e = quitF ((src.length - z.1 : Nat) : Int) z.2 := h2
                clear hc
                unfold quitF
                go_wp2_with fail
                exact ⟨rfl, Hc5.out, rfl⟩
              | ok p =>
                obtain ⟨x, s2⟩ := p
                obtain ⟨hr5, v, rfl, hv⟩ := h2
                obtain ⟨q6, n6, c6, kb6, ko6, rfl, hxl, hxs⟩ := hv.shape
                have Hxs := Lib.hid hxs
                have Hr5 := Lib.hid hr5
                have hlw := Hsz4.out
                have Hb45 := row_kept hc Hb44.out Hne4.out
                clear hv hxs hr5 hc e0 e1 e2 d0 d1 d2 fr Hb44
                obtain ⟨d0, d1, d2⟩ := var3 Hb45
                have fr := row_free Hb45
                have HS := set3x Hb45
                go_wp2_with fail
                refine bodyPost_ret (results_cellE rfl _ rfl (run_loadVar_row _ _ _ _ _ _ _ (HS _ _ _).1 (Tryd.underlying26) rfl rfl)) rfl ⟨Hc5.out.wide (HS _ _ _).2 fun k hk e => by have := Hx4.out; omega, ?_⟩
                refine ⟨Hr5.out.chg (HS _ _ _).2 fun e => Hne4.out e.symm, _, rfl, hxl, _, kb6, ko6, rfl, (Hxs.out.keep (HS _ _ _).2 fun k hk e => by omega).mono fun k hk => ⟨by have := Hx4.out; omega, Nat.lt_of_lt_of_le hk.2 (HS _ _ _).2.size⟩⟩
            · rw [if_neg h6] at Hdef
              have h6b : (st0.s == ([108, 101, 116] : List UInt8)) = false := by rw [beq_eq_false_iff_ne]; exact h6
              clear h5 h6 he Hk4
              generalize st0.s = nm at *
              have HS := set3x Hb44.out
              go_wp2_with fail
              refine bodyPost_ret (results_cellE rfl _ rfl (run_loadVar_row _ _ _ _ _ _ _ (HS _ _ _).1 (Tryd.underlying26) rfl rfl)) rfl ⟨(Hc4.out).wide (HS _ _ _).2 fun k hk e => by have := Hx4.out; omega, ?_⟩
              rw [Hdef.out]
              refine ⟨(Hr4.out).chg (HS _ _ _).2 fun e => Hne4.out e.symm, _, rfl, ⟨by show nm.length ≤ maxLen; unfold maxLen; omega, _, 0, 0, rfl, ExS.nil _ _⟩⟩
theorem term_expr {base rb : Nat} {src : List UInt8} (hl : src.length ≤ 8192) (hrb : base ≤ rb) : ∀ d : Nat, d ≤ 32 → TermOk (termF d) (32 - (d : Int)) base rb src ∧ ExprOk (exprW (termF d)) (32 - (d : Int)) base rb src
  | 0, _ => by
    have h := term_zero (src := src) (rb := rb) hl hrb
    exact ⟨h, expr_of h (term_good 0) hl hrb⟩
  | d + 1, hd => by
    have ih := (term_expr hl hrb d (by omega)).2
    have h := term_more (d := d) (n := 32 - ((d + 1 : Nat) : Int)) (by omega) (by rw [show (32 : Int) - ((d + 1 : Nat) : Int) + 1 = 32 - (d : Int) by omega]; exact ih) hl hrb
    exact ⟨h, expr_of h (term_good (d + 1)) hl hrb⟩
theorem expr_any {w : World} {base rb : Nat} {src : List UInt8} {st : RdL} (hr : RdM w rb src st) (hk : Kw base w) (hl : src.length ≤ 8192) (hrb : base ≤ rb) : Calls Tryd.prog 54 #[.pointer (some ⟨rb, 0, none⟩), .int .i64 0] w (ExprP rb src (exprF 32 st) w) :=
  (term_expr hl hrb 32 (Nat.le_refl _)).2 w st hr hk
end Go.Proofs.YtdgcpgbknfojhaaDoor
