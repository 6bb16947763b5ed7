/- The contracts of the document's term and expr. Condition: the text is not too long. -/
import Derived.Test.YtdgcpgbknfojhaaDoorRcRLet
import Derived.Test.YtdgcpgbknfojhaaDoorRcPrM


/- an expression is read: W the world, O the state; the new world, the box's, the box, its slot, the expression, the reading -/
namespace Go.Proofs.YtdgcpgbknfojhaaDoor
set_option linter.unusedVariables false
open Go.ChangeShapes Go.WideShapes Go.ChangeAt Go.RowKit
/- four expressions with words between them -/
def chO (t : TermL) : List (List UInt8) → List ExL → StL → Except FaultL (List ExL × RdL)
  | _, _, .error z => .error z
  | [], acc, .ok st => .ok (acc, st)
  | w :: ws, acc, .ok st => match exprW t st with
    | .error z => .error z
    | .ok (x, s1) => chO t ws (acc ++ [x]) (if w = [] then .ok s1 else mustF (if w = [61] then 2 else 1) w s1)
def ifWs : List (List UInt8) := [[61], kThen, kElse, []]
def finC : Except FaultL (List ExL × RdL) → Except FaultL (ExL × RdL)
  | .ok x => .ok (.mk 4 [] x.1, x.2)
  | .error z => .error z
theorem chO_bad (t : TermL) (ws : List (List UInt8)) (acc : List ExL) (z : FaultL) : chO t ws acc (.error z) = .error z := by
  cases ws <;> rfl
theorem choice_ch (t : TermL) (o : StL) : runO (choiceF t) o = finC (chO t ifWs [] o) := by
  cases o with
  | error z => rfl
  | ok st =>
    show choiceF t st = _
    unfold choiceF exprM ifWs
    rw [chO]
    cases h1 : exprW t st with
    | error z => rfl
    | ok p =>
      obtain ⟨a, s1⟩ := p
      dsimp only
      rw [if_neg (by decide), if_pos rfl]
      cases h2 : mustF 2 [61] s1 with
      | error z => rfl
      | ok s2 =>
        dsimp only
        rw [chO]
        cases h3 : exprW t s2 with
        | error z => rfl
        | ok p =>
          obtain ⟨b, s3⟩ := p
          dsimp only
          rw [if_neg (by decide), if_neg (by decide)]
          cases h4 : mustF 1 kThen s3 with
          | error z => rfl
          | ok s4 =>
            dsimp only
            rw [chO]
            cases h5 : exprW t s4 with
            | error z => rfl
            | ok p =>
              obtain ⟨c, s5⟩ := p
              dsimp only
              rw [if_neg (by decide), if_neg (by decide)]
              cases h6 : mustF 1 kElse s5 with
              | error z => rfl
              | ok s6 =>
                dsimp only
                rw [chO]
                cases h7 : exprW t s6 with
                | error z => rfl
                | ok p => rfl
theorem ch_step {t : TermL} {o : StL} {w : List UInt8} {ws : List (List UInt8)} {acc : List ExL} (xa : ExL) (hw : w = [61] ∨ w.all wordC = true) (hA : ∀ y s, runO (exprW t) o = .ok (y, s) → xa = y) (hT : ∀ s, stO (runO (exprW t) o) = .ok s → TokOk s) :
    chO t ws (acc ++ [xa]) (if w = [] then stO (runO (exprW t) o) else wantS w (stO (runO (exprW t) o))) = chO t (w :: ws) acc o := by
  cases o with
  | error z =>
    show chO t ws _ (if w = [] then .error z else .error z) = _
    rw [ite_self, chO_bad, chO_bad]
  | ok st =>
    rw [chO]
    have e1 : runO (exprW t) (.ok st) = exprW t st := rfl
    rw [e1] at hA hT ⊢
    cases h1 : exprW t st with
    | error z =>
      show chO t ws _ (if w = [] then .error z else .error z) = _
      rw [ite_self, chO_bad]
    | ok p =>
      obtain ⟨a, s1⟩ := p
      have e2 := hA a s1 h1
      subst e2
      have h2 := hT s1 (by rw [h1]; rfl)
      have e3 : stO (.ok (xa, s1)) = .ok s1 := rfl
      rw [e3]
      dsimp only
      by_cases hw0 : w = []
      · rw [if_pos hw0, if_pos hw0]
      · rw [if_neg hw0, if_neg hw0]
        rcases hw with rfl | hw
        · rw [if_pos rfl, want_sign h2 (by decide)]
        · rw [if_neg (by rintro rfl; exact absurd hw (by decide)), want_word h2 hw]
theorem paren_eq {t : TermL} {o : StL} (hT : ∀ s, stO (runO (exprW t) o) = .ok s → TokOk s) : stO (runO (exprM t 2 [41]) o) = wantS [41] (stO (runO (exprW t) o)) ∧ ∀ x, (∀ y s, runO (exprW t) o = .ok (y, s) → x = y) → ∀ y s, runO (exprM t 2 [41]) o = .ok (y, s) → x = y := by
  cases o with
  | error z => exact ⟨rfl, fun x _ y s e => by cases e⟩
  | ok st =>
    have e1 : runO (exprW t) (.ok st) = exprW t st := rfl
    have e2 : runO (exprM t 2 [41]) (.ok st) = exprM t 2 [41] st := rfl
    rw [e1] at hT ⊢
    rw [e2]
    unfold exprM
    cases h1 : exprW t st with
    | error z => exact ⟨rfl, fun x _ y s e => by cases e⟩
    | ok p =>
      obtain ⟨a, s1⟩ := p
      have h2 := hT s1 (by rw [h1]; rfl)
      have e3 : stO (.ok (a, s1)) = .ok s1 := rfl
      rw [e3, want_sign h2 (by decide)]
      dsimp only
      cases h3 : mustF 2 [41] s1 with
      | error z => exact ⟨rfl, fun x _ y s e => by cases e⟩
      | ok s2 => exact ⟨rfl, fun x hx y s e => by rw [hx a s1 rfl]; cases e; rfl⟩
theorem term_bad {d : Nat} {st : RdL} (h : beginsF st = false) : runO (termF d) (.ok st) = .error (st.rem, 50) := by
  cases d with
  | zero => show termF 0 st = _; rw [termF, h]; rfl
  | succ d => show termF (d + 1) st = _; rw [termF, h]; rfl
theorem term_deep {st : RdL} (h : beginsF st = true) : runO (termF 0) (.ok st) = .error (st.rem, 4) := by
  show termF 0 st = _; rw [termF, h]; rfl
def leafO (K : Int) (s : List UInt8) : StL → Except FaultL (ExL × RdL)
  | .ok s1 => .ok (.mk K s [], s1)
  | .error z => .error z
theorem leaf_st (K : Int) (s : List UInt8) (o : StL) : stO (leafO K s o) = o ∧ ∀ y s', leafO K s o = .ok (y, s') → ExL.mk K s [] = y := by
  cases o with
  | ok s1 => exact ⟨rfl, fun y s' e => by cases e; rfl⟩
  | error z => exact ⟨rfl, fun y s' e => by cases e⟩
theorem term_parts {d : Nat} {st : RdL} (h : beginsF st = true) :
    (st.kind = 3 → runO (termF (d + 1)) (.ok st) = leafO 1 st.s (takeF st.rest)) ∧ (st.is 2 [40] = true → runO (termF (d + 1)) (.ok st) = runO (exprM (termF d) 2 [41]) (takeF st.rest)) ∧
    (st.is 1 kIf = true → runO (termF (d + 1)) (.ok st) = runO (choiceF (termF d)) (takeF st.rest)) ∧ (st.is 1 kLet = true → runO (termF (d + 1)) (.ok st) = runO (bindF (termF d)) (takeF st.rest)) ∧
    (st.kind = 1 ∧ nameN st.s = true → runO (termF (d + 1)) (.ok st) = leafO 2 st.s (takeF st.rest)) := by
  have e : runO (termF (d + 1)) (.ok st) = match takeF st.rest with
      | .error e => .error e
      | .ok s1 =>
        if st.kind = 3 then .ok (.mk 1 st.s [], s1)
        else if st.kind = 2 then exprM (termF d) 2 [41] s1
        else if st.s = kIf then choiceF (termF d) s1
        else if st.s = kLet then bindF (termF d) s1
        else .ok (.mk 2 st.s [], s1) := by
    show termF (d + 1) st = _
    rw [termF, if_pos h]
    cases takeF st.rest <;> rfl
  rw [e]
  have is1 : ∀ {k : Nat} {s : List UInt8}, st.is k s = true → st.kind = k ∧ st.s = s := by
    intro k s h
    unfold RdL.is at h
    rw [Bool.and_eq_true, decide_eq_true_eq, beq_iff_eq] at h
    exact h
  cases takeF st.rest with
  | error z => exact ⟨fun _ => rfl, fun _ => rfl, fun _ => rfl, fun _ => rfl, fun _ => rfl⟩
  | ok s1 =>
    refine ⟨fun h => ?_, fun h => ?_, fun h => ?_, fun h => ?_, fun h => ?_⟩
    · dsimp only; rw [if_pos h]; rfl
    · obtain ⟨a, b⟩ := is1 h
      dsimp only; rw [if_neg (by omega), if_pos a]; rfl
    · obtain ⟨a, b⟩ := is1 h
      dsimp only; rw [if_neg (by omega), if_neg (by omega), if_pos b]; rfl
    · obtain ⟨a, b⟩ := is1 h
      dsimp only; rw [if_neg (by omega), if_neg (by omega), if_neg (by rw [b]; decide), if_pos b]; rfl
    · obtain ⟨_, _, hk⟩ := name_parts h.2
      dsimp only; rw [if_neg (by omega), if_neg (by omega), if_neg (key_ne hk (by decide)), if_neg (key_ne hk (by decide))]; rfl
/- in a state with a fault -/
/- up to the condition: the leaves' macros -/
/- a fault is told, nothing is answered -/
set_option maxHeartbeats 8000000 in
set_option maxRecDepth 20000 in
theorem rterm_zero {rb : Nat} {src : List UInt8} (hl : src.length ≤ 8192) : RTermOk (termF 0) 32 rb src := by
  intro w o hr
  cases o with
  | error z =>
    have hal_ := (Chg.refl NoB w).alloc (.cells #[.int .i64 0, .string ⟨#[]⟩, .slice none 0 0] 26)
    have hb_ := heap_alloc_new w (.cells #[.int .i64 0, .string ⟨#[]⟩, .slice none 0 0] 26)
    obtain ⟨b4, hxb_⟩ : ∃ b, b = w.heap.size := ⟨_, rfl⟩
    obtain ⟨w1, hw_⟩ : ∃ w_, w.alloc (.cells #[.int .i64 0, .string ⟨#[]⟩, .slice none 0 0] 26) = w_ := ⟨_, rfl⟩
    have hz_ : w1.heap.size = b4 + 1 := by rw [← hw_, hxb_]; exact alloc_size _ _
    rw [hw_] at hal_ hb_
    rw [← hxb_] at hb_
    have Hw4 := Lib.hid hw_
    have Hx4 := Lib.hid hxb_
    have Ha4 := Lib.hid hal_
    have Hb4 := Lib.hid hb_
    have Hz4 := Lib.hid hz_
    clear hal_ hb_ hxb_ hw_ hz_
    have hr1 := hr.keep Ha4.out
    have Hr1 := Lib.hid hr1
    have Hne4 := Lib.hid (show b4 ≠ rb by have := Hx4.out; have := hr.lt; omega)
    obtain ⟨k, s0, a, b, y, p, h1, h2, h3⟩ := hr1
    obtain ⟨c0, c1, c2, c3, c4, c5, c6⟩ := cell7 h1
    obtain ⟨rfl, rfl, h4⟩ := h3
    have g5 : (z.2 != 0) = true := by rw [bne_iff_ne]; exact h4
    obtain ⟨d0, d1, d2⟩ := var3 Hb4.out
    have fr := row_free Hb4.out
    have HS := set3x Hb4.out
    clear hr h1 h4
    go_enter Tryd.func56, Tryd.ntmps56
    go_upto_region 1 with fail
    rw [Hw4.out, ← Hx4.out]
    go_wp2_with fail
    refine bodyPost_ret (results_cellE rfl _ rfl (run_loadVar_row _ _ _ _ _ _ _ (HS _ _ _).1 (Tryd.underlying26) rfl rfl)) rfl ⟨(Ha4.out.mono fun _ _ h => h.elim).wide (HS _ _ _).2 fun k hk e => by have := Hx4.out; omega, ?_⟩
    exact ⟨Hr1.out.chg (HS _ _ _).2 fun e => Hne4.out e.symm, _, .mk 0 [] [], rfl, ⟨Nat.zero_le _, _, 0, 0, rfl, ExS.nil _ _⟩, fun y s e => by cases e⟩
  | ok st =>
    have Hbad := Lib.hid (term_bad (d := 0) (st := st))
    have hal_ := (Chg.refl NoB w).alloc (.cells #[.int .i64 0, .string ⟨#[]⟩, .slice none 0 0] 26)
    have hb_ := heap_alloc_new w (.cells #[.int .i64 0, .string ⟨#[]⟩, .slice none 0 0] 26)
    obtain ⟨b4, hxb_⟩ : ∃ b, b = w.heap.size := ⟨_, rfl⟩
    obtain ⟨w1, hw_⟩ : ∃ w_, w.alloc (.cells #[.int .i64 0, .string ⟨#[]⟩, .slice none 0 0] 26) = w_ := ⟨_, rfl⟩
    have hz_ : w1.heap.size = b4 + 1 := by rw [← hw_, hxb_]; exact alloc_size _ _
    rw [hw_] at hal_ hb_
    rw [← hxb_] at hb_
    have Hw4 := Lib.hid hw_
    have Hx4 := Lib.hid hxb_
    have Ha4 := Lib.hid hal_
    have Hb4 := Lib.hid hb_
    have Hz4 := Lib.hid hz_
    clear hal_ hb_ hxb_ hw_ hz_
    have hr1 := hr.keep Ha4.out
    have htok := hr1.tok
    obtain ⟨k, s0, a, b, y, p, h1, h2, h3⟩ := hr1
    obtain ⟨rfl, rfl, rfl, rfl, rfl, rfl, h4⟩ := h3
    obtain ⟨c0, c1, c2, c3, c4, c5, c6⟩ := cell7 h1
    have hal_ := (Chg.refl NoB w1).alloc (.cells #[.int .i64 st.kind, .string (tx st.s), .int .i64 ((src.length - st.rem : Nat) : Int), .int .i64 ((src.length - st.rest.length : Nat) : Int)] 42)
    have hb_ := heap_alloc_new w1 (.cells #[.int .i64 st.kind, .string (tx st.s), .int .i64 ((src.length - st.rem : Nat) : Int), .int .i64 ((src.length - st.rest.length : Nat) : Int)] 42)
    obtain ⟨b5, hxb_⟩ : ∃ b, b = w1.heap.size := ⟨_, rfl⟩
    obtain ⟨w2, hw_⟩ : ∃ w_, w1.alloc (.cells #[.int .i64 st.kind, .string (tx st.s), .int .i64 ((src.length - st.rem : Nat) : Int), .int .i64 ((src.length - st.rest.length : Nat) : Int)] 42) = w_ := ⟨_, rfl⟩
    have hz_ : w2.heap.size = b5 + 1 := by rw [← hw_, hxb_]; exact alloc_size _ _
    rw [hw_] at hal_ hb_
    rw [← hxb_] at hb_
    have Hw5 := Lib.hid hw_
    have Hx5 := Lib.hid hxb_
    have Ha5 := Lib.hid hal_
    have Hb5 := Lib.hid hb_
    have Hz5 := Lib.hid hz_
    clear hal_ hb_ hxb_ hw_ hz_
    have h12 := row_kept Ha5.out h1 id
    have hr2 : RuM w2 rb src (.ok st) := ⟨_, _, _, _, _, _, h12, h2, rfl, rfl, rfl, rfl, rfl, rfl, h4⟩
    have Hr := Lib.hid hr2
    have Hc := Lib.hid ((Ha4.out.trans Ha5.out).mono fun _ _ h => h.elim : Chg (fun k => k = rb) w w2)
    obtain ⟨lo, hlo⟩ : ∃ lo, lo = w2.heap.size := ⟨_, rfl⟩
    have Hlw := Lib.hid (show lo ≤ w2.heap.size by omega)
    have Hn5 := Lib.hid (show b4 = w.heap.size ∧ b5 = b4 + 1 ∧ lo = b5 + 1 from ⟨Hx4.out, by rw [Hx5.out, Hz4.out], by rw [hlo, Hz5.out]⟩)
    have Hrl := Lib.hid (show rb < lo by have := Hn5.out; have := hr.lt; omega)
    have Hne4 := Lib.hid (show b4 ≠ rb by have := Hn5.out; have := hr.lt; omega)
    have Hne5 := Lib.hid (show b5 ≠ rb by have := Hn5.out; have := hr.lt; omega)
    have Hsl := Lib.hid h2
    have H4 := Lib.hid (row_kept Ha5.out Hb4.out id)
    have H5 := Lib.hid Hb5.out
    have HF := Lib.hid (fun e (he : e ≠ 0) W (h : Chg NoB w2 W) => rfail_any (hr2.keep h) (src.length - st.rem) st.rem rfl e he)
    have HI1 := Lib.hid (rhas_any hr2 [40])
    have HI2 := Lib.hid (rhas_any hr2 kIf)
    have HI3 := Lib.hid (rhas_any hr2 kLet)
    rw [has_sign htok (by decide)] at HI1
    rw [has_word htok (by decide)] at HI2 HI3
    have HN := Lib.hid (fun W => rnam_any st.s W (by omega))
    have Hb := Lib.hid (show beginsF st = (decide (st.kind = 3) || st.is 2 [40] || st.is 1 kIf || st.is 1 kLet || (decide (st.kind = 1) && nameN st.s)) from rfl)
    obtain ⟨t0, t1, t2, t3⟩ := var4 Hb5.out
    clear hr h1 h12 h4 htok hlo hr2
    go_enter Tryd.func56, Tryd.ntmps56
    go_upto_region 1 with fail
    rw [Hw4.out, ← Hx4.out]
    go_upto_region 4 with fail
    rw [Hw5.out, ← Hx5.out]
    clear c0 c1 c2 c3 c4 c5 c6
    by_cases h3 : st.kind = 3
    · have hb3 : ((st.kind : Int) != 3) = false := by simp [h3]
      rw [decide_eq_true h3, Bool.true_or, Bool.true_or, Bool.true_or, Bool.true_or] at Hb
      have H3 := Lib.hid h3
      clear h3 HI1 HI2 HI3 HN
      go_wp2_with fail
      refine (HF.out 4 (by decide) _ (Chg.refl _ _)).mono ?_
      rintro e w5 ⟨hc, rfl, hr5⟩
      have HQ := Lib.hid (term_deep Hb.out)
      have h4 := row_kept hc H4.out Hne4.out
      have Hr5 := Lib.hid hr5
      have Hc5 := Lib.hid (Hc.out.trans hc)
      have Hl5 := Lib.hid (Nat.le_trans Hlw.out hc.size)
      clear hc hr5 Hr Hlw Hc H5 H4 t0 t1 t2 t3
      obtain ⟨d0, d1, d2⟩ := var3 h4
      have fr := row_free h4
      have HS := set3x h4
      clear h4
      go_wp2_with fail
      refine bodyPost_ret (results_cellE rfl _ rfl (run_loadVar_row _ _ _ _ _ _ _ (HS _ _ _).1 (Tryd.underlying26) rfl rfl)) rfl ⟨Hc5.out.wide (HS _ _ _).2 fun k hk e => by have := Hn5.out; omega, ?_⟩
      rw [HQ.out]
      exact ⟨Hr5.out.chg (HS _ _ _).2 fun e => Hne4.out e.symm, _, .mk 0 [] [], rfl, ⟨Nat.zero_le _, _, 0, 0, rfl, ExS.nil _ _⟩, fun y s e => by cases e⟩
    · have hb3 : ((st.kind : Int) != 3) = true := by rw [bne_iff_ne]; omega
      rw [decide_eq_false h3, Bool.false_or] at Hb
      clear h3
      cases h1 : st.is 2 [40] with
      | true =>
        rw [h1] at HI1 Hb
        rw [Bool.true_or, Bool.true_or, Bool.true_or] at Hb
        have H3 := Lib.hid h1
        clear HI2 HI3 HN h1
        go_wp2_with fail
        refine HI1.out.mono ?_
        rintro e w3 ⟨rfl, rfl⟩
        go_wp2_with fail
        refine (HF.out 4 (by decide) _ (Chg.refl _ _)).mono ?_
        rintro e w5 ⟨hc, rfl, hr5⟩
        have HQ := Lib.hid (term_deep Hb.out)
        have h4 := row_kept hc H4.out Hne4.out
        have Hr5 := Lib.hid hr5
        have Hc5 := Lib.hid (Hc.out.trans hc)
        have Hl5 := Lib.hid (Nat.le_trans Hlw.out hc.size)
        clear hc hr5 Hr Hlw Hc H5 H4 t0 t1 t2 t3
        obtain ⟨d0, d1, d2⟩ := var3 h4
        have fr := row_free h4
        have HS := set3x h4
        clear h4
        go_wp2_with fail
        refine bodyPost_ret (results_cellE rfl _ rfl (run_loadVar_row _ _ _ _ _ _ _ (HS _ _ _).1 (Tryd.underlying26) rfl rfl)) rfl ⟨Hc5.out.wide (HS _ _ _).2 fun k hk e => by have := Hn5.out; omega, ?_⟩
        rw [HQ.out]
        exact ⟨Hr5.out.chg (HS _ _ _).2 fun e => Hne4.out e.symm, _, .mk 0 [] [], rfl, ⟨Nat.zero_le _, _, 0, 0, rfl, ExS.nil _ _⟩, fun y s e => by cases e⟩
      | false =>
        rw [h1] at HI1 Hb
        rw [Bool.false_or] at Hb
        clear h1
        cases h1 : st.is 1 kIf with
        | true =>
          rw [h1] at HI2 Hb
          rw [Bool.true_or, Bool.true_or] at Hb
          have H3 := Lib.hid h1
          clear HI3 HN h1
          go_wp2_with fail
          refine HI1.out.mono ?_
          rintro e w3 ⟨rfl, rfl⟩
          go_wp2_with fail
          refine HI2.out.mono ?_
          rintro e w3 ⟨rfl, rfl⟩
          go_wp2_with fail
          refine (HF.out 4 (by decide) _ (Chg.refl _ _)).mono ?_
          rintro e w5 ⟨hc, rfl, hr5⟩
          have HQ := Lib.hid (term_deep Hb.out)
          have h4 := row_kept hc H4.out Hne4.out
          have Hr5 := Lib.hid hr5
          have Hc5 := Lib.hid (Hc.out.trans hc)
          have Hl5 := Lib.hid (Nat.le_trans Hlw.out hc.size)
          clear hc hr5 Hr Hlw Hc H5 H4 t0 t1 t2 t3
          obtain ⟨d0, d1, d2⟩ := var3 h4
          have fr := row_free h4
          have HS := set3x h4
          clear h4
          go_wp2_with fail
          refine bodyPost_ret (results_cellE rfl _ rfl (run_loadVar_row _ _ _ _ _ _ _ (HS _ _ _).1 (Tryd.underlying26) rfl rfl)) rfl ⟨Hc5.out.wide (HS _ _ _).2 fun k hk e => by have := Hn5.out; omega, ?_⟩
          rw [HQ.out]
          exact ⟨Hr5.out.chg (HS _ _ _).2 fun e => Hne4.out e.symm, _, .mk 0 [] [], rfl, ⟨Nat.zero_le _, _, 0, 0, rfl, ExS.nil _ _⟩, fun y s e => by cases e⟩
        | false =>
          rw [h1] at HI2 Hb
          rw [Bool.false_or] at Hb
          clear h1
          cases h1 : st.is 1 kLet with
          | true =>
            rw [h1] at HI3 Hb
            rw [Bool.true_or] at Hb
            have H3 := Lib.hid h1
            clear HN h1
            go_wp2_with fail
            refine HI1.out.mono ?_
            rintro e w3 ⟨rfl, rfl⟩
            go_wp2_with fail
            refine HI2.out.mono ?_
            rintro e w3 ⟨rfl, rfl⟩
            go_wp2_with fail
            refine HI3.out.mono ?_
            rintro e w3 ⟨rfl, rfl⟩
            go_wp2_with fail
            refine (HF.out 4 (by decide) _ (Chg.refl _ _)).mono ?_
            rintro e w5 ⟨hc, rfl, hr5⟩
            have HQ := Lib.hid (term_deep Hb.out)
            have h4 := row_kept hc H4.out Hne4.out
            have Hr5 := Lib.hid hr5
            have Hc5 := Lib.hid (Hc.out.trans hc)
            have Hl5 := Lib.hid (Nat.le_trans Hlw.out hc.size)
            clear hc hr5 Hr Hlw Hc H5 H4 t0 t1 t2 t3
            obtain ⟨d0, d1, d2⟩ := var3 h4
            have fr := row_free h4
            have HS := set3x h4
            clear h4
            go_wp2_with fail
            refine bodyPost_ret (results_cellE rfl _ rfl (run_loadVar_row _ _ _ _ _ _ _ (HS _ _ _).1 (Tryd.underlying26) rfl rfl)) rfl ⟨Hc5.out.wide (HS _ _ _).2 fun k hk e => by have := Hn5.out; omega, ?_⟩
            rw [HQ.out]
            exact ⟨Hr5.out.chg (HS _ _ _).2 fun e => Hne4.out e.symm, _, .mk 0 [] [], rfl, ⟨Nat.zero_le _, _, 0, 0, rfl, ExS.nil _ _⟩, fun y s e => by cases e⟩
          | false =>
            rw [h1] at HI3 Hb
            rw [Bool.false_or] at Hb
            clear h1
            by_cases hk1 : st.kind = 1
            · have hk1b : ((st.kind : Int) == 1) = true := by simp [hk1]
              rw [decide_eq_true hk1, Bool.true_and] at Hb
              cases hnm : nameN st.s with
              | true =>
                rw [hnm] at HN Hb
                have H3 := Lib.hid (And.intro hk1 hnm)
                clear hk1 hnm
                go_wp2_with fail
                refine HI1.out.mono ?_
                rintro e w3 ⟨rfl, rfl⟩
                go_wp2_with fail
                refine HI2.out.mono ?_
                rintro e w3 ⟨rfl, rfl⟩
                go_wp2_with fail
                refine HI3.out.mono ?_
                rintro e w3 ⟨rfl, rfl⟩
                go_wp2_with fail
                refine (HN.out _).mono ?_
                rintro e w4 ⟨rfl, hcn⟩
                have HF2 := Lib.hid (fun e he => HF.out e he _ hcn)
                replace Hr := Lib.hid (Hr.out.keep hcn)
                replace Hlw := Lib.hid (Nat.le_trans Hlw.out hcn.size)
                replace Hc := Lib.hid (Hc.out.trans (hcn.mono fun _ _ h => h.elim))
                replace H5 := Lib.hid (row_kept hcn H5.out id)
                replace H4 := Lib.hid (row_kept hcn H4.out id)
                clear HF hcn t0 t1 t2 t3 HN HI1 HI2 HI3
                obtain ⟨t0, t1, t2, t3⟩ := var4 H5.out
                go_wp2_with fail
                refine (HF2.out 4 (by decide)).mono ?_
                rintro e w5 ⟨hc, rfl, hr5⟩
                have HQ := Lib.hid (term_deep Hb.out)
                have h4 := row_kept hc H4.out Hne4.out
                have Hr5 := Lib.hid hr5
                have Hc5 := Lib.hid (Hc.out.trans hc)
                have Hl5 := Lib.hid (Nat.le_trans Hlw.out hc.size)
                clear hc hr5 Hr Hlw Hc H5 H4 t0 t1 t2 t3
                obtain ⟨d0, d1, d2⟩ := var3 h4
                have fr := row_free h4
                have HS := set3x h4
                clear h4
                go_wp2_with fail
                refine bodyPost_ret (results_cellE rfl _ rfl (run_loadVar_row _ _ _ _ _ _ _ (HS _ _ _).1 (Tryd.underlying26) rfl rfl)) rfl ⟨Hc5.out.wide (HS _ _ _).2 fun k hk e => by have := Hn5.out; omega, ?_⟩
                rw [HQ.out]
                exact ⟨Hr5.out.chg (HS _ _ _).2 fun e => Hne4.out e.symm, _, .mk 0 [] [], rfl, ⟨Nat.zero_le _, _, 0, 0, rfl, ExS.nil _ _⟩, fun y s e => by cases e⟩
              | false =>
                rw [hnm] at HN Hb
                clear hk1 hnm
                go_wp2_with fail
                refine HI1.out.mono ?_
                rintro e w3 ⟨rfl, rfl⟩
                go_wp2_with fail
                refine HI2.out.mono ?_
                rintro e w3 ⟨rfl, rfl⟩
                go_wp2_with fail
                refine HI3.out.mono ?_
                rintro e w3 ⟨rfl, rfl⟩
                go_wp2_with fail
                refine (HN.out _).mono ?_
                rintro e w4 ⟨rfl, hcn⟩
                have HF2 := Lib.hid (fun e he => HF.out e he _ hcn)
                replace Hr := Lib.hid (Hr.out.keep hcn)
                replace Hlw := Lib.hid (Nat.le_trans Hlw.out hcn.size)
                replace Hc := Lib.hid (Hc.out.trans (hcn.mono fun _ _ h => h.elim))
                replace H5 := Lib.hid (row_kept hcn H5.out id)
                replace H4 := Lib.hid (row_kept hcn H4.out id)
                clear HF hcn t0 t1 t2 t3 HN HI1 HI2 HI3
                obtain ⟨t0, t1, t2, t3⟩ := var4 H5.out
                go_wp2_with fail
                refine (HF2.out 50 (by decide)).mono ?_
                rintro e w5 ⟨hc, rfl, hr5⟩
                have HQ := Lib.hid (Hbad.out Hb.out)
                have h4 := row_kept hc H4.out Hne4.out
                have Hr5 := Lib.hid hr5
                have Hc5 := Lib.hid (Hc.out.trans hc)
                have Hl5 := Lib.hid (Nat.le_trans Hlw.out hc.size)
                clear hc hr5 Hr Hlw Hc H5 H4 t0 t1 t2 t3
                obtain ⟨d0, d1, d2⟩ := var3 h4
                have fr := row_free h4
                have HS := set3x h4
                clear h4
                go_wp2_with fail
                refine bodyPost_ret (results_cellE rfl _ rfl (run_loadVar_row _ _ _ _ _ _ _ (HS _ _ _).1 (Tryd.underlying26) rfl rfl)) rfl ⟨Hc5.out.wide (HS _ _ _).2 fun k hk e => by have := Hn5.out; omega, ?_⟩
                rw [HQ.out]
                exact ⟨Hr5.out.chg (HS _ _ _).2 fun e => Hne4.out e.symm, _, .mk 0 [] [], rfl, ⟨Nat.zero_le _, _, 0, 0, rfl, ExS.nil _ _⟩, fun y s e => by cases e⟩
            · have hk1b : ((st.kind : Int) == 1) = false := by rw [beq_eq_false_iff_ne]; omega
              rw [decide_eq_false hk1, Bool.false_and] at Hb
              clear hk1
              go_wp2_with fail
              refine HI1.out.mono ?_
              rintro e w3 ⟨rfl, rfl⟩
              go_wp2_with fail
              refine HI2.out.mono ?_
              rintro e w3 ⟨rfl, rfl⟩
              go_wp2_with fail
              refine HI3.out.mono ?_
              rintro e w3 ⟨rfl, rfl⟩
              have HF2 := Lib.hid (fun e he => HF.out e he _ (Chg.refl _ _))
              clear HF HI1 HI2 HI3 HN
              go_wp2_with fail
              refine (HF2.out 50 (by decide)).mono ?_
              rintro e w5 ⟨hc, rfl, hr5⟩
              have HQ := Lib.hid (Hbad.out Hb.out)
              have h4 := row_kept hc H4.out Hne4.out
              have Hr5 := Lib.hid hr5
              have Hc5 := Lib.hid (Hc.out.trans hc)
              have Hl5 := Lib.hid (Nat.le_trans Hlw.out hc.size)
              clear hc hr5 Hr Hlw Hc H5 H4 t0 t1 t2 t3
              obtain ⟨d0, d1, d2⟩ := var3 h4
              have fr := row_free h4
              have HS := set3x h4
              clear h4
              go_wp2_with fail
              refine bodyPost_ret (results_cellE rfl _ rfl (run_loadVar_row _ _ _ _ _ _ _ (HS _ _ _).1 (Tryd.underlying26) rfl rfl)) rfl ⟨Hc5.out.wide (HS _ _ _).2 fun k hk e => by have := Hn5.out; omega, ?_⟩
              rw [HQ.out]
              exact ⟨Hr5.out.chg (HS _ _ _).2 fun e => Hne4.out e.symm, _, .mk 0 [] [], rfl, ⟨Nat.zero_le _, _, 0, 0, rfl, ExS.nil _ _⟩, fun y s e => by cases e⟩
/- the token is taken -/
theorem is_parts {st : RdL} {k : Nat} {s : List UInt8} (h : st.is k s = true) : st.kind = k ∧ st.s = s := by
  unfold RdL.is at h
  rw [Bool.and_eq_true, decide_eq_true_eq, beq_iff_eq] at h
  exact h
set_option maxHeartbeats 8000000 in
set_option maxRecDepth 20000 in
theorem rterm_more {d : Nat} {n : Int} {rb : Nat} {src : List UInt8} (hn : 0 ≤ n ∧ n < 32) (he : RExprOk (exprW (termF d)) (n + 1) rb src) (hl : src.length ≤ 8192) : RTermOk (termF (d + 1)) n rb src := by
  have hq1 : IntKind.i64.wrap (n + 1) = n + 1 := by rw [IntKind.wrap_i64]; omega
  have hn32 : (n == 32) = false := by rw [beq_eq_false_iff_ne]; omega
  have Ht := Lib.hid he
  clear he
  intro w o hr
  cases o with
  | error z =>
    have hal_ := (Chg.refl NoB w).alloc (.cells #[.int .i64 0, .string ⟨#[]⟩, .slice none 0 0] 26)
    have hb_ := heap_alloc_new w (.cells #[.int .i64 0, .string ⟨#[]⟩, .slice none 0 0] 26)
    obtain ⟨b4, hxb_⟩ : ∃ b, b = w.heap.size := ⟨_, rfl⟩
    obtain ⟨w1, hw_⟩ : ∃ w_, w.alloc (.cells #[.int .i64 0, .string ⟨#[]⟩, .slice none 0 0] 26) = w_ := ⟨_, rfl⟩
    have hz_ : w1.heap.size = b4 + 1 := by rw [← hw_, hxb_]; exact alloc_size _ _
    rw [hw_] at hal_ hb_
    rw [← hxb_] at hb_
    have Hw4 := Lib.hid hw_
    have Hx4 := Lib.hid hxb_
    have Ha4 := Lib.hid hal_
    have Hb4 := Lib.hid hb_
    have Hz4 := Lib.hid hz_
    clear hal_ hb_ hxb_ hw_ hz_
    have hr1 := hr.keep Ha4.out
    have Hr1 := Lib.hid hr1
    have Hne4 := Lib.hid (show b4 ≠ rb by have := Hx4.out; have := hr.lt; omega)
    obtain ⟨k, s0, a, b, y, p, h1, h2, h3⟩ := hr1
    obtain ⟨c0, c1, c2, c3, c4, c5, c6⟩ := cell7 h1
    obtain ⟨rfl, rfl, h4⟩ := h3
    have g5 : (z.2 != 0) = true := by rw [bne_iff_ne]; exact h4
    obtain ⟨d0, d1, d2⟩ := var3 Hb4.out
    have fr := row_free Hb4.out
    have HS := set3x Hb4.out
    clear hr h1 h4
    go_enter Tryd.func56, Tryd.ntmps56
    go_upto_region 1 with fail
    rw [Hw4.out, ← Hx4.out]
    go_wp2_with fail
    refine bodyPost_ret (results_cellE rfl _ rfl (run_loadVar_row _ _ _ _ _ _ _ (HS _ _ _).1 (Tryd.underlying26) rfl rfl)) rfl ⟨(Ha4.out.mono fun _ _ h => h.elim).wide (HS _ _ _).2 fun k hk e => by have := Hx4.out; omega, ?_⟩
    exact ⟨Hr1.out.chg (HS _ _ _).2 fun e => Hne4.out e.symm, _, .mk 0 [] [], rfl, ⟨Nat.zero_le _, _, 0, 0, rfl, ExS.nil _ _⟩, fun y s e => by cases e⟩
  | ok st =>
    have Hbad := Lib.hid (term_bad (d := d + 1) (st := st))
    have hal_ := (Chg.refl NoB w).alloc (.cells #[.int .i64 0, .string ⟨#[]⟩, .slice none 0 0] 26)
    have hb_ := heap_alloc_new w (.cells #[.int .i64 0, .string ⟨#[]⟩, .slice none 0 0] 26)
    obtain ⟨b4, hxb_⟩ : ∃ b, b = w.heap.size := ⟨_, rfl⟩
    obtain ⟨w1, hw_⟩ : ∃ w_, w.alloc (.cells #[.int .i64 0, .string ⟨#[]⟩, .slice none 0 0] 26) = w_ := ⟨_, rfl⟩
    have hz_ : w1.heap.size = b4 + 1 := by rw [← hw_, hxb_]; exact alloc_size _ _
    rw [hw_] at hal_ hb_
    rw [← hxb_] at hb_
    have Hw4 := Lib.hid hw_
    have Hx4 := Lib.hid hxb_
    have Ha4 := Lib.hid hal_
    have Hb4 := Lib.hid hb_
    have Hz4 := Lib.hid hz_
    clear hal_ hb_ hxb_ hw_ hz_
    have hr1 := hr.keep Ha4.out
    have htok := hr1.tok
    obtain ⟨k, s0, a, b, y, p, h1, h2, h3⟩ := hr1
    obtain ⟨rfl, rfl, rfl, rfl, rfl, rfl, h4⟩ := h3
    obtain ⟨c0, c1, c2, c3, c4, c5, c6⟩ := cell7 h1
    have hal_ := (Chg.refl NoB w1).alloc (.cells #[.int .i64 st.kind, .string (tx st.s), .int .i64 ((src.length - st.rem : Nat) : Int), .int .i64 ((src.length - st.rest.length : Nat) : Int)] 42)
    have hb_ := heap_alloc_new w1 (.cells #[.int .i64 st.kind, .string (tx st.s), .int .i64 ((src.length - st.rem : Nat) : Int), .int .i64 ((src.length - st.rest.length : Nat) : Int)] 42)
    obtain ⟨b5, hxb_⟩ : ∃ b, b = w1.heap.size := ⟨_, rfl⟩
    obtain ⟨w2, hw_⟩ : ∃ w_, w1.alloc (.cells #[.int .i64 st.kind, .string (tx st.s), .int .i64 ((src.length - st.rem : Nat) : Int), .int .i64 ((src.length - st.rest.length : Nat) : Int)] 42) = w_ := ⟨_, rfl⟩
    have hz_ : w2.heap.size = b5 + 1 := by rw [← hw_, hxb_]; exact alloc_size _ _
    rw [hw_] at hal_ hb_
    rw [← hxb_] at hb_
    have Hw5 := Lib.hid hw_
    have Hx5 := Lib.hid hxb_
    have Ha5 := Lib.hid hal_
    have Hb5 := Lib.hid hb_
    have Hz5 := Lib.hid hz_
    clear hal_ hb_ hxb_ hw_ hz_
    have h12 := row_kept Ha5.out h1 id
    have hr2 : RuM w2 rb src (.ok st) := ⟨_, _, _, _, _, _, h12, h2, rfl, rfl, rfl, rfl, rfl, rfl, h4⟩
    have Hr := Lib.hid hr2
    have Hc := Lib.hid ((Ha4.out.trans Ha5.out).mono fun _ _ h => h.elim : Chg (fun k => k = rb) w w2)
    obtain ⟨lo, hlo⟩ : ∃ lo, lo = w2.heap.size := ⟨_, rfl⟩
    have Hlw := Lib.hid (show lo ≤ w2.heap.size by omega)
    have Hn5 := Lib.hid (show b4 = w.heap.size ∧ b5 = b4 + 1 ∧ lo = b5 + 1 from ⟨Hx4.out, by rw [Hx5.out, Hz4.out], by rw [hlo, Hz5.out]⟩)
    have Hrl := Lib.hid (show rb < lo by have := Hn5.out; have := hr.lt; omega)
    have Hne4 := Lib.hid (show b4 ≠ rb by have := Hn5.out; have := hr.lt; omega)
    have Hne5 := Lib.hid (show b5 ≠ rb by have := Hn5.out; have := hr.lt; omega)
    have Hsl := Lib.hid h2
    have H4 := Lib.hid (row_kept Ha5.out Hb4.out id)
    have H5 := Lib.hid Hb5.out
    have HF := Lib.hid (fun e (he : e ≠ 0) W (h : Chg NoB w2 W) => rfail_any (hr2.keep h) (src.length - st.rem) st.rem rfl e he)
    have HI1 := Lib.hid (rhas_any hr2 [40])
    have HI2 := Lib.hid (rhas_any hr2 kIf)
    have HI3 := Lib.hid (rhas_any hr2 kLet)
    rw [has_sign htok (by decide)] at HI1
    rw [has_word htok (by decide)] at HI2 HI3
    have HN := Lib.hid (fun W => rnam_any st.s W (by omega))
    have Hb := Lib.hid (show beginsF st = (decide (st.kind = 3) || st.is 2 [40] || st.is 1 kIf || st.is 1 kLet || (decide (st.kind = 1) && nameN st.s)) from rfl)
    obtain ⟨t0, t1, t2, t3⟩ := var4 Hb5.out
    clear hr h1 h12 h4 htok hlo hr2
    go_enter Tryd.func56, Tryd.ntmps56
    go_upto_region 1 with fail
    rw [Hw4.out, ← Hx4.out]
    go_upto_region 4 with fail
    rw [Hw5.out, ← Hx5.out]
    clear c0 c1 c2 c3 c4 c5 c6
    by_cases h3 : st.kind = 3
    · have hb3 : ((st.kind : Int) != 3) = false := by simp [h3]
      rw [decide_eq_true h3, Bool.true_or, Bool.true_or, Bool.true_or, Bool.true_or] at Hb
      have H3 := Lib.hid h3
      clear h3 HI1 HI2 HI3 HN
      go_wp2_with fail
      have HQ := Lib.hid ((term_parts (d := d) Hb.out).1 H3.out)
      have q0 : ((st.kind : Int) == 3) = true := by simp [H3.out]
      refine (rstep_any Hr.out hl).mono ?_
      rintro e w5 ⟨hc, rfl, hr2⟩
      replace Hr := Lib.hid (show RuM w5 rb src (takeF st.rest) from hr2)
      replace Hlw := Lib.hid (Nat.le_trans Hlw.out hc.size)
      replace Hc := Lib.hid (Hc.out.trans hc)
      replace H5 := Lib.hid (row_kept hc H5.out Hne5.out)
      replace H4 := Lib.hid (row_kept hc H4.out Hne4.out)
      clear hc hr2 t0 t1 t2 t3
      obtain ⟨t0, t1, t2, t3⟩ := var4 H5.out
      have en1 := txQ st.s
      have HL := Lib.hid (leaf_st 1 st.s (takeF st.rest))
      obtain ⟨d0, d1, d2⟩ := var3 H4.out
      have fr := row_free H4.out
      have HS := set3x H4.out
      go_wp2_with fail
      refine bodyPost_ret (results_cellE rfl _ rfl (run_loadVar_row _ _ _ _ _ _ _ (HS _ _ _).1 (Tryd.underlying26) rfl rfl)) rfl ⟨Hc.out.wide (HS _ _ _).2 fun k hk e => by have := Hn5.out; omega, ?_⟩
      rw [HQ.out]
      exact ⟨by rw [HL.out.1]; exact Hr.out.chg (HS _ _ _).2 fun e => Hne4.out e.symm, _, .mk 1 st.s [], rfl, ⟨by have := Hsl.out; show st.s.length ≤ _; unfold maxLen; omega, _, 0, 0, rfl, ExS.nil _ _⟩, HL.out.2⟩
    · have hb3 : ((st.kind : Int) != 3) = true := by rw [bne_iff_ne]; omega
      rw [decide_eq_false h3, Bool.false_or] at Hb
      clear h3
      cases h1 : st.is 2 [40] with
      | true =>
        rw [h1] at HI1 Hb
        rw [Bool.true_or, Bool.true_or, Bool.true_or] at Hb
        have H3 := Lib.hid h1
        clear HI2 HI3 HN h1
        go_wp2_with fail
        refine HI1.out.mono ?_
        rintro e w3 ⟨rfl, rfl⟩
        go_wp2_with fail
        have HQ := Lib.hid ((term_parts (d := d) Hb.out).2.1 H3.out)
        have hks := is_parts H3.out
        have q0 : ((st.kind : Int) == 3) = false := by rw [beq_eq_false_iff_ne]; omega
        have q1 : (st.s == ([40] : List UInt8)) = true := by rw [hks.2]; rfl
        clear hks
        refine (rstep_any Hr.out hl).mono ?_
        rintro e w5 ⟨hc, rfl, hr2⟩
        replace Hr := Lib.hid (show RuM w5 rb src (takeF st.rest) from hr2)
        replace Hlw := Lib.hid (Nat.le_trans Hlw.out hc.size)
        replace Hc := Lib.hid (Hc.out.trans hc)
        replace H5 := Lib.hid (row_kept hc H5.out Hne5.out)
        replace H4 := Lib.hid (row_kept hc H4.out Hne4.out)
        clear hc hr2 t0 t1 t2 t3
        obtain ⟨t0, t1, t2, t3⟩ := var4 H5.out
        have en1 := txQ st.s
        have HT := Lib.hid (Ht.out w5 (takeF st.rest) Hr.out)
        clear Hr
        go_wp2_with fail
        refine HT.out.mono ?_
        rintro e w6 ⟨hc, hr2, v, xa, rfl, hv, hx⟩
        clear HT
        obtain ⟨q6, n6, c6, kb6, ko6, rfl, hxl6, hxs⟩ := hv.shape
        have hal_ := (Chg.refl NoB w6).alloc (.cells #[.int .i64 xa.kind, .string (tx xa.s), .slice q6 n6 c6] 26)
        have hb_ := heap_alloc_new w6 (.cells #[.int .i64 xa.kind, .string (tx xa.s), .slice q6 n6 c6] 26)
        obtain ⟨b6, hxb_⟩ : ∃ b, b = w6.heap.size := ⟨_, rfl⟩
        obtain ⟨w7, hw_⟩ : ∃ w_, w6.alloc (.cells #[.int .i64 xa.kind, .string (tx xa.s), .slice q6 n6 c6] 26) = w_ := ⟨_, rfl⟩
        have hz_ : w7.heap.size = b6 + 1 := by rw [← hw_, hxb_]; exact alloc_size _ _
        rw [hw_] at hal_ hb_
        rw [← hxb_] at hb_
        have Hw6 := Lib.hid hw_
        have Hx6 := Lib.hid hxb_
        have Ha6 := Lib.hid hal_
        have Hb6 := Lib.hid hb_
        have Hz6 := Lib.hid hz_
        clear hal_ hb_ hxb_ hw_ hz_
        have hlw : lo ≤ w5.heap.size := Hlw.out
        have HB6 := Lib.hid (show BoxE w7 lo b6 xa from ⟨_, _, _, _, _, Hb6.out, hxl6, (hxs.keep Ha6.out fun _ _ => id).mono fun k hk => ⟨Nat.le_trans hlw hk.1, Nat.lt_of_lt_of_le hk.2 Ha6.out.size⟩⟩)
        have Hne6 := Lib.hid (show b6 ≠ rb by have := Hx6.out; have := hc.size; have := Hrl.out; omega)
        have Hch := Lib.hid (show Chg (fun k => k = rb) w5 w7 from hc.trans (Ha6.out.mono fun _ _ h => h.elim))
        have Hr := Lib.hid (hr2.keep Ha6.out)
        have HV6 := Lib.hid hx
        replace Hlw := Lib.hid (Nat.le_trans hlw Hch.out.size)
        replace Hc := Lib.hid (Hc.out.trans Hch.out)
        clear hv hxs hr2 hc hlw hx Hb6 hxl6
        have hTa := fun s (e : stO (runO (exprW (termF d)) (takeF st.rest)) = .ok s) => (show RuM w7 rb src (.ok s) by rw [← e]; exact Hr.out).tok
        have HP := Lib.hid (paren_eq hTa)
        clear hTa
        replace H4 := Lib.hid (row_kept Hch.out H4.out Hne4.out)
        have HT := Lib.hid (rwant_any Hr.out hl [41])
        clear Hr t0 t1 t2 t3
        go_upto_region 15 with fail
        rw [Hw6.out, ← Hx6.out]
        go_wp2_with fail
        refine HT.out.mono ?_
        rintro e w9 ⟨hc, rfl, hr2⟩
        have Hr := Lib.hid hr2
        replace HB6 := Lib.hid (HB6.out.step hc Hrl.out Hne6.out)
        replace Hlw := Lib.hid (Nat.le_trans Hlw.out hc.size)
        replace Hc := Lib.hid (Hc.out.trans hc)
        replace H4 := Lib.hid (row_kept hc H4.out Hne4.out)
        clear hc hr2 HT
        obtain ⟨q6, n6, c6, kb6, ko6, h6, y6, z6⟩ := HB6.out
        obtain ⟨u60, u61, u62⟩ := var3 h6
        obtain ⟨d0, d1, d2⟩ := var3 H4.out
        have fr := row_free H4.out
        have HS := set3x H4.out
        have Hz6 := Lib.hid z6
        have HX := Lib.hid (HP.out.2 xa HV6.out)
        clear h6 z6
        go_wp2_with fail
        refine bodyPost_ret (results_cellE rfl _ rfl (run_loadVar_row _ _ _ _ _ _ _ (HS _ _ _).1 (Tryd.underlying26) rfl rfl)) rfl ⟨Hc.out.wide (HS _ _ _).2 fun k hk e => by have := Hn5.out; omega, ?_⟩
        rw [HQ.out]
        refine ⟨by rw [HP.out.1]; exact Hr.out.chg (HS _ _ _).2 fun e => Hne4.out e.symm, _, xa, rfl, ⟨y6, _, kb6, ko6, rfl, (Hz6.out.keep (HS _ _ _).2 fun k hk e => by have := Hn5.out; omega).mono fun k hk => ⟨by have := Hn5.out; omega, Nat.lt_of_lt_of_le hk.2 (HS _ _ _).2.size⟩⟩, HX.out⟩
      | false =>
        rw [h1] at HI1 Hb
        rw [Bool.false_or] at Hb
        clear h1
        cases h1 : st.is 1 kIf with
        | true =>
          rw [h1] at HI2 Hb
          rw [Bool.true_or, Bool.true_or] at Hb
          have H3 := Lib.hid h1
          clear HI3 HN h1
          go_wp2_with fail
          refine HI1.out.mono ?_
          rintro e w3 ⟨rfl, rfl⟩
          go_wp2_with fail
          refine HI2.out.mono ?_
          rintro e w3 ⟨rfl, rfl⟩
          go_wp2_with fail
          have HQ := Lib.hid ((term_parts (d := d) Hb.out).2.2.1 H3.out)
          have hks := is_parts H3.out
          have q0 : ((st.kind : Int) == 3) = false := by rw [beq_eq_false_iff_ne]; omega
          have q1 : (st.s == ([40] : List UInt8)) = false := by rw [hks.2]; rfl
          have q2 : (st.s == ([105, 102] : List UInt8)) = true := by rw [hks.2]; rfl
          clear hks
          refine (rstep_any Hr.out hl).mono ?_
          rintro e w5 ⟨hc, rfl, hr2⟩
          replace Hr := Lib.hid (show RuM w5 rb src (takeF st.rest) from hr2)
          replace Hlw := Lib.hid (Nat.le_trans Hlw.out hc.size)
          replace Hc := Lib.hid (Hc.out.trans hc)
          replace H5 := Lib.hid (row_kept hc H5.out Hne5.out)
          replace H4 := Lib.hid (row_kept hc H4.out Hne4.out)
          clear hc hr2 t0 t1 t2 t3
          obtain ⟨t0, t1, t2, t3⟩ := var4 H5.out
          have en1 := txQ st.s
          have HQ2 := Lib.hid (HQ.out.trans (choice_ch (termF d) (takeF st.rest)))
          have hal_ := (Chg.refl NoB w5).alloc (.cells #[.int .i64 4, .string ⟨#[]⟩, .slice none 0 0] 26)
          have hb_ := heap_alloc_new w5 (.cells #[.int .i64 4, .string ⟨#[]⟩, .slice none 0 0] 26)
          obtain ⟨b7, hxb_⟩ : ∃ b, b = w5.heap.size := ⟨_, rfl⟩
          obtain ⟨w6, hw_⟩ : ∃ w_, w5.alloc (.cells #[.int .i64 4, .string ⟨#[]⟩, .slice none 0 0] 26) = w_ := ⟨_, rfl⟩
          have hz_ : w6.heap.size = b7 + 1 := by rw [← hw_, hxb_]; exact alloc_size _ _
          rw [hw_] at hal_ hb_
          rw [← hxb_] at hb_
          have Hw7 := Lib.hid hw_
          have Hx7 := Lib.hid hxb_
          have Ha7 := Lib.hid hal_
          have Hb7 := Lib.hid hb_
          have Hz7 := Lib.hid hz_
          clear hal_ hb_ hxb_ hw_ hz_
          have hal_ := (Chg.refl NoB w6).alloc (.cells #[.string ⟨#[61]⟩, .string ⟨#[116, 104, 101, 110]⟩, .string ⟨#[101, 108, 115, 101]⟩, .string ⟨#[]⟩] 9)
          have hb_ := heap_alloc_new w6 (.cells #[.string ⟨#[61]⟩, .string ⟨#[116, 104, 101, 110]⟩, .string ⟨#[101, 108, 115, 101]⟩, .string ⟨#[]⟩] 9)
          obtain ⟨b84, hxb_⟩ : ∃ b, b = w6.heap.size := ⟨_, rfl⟩
          obtain ⟨w7, hw_⟩ : ∃ w_, w6.alloc (.cells #[.string ⟨#[61]⟩, .string ⟨#[116, 104, 101, 110]⟩, .string ⟨#[101, 108, 115, 101]⟩, .string ⟨#[]⟩] 9) = w_ := ⟨_, rfl⟩
          have hz_ : w7.heap.size = b84 + 1 := by rw [← hw_, hxb_]; exact alloc_size _ _
          rw [hw_] at hal_ hb_
          rw [← hxb_] at hb_
          have Hw84 := Lib.hid hw_
          have Hx84 := Lib.hid hxb_
          have Ha84 := Lib.hid hal_
          have Hb84 := Lib.hid hb_
          have Hz84 := Lib.hid hz_
          clear hal_ hb_ hxb_ hw_ hz_
          obtain ⟨l2, hl2⟩ : ∃ l, l = w7.heap.size := ⟨_, rfl⟩
          have Hn7 := Lib.hid (show lo ≤ b7 ∧ b84 = b7 + 1 ∧ l2 = b84 + 1 ∧ b84 < w7.heap.size from ⟨by rw [Hx7.out]; exact Hlw.out, by rw [Hx84.out, Hz7.out], by rw [hl2, Hz84.out], by rw [Hz84.out]; omega⟩)
          have hb84 : b84 = b7 + 1 := Hn7.out.2.1
          have Hl2 := Lib.hid (show l2 ≤ w7.heap.size by omega)
          have Hr7 := Lib.hid ((Hr.out.keep Ha7.out).keep Ha84.out)
          have H47 := Lib.hid (row_kept Ha84.out (row_kept Ha7.out H4.out id) id)
          have H77 := Lib.hid (row_kept Ha84.out Hb7.out id)
          have Hc7 := Lib.hid ((Hc.out.trans (Ha7.out.mono fun _ _ h => h.elim)).trans (Ha84.out.mono fun _ _ h => h.elim))
          go_wp2_with fail
          rw [Hw7.out, ← Hx7.out, ← hb84, Hw84.out]
          clear hb84 hl2 Hr H4 H5 Hc t0 t1 t2 t3
          go_loopw [86] (fun iv wr => ∃ (i : Nat) (acc : List ExL) (oo : StL) (v : Value), iv = .int .i64 (i : Nat) ∧ i ≤ 4 ∧ acc.length = i ∧ chO (termF d) (ifWs.drop i) acc oo = chO (termF d) ifWs [] (takeF st.rest) ∧ RuM wr rb src oo ∧ Eb wr l2 v acc ∧ wr.heap[b7]? = some (.cells #[.int .i64 4, .string ⟨#[]⟩, v] 26 (0, 0)) ∧ wr.heap[b4]? = some (.cells #[.int .i64 0, .string ⟨#[]⟩, .slice none 0 0] 26 (0, 0)) ∧ wr.heap[b84]? = some (.cells #[.string ⟨#[61]⟩, .string ⟨#[116, 104, 101, 110]⟩, .string ⟨#[101, 108, 115, 101]⟩, .string ⟨#[]⟩] 9 (0, 0)) ∧ Chg (fun k => k = rb) w wr) (fun iv _ => 4 - (intOf iv).toNat)
          case atStart => exact ⟨0, [], takeF st.rest, _, rfl, by decide, rfl, rfl, Hr7.out, Eb.nil _ _ Hl2.out, H77.out, H47.out, Hb84.out, Hc7.out⟩
          case round =>
            obtain ⟨i, acc, oo, v, rfl, hi, hacc, hm, hr, hE, h7, h4, h84, hc⟩ := hrel
            obtain ⟨qa, na, ca, rfl⟩ := hE.shape2
            have Hr := Lib.hid hr
            have HE := Lib.hid hE
            have H7 := Lib.hid h7
            have H4 := Lib.hid h4
            have H84 := Lib.hid h84
            have Hc := Lib.hid hc
            have Hm := Lib.hid hm
            have Hacc := Lib.hid hacc
            clear hr hE h4 hc hm hacc Hr7 H77 H47 Hc7
            obtain ⟨f0, f1, f2⟩ := var3 h7
            by_cases hlt : i < 4
            · have hx0 : wr.cell? ⟨b84, i, none⟩ = some (.string (tx (ifWs.getD i []))) := by
                rw [cell_of_row wr b84 i _ _ (0, 0) h84]
                have hh : i = 0 ∨ i = 1 ∨ i = 2 ∨ i = 3 := by omega
                rcases hh with rfl | rfl | rfl | rfl <;> rfl
              have hwp : (ifWs.getD i [] = [61] ∨ (ifWs.getD i []).all wordC = true) ∧ ifWs.drop i = ifWs.getD i [] :: ifWs.drop (i + 1) := by
                have hh : i = 0 ∨ i = 1 ∨ i = 2 ∨ i = 3 := by omega
                rcases hh with rfl | rfl | rfl | rfl
                · exact ⟨.inl rfl, rfl⟩
                · exact ⟨.inr (by decide), rfl⟩
                · exact ⟨.inr (by decide), rfl⟩
                · exact ⟨.inr (by decide), rfl⟩
              rw [hwp.2] at Hm
              generalize ifWs.getD i [] = wd at *
              have Hwd := Lib.hid hwp.1
              have HT := Lib.hid (Ht.out wr oo Hr.out)
              clear hwp h7 h84 Hr
              go_wp2_with fail
              refine HT.out.mono ?_
              rintro e w8 ⟨hc8, hr8, v8, xa, rfl, hv, hx⟩
              clear HT
              obtain ⟨q10, n10, c10, kb10, ko10, rfl, hxl, hxs⟩ := hv.shape
              have HE8 := Lib.hid (HE.out.keep hc8 fun k _ h e => by have := Hn7.out; have := Hrl.out; omega)
              have HN := Lib.hid (fun k hk => (HE.out.lt k hk).2)
              have Hob := Lib.hid (fun k hk => (HE.out.lt k hk).1)
              have Hlo := Lib.hid HE.out.1
              have Hz8 := Lib.hid hc8.size
              have H78 := Lib.hid (row_kept hc8 H7.out (by have := Hn7.out; have := Hrl.out; omega))
              have H48 := Lib.hid (row_kept hc8 H4.out Hne4.out)
              have H848 := Lib.hid (row_kept hc8 H84.out (by have := Hn7.out; have := Hrl.out; omega))
              have Hc8 := Lib.hid (Hc.out.trans hc8)
              have Hr8 := Lib.hid hr8
              have Hxs := Lib.hid hxs
              have HM := Lib.hid ((ch_step (ws := ifWs.drop (i + 1)) (acc := acc) xa Hwd.out hx fun s e => (show RuM w8 rb src (.ok s) by rw [← e]; exact hr8).tok).trans Hm.out)
              clear hc8 hr8 hv hx hxs HE H7 H4 H84 Hc f0 f1 f2 hx0
              have hal_ := (Chg.refl NoB w8).alloc (.cells #[.int .i64 xa.kind, .string (tx xa.s), .slice q10 n10 c10] 26)
              have hb_ := heap_alloc_new w8 (.cells #[.int .i64 xa.kind, .string (tx xa.s), .slice q10 n10 c10] 26)
              obtain ⟨b10, hxb_⟩ : ∃ b, b = w8.heap.size := ⟨_, rfl⟩
              obtain ⟨w9, hw_⟩ : ∃ w_, w8.alloc (.cells #[.int .i64 xa.kind, .string (tx xa.s), .slice q10 n10 c10] 26) = w_ := ⟨_, rfl⟩
              have hz_ : w9.heap.size = b10 + 1 := by rw [← hw_, hxb_]; exact alloc_size _ _
              rw [hw_] at hal_ hb_
              rw [← hxb_] at hb_
              have Hw10 := Lib.hid hw_
              have Hx10 := Lib.hid hxb_
              have Ha10 := Lib.hid hal_
              have Hb10 := Lib.hid hb_
              have Hz10 := Lib.hid hz_
              clear hal_ hb_ hxb_ hw_ hz_
              have hal_ := (Chg.refl NoB w9).alloc (.cells #[.int .i64 xa.kind, .string (tx xa.s), .slice q10 n10 c10] 26)
              have hb_ := heap_alloc_new w9 (.cells #[.int .i64 xa.kind, .string (tx xa.s), .slice q10 n10 c10] 26)
              obtain ⟨b97, hxb_⟩ : ∃ b, b = w9.heap.size := ⟨_, rfl⟩
              obtain ⟨w10, hw_⟩ : ∃ w_, w9.alloc (.cells #[.int .i64 xa.kind, .string (tx xa.s), .slice q10 n10 c10] 26) = w_ := ⟨_, rfl⟩
              have hz_ : w10.heap.size = b97 + 1 := by rw [← hw_, hxb_]; exact alloc_size _ _
              rw [hw_] at hal_ hb_
              rw [← hxb_] at hb_
              have Hw97 := Lib.hid hw_
              have Hx97 := Lib.hid hxb_
              have Ha97 := Lib.hid hal_
              have Hb97 := Lib.hid hb_
              have Hz97 := Lib.hid hz_
              clear hal_ hb_ hxb_ hw_ hz_
              obtain ⟨f0, f1, f2⟩ := var3 (row_kept Ha10.out H78.out id)
              obtain ⟨g0, g1, g2⟩ := var3 Hb10.out
              have hnb : acc.length + 1 ≤ 1048576 := by rw [Hacc.out]; omega
              go_upto_region 23 with fail
              rw [Hw10.out, ← Hx10.out]
              go_upto_region 24 with (at_builtin; go_loud (rw [← Hx97.out, Hw97.out]); go_loud (refine wpList_ex (w := w8) (v := .slice qa na ca) (y := xa) (N := wr.heap.size) rfl _ _ rfl HE8.out HN.out Hlo.out Hz8.out hxl Hxs.out (Ha10.out.trans Ha97.out) rfl rfl Hb97.out hnb ?_); intro v12 w12 hE12 hc12; obtain ⟨q12, n12, c12, rfl⟩ := hE12.shape2; have hS7 : ¬ (Value.slice qa na ca).ownBlock = some b7 := (fun e => by have := Hob.out b7 e; have := Hn7.out; omega); have h712 := row_kept hc12 (row_kept Ha97.out (row_kept Ha10.out H78.out id) id) hS7; obtain ⟨h0, h1', h2'⟩ := var3 h712; have fr12 := row_free h712)
              have hcF := (Chg.refl (fun k => k = b7) w12).setCell (p := ⟨b7, 2, none⟩) (.inl rfl) (.slice q12 n12 c12)
              have hrF := heap_set h712 (i := 2) (.slice q12 n12 c12)
              have hS1 : ∀ b : Nat, b < l2 → ¬ (Value.slice qa na ca).ownBlock = some b := fun b h1 h2 => by have := Hob.out b h2; omega
              have hcx := (Ha10.out.trans Ha97.out)
              have Hr13 := Lib.hid (((Hr8.out.keep hcx).chg hc12 (hS1 rb (by have := Hn7.out; have := Hrl.out; omega))).chg hcF fun e => by have := Hn7.out; have := Hrl.out; omega)
              have H413 := Lib.hid (row_kept hcF (row_kept hc12 (row_kept hcx H48.out id) (hS1 b4 (by have := Hn7.out; have := Hn5.out; omega))) (by have := Hn7.out; have := Hn5.out; omega))
              have H8413 := Lib.hid (row_kept hcF (row_kept hc12 (row_kept hcx H848.out id) (hS1 b84 (by have := Hn7.out; omega))) (by have := Hn7.out; omega))
              have Hc13 := Lib.hid (((Hc8.out.trans (hcx.mono fun _ _ h => h.elim)).wide hc12 fun k hk e => by have := Hob.out k e; have := Hn7.out; have := Hn5.out; omega).wide hcF fun k hk e => by have := Hn7.out; have := Hn5.out; omega)
              have HE13 := Lib.hid (hE12.keep hcF fun k _ h e => by have := Hn7.out; omega)
              have H713 := Lib.hid hrF
              have Hla := Lib.hid (show (acc ++ [xa]).length = i + 1 by rw [List.length_append, Hacc.out]; rfl)
              have en2 := txQ wd
              clear hcF hrF hS1 hcx hE12 hc12 hS7 h712 h0 h1' h2' fr12 f0 f1 f2 g0 g1 g2 Hr8 H48 H848 Hc8 HE8 H78 Hxs Hm
              generalize w12.setCell ⟨b7, 2, none⟩ (.slice q12 n12 c12) = w13 at *
              by_cases hw0 : wd = []
              · have hb0 : (wd == ([] : List UInt8)) = true := by rw [hw0]; rfl
                have hb1 : (wd != ([] : List UInt8)) = false := by rw [hw0]; rfl
                rw [if_pos hw0] at HM
                clear hw0
                go_wp2_with fail
                go_roundw
                case rel => exact ⟨i + 1, acc ++ [xa], _, _, by go_num, by omega, Hla.out, HM.out, Hr13.out, HE13.out, H713.out, H413.out, H8413.out, Hc13.out⟩
                case measure => simp [intOf]; omega
              · have hb0 : (wd == ([] : List UInt8)) = false := by rw [beq_eq_false_iff_ne]; exact hw0
                have hb1 : (wd != ([] : List UInt8)) = true := by rw [bne_iff_ne]; exact hw0
                rw [if_neg hw0] at HM
                clear hw0
                have HT := Lib.hid (rwant_any Hr13.out hl wd)
                clear Hr13
                go_wp2_with fail
                refine HT.out.mono ?_
                rintro e w14 ⟨hc, rfl, hr14⟩
                have Hr14 := Lib.hid hr14
                have HE14 := Lib.hid (HE13.out.keep hc fun k _ h e => by have := Hn7.out; have := Hrl.out; omega)
                have H714 := Lib.hid (row_kept hc H713.out (by have := Hn7.out; have := Hrl.out; omega))
                have H414 := Lib.hid (row_kept hc H413.out Hne4.out)
                have H8414 := Lib.hid (row_kept hc H8413.out (by have := Hn7.out; have := Hrl.out; omega))
                have Hc14 := Lib.hid (Hc13.out.trans hc)
                clear hc hr14 HT HE13 H713 H413 H8413 Hc13
                go_wp2_with fail
                go_roundw
                case rel => exact ⟨i + 1, acc ++ [xa], _, _, by go_num, by omega, Hla.out, HM.out, Hr14.out, HE14.out, H714.out, H414.out, H8414.out, Hc14.out⟩
                case measure => simp [intOf]; omega
            · obtain rfl : i = 4 := by omega
              have HR := Lib.hid (show stO (runO (termF (d + 1)) (.ok st)) = oo ∧ ∀ y s, runO (termF (d + 1)) (.ok st) = .ok (y, s) → (ExL.mk 4 [] acc) = y from by
                rw [HQ2.out, ← Hm.out]
                cases oo with
                | error z => exact ⟨rfl, fun y s e => by cases e⟩
                | ok s1 => exact ⟨rfl, fun y s e => by cases e; rfl⟩)
              obtain ⟨kb2, ko2, hys⟩ := HE.out.nds
              have Hys := Lib.hid hys
              have Hlo := Lib.hid HE.out.1
              obtain ⟨d0, d1, d2⟩ := var3 H4.out
              have fr := row_free H4.out
              have HS := set3x H4.out
              clear hys h7 h84 Hm
              go_wp2_with fail
              refine bodyPost_ret (results_cellE rfl _ rfl (run_loadVar_row _ _ _ _ _ _ _ (HS _ _ _).1 (Tryd.underlying26) rfl rfl)) rfl ⟨Hc.out.wide (HS _ _ _).2 fun k hk e => by have := Hn5.out; omega, ?_⟩
              refine ⟨by rw [HR.out.1]; exact Hr.out.chg (HS _ _ _).2 fun e => Hne4.out e.symm, _, .mk 4 [] acc, rfl, ⟨Nat.zero_le _, _, kb2, ko2, rfl, (Hys.out.keep (HS _ _ _).2 fun k hk e => by have := Hn5.out; have := Hn7.out; omega).mono fun k hk => ⟨by have := Hn5.out; have := Hn7.out; omega, Nat.lt_of_lt_of_le hk.2 (HS _ _ _).2.size⟩⟩, HR.out.2⟩
        | false =>
          rw [h1] at HI2 Hb
          rw [Bool.false_or] at Hb
          clear h1
          cases h1 : st.is 1 kLet with
          | true =>
            rw [h1] at HI3 Hb
            rw [Bool.true_or] at Hb
            have H3 := Lib.hid h1
            clear HN h1
            go_wp2_with fail
            refine HI1.out.mono ?_
            rintro e w3 ⟨rfl, rfl⟩
            go_wp2_with fail
            refine HI2.out.mono ?_
            rintro e w3 ⟨rfl, rfl⟩
            go_wp2_with fail
            refine HI3.out.mono ?_
            rintro e w3 ⟨rfl, rfl⟩
            go_wp2_with fail
            have HQ := Lib.hid ((term_parts (d := d) Hb.out).2.2.2.1 H3.out)
            have hks := is_parts H3.out
            have q0 : ((st.kind : Int) == 3) = false := by rw [beq_eq_false_iff_ne]; omega
            have q1 : (st.s == ([40] : List UInt8)) = false := by rw [hks.2]; rfl
            have q2 : (st.s == ([105, 102] : List UInt8)) = false := by rw [hks.2]; rfl
            have q3 : (st.s == ([108, 101, 116] : List UInt8)) = true := by rw [hks.2]; rfl
            clear hks
            refine (rstep_any Hr.out hl).mono ?_
            rintro e w5 ⟨hc, rfl, hr2⟩
            replace Hr := Lib.hid (show RuM w5 rb src (takeF st.rest) from hr2)
            replace Hlw := Lib.hid (Nat.le_trans Hlw.out hc.size)
            replace Hc := Lib.hid (Hc.out.trans hc)
            replace H5 := Lib.hid (row_kept hc H5.out Hne5.out)
            replace H4 := Lib.hid (row_kept hc H4.out Hne4.out)
            clear hc hr2 t0 t1 t2 t3
            obtain ⟨t0, t1, t2, t3⟩ := var4 H5.out
            have en1 := txQ st.s
            have HT := Lib.hid (rlet_of Ht.out hl hq1 w5 (takeF st.rest) Hr.out)
            clear Hr
            go_wp2_with fail
            refine HT.out.mono ?_
            rintro e w6 ⟨hc, hr6, v, x, rfl, hv, hx⟩
            obtain ⟨q6, n6, c6, kb6, ko6, rfl, hxl, hxs⟩ := hv.shape
            have h4 := row_kept hc H4.out Hne4.out
            obtain ⟨d0, d1, d2⟩ := var3 h4
            have fr := row_free h4
            have HS := set3x h4
            have Hc6 := Lib.hid (Hc.out.trans hc)
            have Hr6 := Lib.hid hr6
            have Hxs := Lib.hid hxs
            have HX := Lib.hid hx
            have Hz := Lib.hid (And.intro Hlw.out hc.size)
            clear hc hr6 hxs hx hv h4 t0 t1 t2 t3 H4 H5
            go_wp2_with fail
            refine bodyPost_ret (results_cellE rfl _ rfl (run_loadVar_row _ _ _ _ _ _ _ (HS _ _ _).1 (Tryd.underlying26) rfl rfl)) rfl ⟨Hc6.out.wide (HS _ _ _).2 fun k hk e => by have := Hn5.out; omega, ?_⟩
            rw [HQ.out]
            refine ⟨Hr6.out.chg (HS _ _ _).2 fun e => Hne4.out e.symm, _, x, rfl, ⟨hxl, _, kb6, ko6, rfl, (Hxs.out.keep (HS _ _ _).2 fun k hk e => by have := Hn5.out; have := Hz.out; omega).mono fun k hk => ⟨by have := Hn5.out; have := Hz.out; omega, Nat.lt_of_lt_of_le hk.2 (HS _ _ _).2.size⟩⟩, HX.out⟩
          | false =>
            rw [h1] at HI3 Hb
            rw [Bool.false_or] at Hb
            clear h1
            by_cases hk1 : st.kind = 1
            · have hk1b : ((st.kind : Int) == 1) = true := by simp [hk1]
              rw [decide_eq_true hk1, Bool.true_and] at Hb
              cases hnm : nameN st.s with
              | true =>
                rw [hnm] at HN Hb
                have H3 := Lib.hid (And.intro hk1 hnm)
                clear hk1 hnm
                go_wp2_with fail
                refine HI1.out.mono ?_
                rintro e w3 ⟨rfl, rfl⟩
                go_wp2_with fail
                refine HI2.out.mono ?_
                rintro e w3 ⟨rfl, rfl⟩
                go_wp2_with fail
                refine HI3.out.mono ?_
                rintro e w3 ⟨rfl, rfl⟩
                go_wp2_with fail
                refine (HN.out _).mono ?_
                rintro e w4 ⟨rfl, hcn⟩
                have HF2 := Lib.hid (fun e he => HF.out e he _ hcn)
                replace Hr := Lib.hid (Hr.out.keep hcn)
                replace Hlw := Lib.hid (Nat.le_trans Hlw.out hcn.size)
                replace Hc := Lib.hid (Hc.out.trans (hcn.mono fun _ _ h => h.elim))
                replace H5 := Lib.hid (row_kept hcn H5.out id)
                replace H4 := Lib.hid (row_kept hcn H4.out id)
                clear HF hcn t0 t1 t2 t3 HN HI1 HI2 HI3
                obtain ⟨t0, t1, t2, t3⟩ := var4 H5.out
                go_wp2_with fail
                have HQ := Lib.hid ((term_parts (d := d) Hb.out).2.2.2.2 H3.out)
                have q0 : ((st.kind : Int) == 3) = false := by rw [beq_eq_false_iff_ne]; have := H3.out.1; omega
                obtain ⟨_, nw, nk⟩ := name_parts H3.out.2
                have q1 : (st.s == ([40] : List UInt8)) = false := by rw [beq_eq_false_iff_ne]; intro e; rw [e] at nw; exact absurd nw (by decide)
                have q2 : (st.s == ([105, 102] : List UInt8)) = false := by rw [beq_eq_false_iff_ne]; exact key_ne nk (by decide)
                have q3 : (st.s == ([108, 101, 116] : List UInt8)) = false := by rw [beq_eq_false_iff_ne]; exact key_ne nk (by decide)
                clear nw nk
                refine (rstep_any Hr.out hl).mono ?_
                rintro e w5 ⟨hc, rfl, hr2⟩
                replace Hr := Lib.hid (show RuM w5 rb src (takeF st.rest) from hr2)
                replace Hlw := Lib.hid (Nat.le_trans Hlw.out hc.size)
                replace Hc := Lib.hid (Hc.out.trans hc)
                replace H5 := Lib.hid (row_kept hc H5.out Hne5.out)
                replace H4 := Lib.hid (row_kept hc H4.out Hne4.out)
                clear hc hr2 t0 t1 t2 t3
                obtain ⟨t0, t1, t2, t3⟩ := var4 H5.out
                have en1 := txQ st.s
                have HL := Lib.hid (leaf_st 2 st.s (takeF st.rest))
                obtain ⟨d0, d1, d2⟩ := var3 H4.out
                have fr := row_free H4.out
                have HS := set3x H4.out
                go_wp2_with fail
                refine bodyPost_ret (results_cellE rfl _ rfl (run_loadVar_row _ _ _ _ _ _ _ (HS _ _ _).1 (Tryd.underlying26) rfl rfl)) rfl ⟨Hc.out.wide (HS _ _ _).2 fun k hk e => by have := Hn5.out; omega, ?_⟩
                rw [HQ.out]
                exact ⟨by rw [HL.out.1]; exact Hr.out.chg (HS _ _ _).2 fun e => Hne4.out e.symm, _, .mk 2 st.s [], rfl, ⟨by have := Hsl.out; show st.s.length ≤ _; unfold maxLen; omega, _, 0, 0, rfl, ExS.nil _ _⟩, HL.out.2⟩
              | false =>
                rw [hnm] at HN Hb
                clear hk1 hnm
                go_wp2_with fail
                refine HI1.out.mono ?_
                rintro e w3 ⟨rfl, rfl⟩
                go_wp2_with fail
                refine HI2.out.mono ?_
                rintro e w3 ⟨rfl, rfl⟩
                go_wp2_with fail
                refine HI3.out.mono ?_
                rintro e w3 ⟨rfl, rfl⟩
                go_wp2_with fail
                refine (HN.out _).mono ?_
                rintro e w4 ⟨rfl, hcn⟩
                have HF2 := Lib.hid (fun e he => HF.out e he _ hcn)
                replace Hr := Lib.hid (Hr.out.keep hcn)
                replace Hlw := Lib.hid (Nat.le_trans Hlw.out hcn.size)
                replace Hc := Lib.hid (Hc.out.trans (hcn.mono fun _ _ h => h.elim))
                replace H5 := Lib.hid (row_kept hcn H5.out id)
                replace H4 := Lib.hid (row_kept hcn H4.out id)
                clear HF hcn t0 t1 t2 t3 HN HI1 HI2 HI3
                obtain ⟨t0, t1, t2, t3⟩ := var4 H5.out
                go_wp2_with fail
                refine (HF2.out 50 (by decide)).mono ?_
                rintro e w5 ⟨hc, rfl, hr5⟩
                have HQ := Lib.hid (Hbad.out Hb.out)
                have h4 := row_kept hc H4.out Hne4.out
                have Hr5 := Lib.hid hr5
                have Hc5 := Lib.hid (Hc.out.trans hc)
                have Hl5 := Lib.hid (Nat.le_trans Hlw.out hc.size)
                clear hc hr5 Hr Hlw Hc H5 H4 t0 t1 t2 t3
                obtain ⟨d0, d1, d2⟩ := var3 h4
                have fr := row_free h4
                have HS := set3x h4
                clear h4
                go_wp2_with fail
                refine bodyPost_ret (results_cellE rfl _ rfl (run_loadVar_row _ _ _ _ _ _ _ (HS _ _ _).1 (Tryd.underlying26) rfl rfl)) rfl ⟨Hc5.out.wide (HS _ _ _).2 fun k hk e => by have := Hn5.out; omega, ?_⟩
                rw [HQ.out]
                exact ⟨Hr5.out.chg (HS _ _ _).2 fun e => Hne4.out e.symm, _, .mk 0 [] [], rfl, ⟨Nat.zero_le _, _, 0, 0, rfl, ExS.nil _ _⟩, fun y s e => by cases e⟩
            · have hk1b : ((st.kind : Int) == 1) = false := by rw [beq_eq_false_iff_ne]; omega
              rw [decide_eq_false hk1, Bool.false_and] at Hb
              clear hk1
              go_wp2_with fail
              refine HI1.out.mono ?_
              rintro e w3 ⟨rfl, rfl⟩
              go_wp2_with fail
              refine HI2.out.mono ?_
              rintro e w3 ⟨rfl, rfl⟩
              go_wp2_with fail
              refine HI3.out.mono ?_
              rintro e w3 ⟨rfl, rfl⟩
              have HF2 := Lib.hid (fun e he => HF.out e he _ (Chg.refl _ _))
              clear HF HI1 HI2 HI3 HN
              go_wp2_with fail
              refine (HF2.out 50 (by decide)).mono ?_
              rintro e w5 ⟨hc, rfl, hr5⟩
              have HQ := Lib.hid (Hbad.out Hb.out)
              have h4 := row_kept hc H4.out Hne4.out
              have Hr5 := Lib.hid hr5
              have Hc5 := Lib.hid (Hc.out.trans hc)
              have Hl5 := Lib.hid (Nat.le_trans Hlw.out hc.size)
              clear hc hr5 Hr Hlw Hc H5 H4 t0 t1 t2 t3
              obtain ⟨d0, d1, d2⟩ := var3 h4
              have fr := row_free h4
              have HS := set3x h4
              clear h4
              go_wp2_with fail
              refine bodyPost_ret (results_cellE rfl _ rfl (run_loadVar_row _ _ _ _ _ _ _ (HS _ _ _).1 (Tryd.underlying26) rfl rfl)) rfl ⟨Hc5.out.wide (HS _ _ _).2 fun k hk e => by have := Hn5.out; omega, ?_⟩
              rw [HQ.out]
              exact ⟨Hr5.out.chg (HS _ _ _).2 fun e => Hne4.out e.symm, _, .mk 0 [] [], rfl, ⟨Nat.zero_le _, _, 0, 0, rfl, ExS.nil _ _⟩, fun y s e => by cases e⟩
theorem rterm_expr {rb : Nat} {src : List UInt8} (hl : src.length ≤ 8192) : ∀ d : Nat, d ≤ 32 → RTermOk (termF d) (32 - (d : Int)) rb src ∧ RExprOk (exprW (termF d)) (32 - (d : Int)) rb src
  | 0, _ => by
    have h := rterm_zero (src := src) (rb := rb) hl
    exact ⟨h, rexpr_of h (term_good 0) hl⟩
  | d + 1, hd => by
    have ih := (rterm_expr (rb := rb) hl d (by omega)).2
    have h := rterm_more (d := d) (n := 32 - ((d + 1 : Nat) : Int)) (by omega) (by rw [show (32 : Int) - ((d + 1 : Nat) : Int) + 1 = 32 - (d : Int) by omega]; exact ih) hl
    exact ⟨h, rexpr_of h (term_good (d + 1)) hl⟩
theorem rexpr_any {w : World} {rb : Nat} {src : List UInt8} {o : StL} (hr : RuM w rb src o) (hl : src.length ≤ 8192) : Calls Tryd.prog 31 #[.pointer (some ⟨rb, 0, none⟩), .int .i64 0] w (RExP rb src (runO (exprF 32) o) w) :=
  (rterm_expr hl 32 (Nat.le_refl _)).2 w o hr
end Go.Proofs.YtdgcpgbknfojhaaDoor
