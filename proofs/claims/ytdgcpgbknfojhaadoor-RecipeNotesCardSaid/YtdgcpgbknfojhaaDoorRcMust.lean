/- The contracts of must, name, begins. Conditions: the text is not too long; the keywords read as listed. -/
import Derived.Test.YtdgcpgbknfojhaaDoorRcTake

namespace Go.Proofs.YtdgcpgbknfojhaaDoor
set_option linter.unusedVariables false
open Go.ChangeShapes Go.WideShapes Go.ChangeAt Go.RowKit
set_option maxHeartbeats 2000000 in
set_option maxRecDepth 20000 in
theorem must_any {w : World} {rb : Nat} {src : List UInt8} {st : RdL} (base : Nat) (h : RdM w rb src st) (hl : src.length ≤ 8192) (hk : Kw base w) (hrb : base ≤ rb) (kind : Nat) (s : List UInt8) : Calls Tryd.prog 53 #[.pointer (some ⟨rb, 0, none⟩), .int .i64 kind, .string (tx s)] w (TakeP rb src (mustF kind s st) w) := by
  have HI := Lib.hid (is_any h kind s)
  have HT := Lib.hid (take_any base h hl hk hrb)
  have HF := Lib.hid (fail_any h 50)
  have Hm := Lib.hid (show mustF kind s st = if st.is kind s = true then takeF st.rest else .error (st.rem, 50) from rfl)
  clear h hk
  cases hi : st.is kind s with
  | true =>
    rw [hi] at HI Hm
    have Hm2 := Lib.hid (show mustF kind s st = takeF st.rest by rw [Hm.out]; rfl)
    rw [Hm2.out]
    clear hi Hm HF
    generalize takeF st.rest = o at *
    go_enter Tryd.func53, Tryd.ntmps53
    go_wp2_with fail
    refine HI.out.mono ?_
    rintro e w2 ⟨rfl, rfl⟩
    go_wp2_with fail
    refine HT.out.mono ?_
    rintro e w3 ⟨hc3, h3⟩
    cases o with
    | ok st1 =>
      obtain ⟨rfl, hr⟩ := h3
      have Hr := Lib.hid hr
      have Hc := Lib.hid hc3
      clear hr hc3
      go_wp2_with fail
      go_end0
      exact ⟨Hc.out, rfl, Hr.out⟩
    | error x =>
      obtain rfl : e = quitF ((src.length - x.1 : Nat) : Int) x.2 := h3
      have Hc := Lib.hid hc3
      clear hc3
      unfold quitF
      go_wp2_with fail
      exact ⟨rfl, Hc.out, rfl⟩
  | false =>
    rw [hi] at HI Hm
    have Hm2 := Lib.hid (show mustF kind s st = .error (st.rem, 50) by rw [Hm.out]; rfl)
    rw [Hm2.out]
    clear hi Hm HT
    go_enter Tryd.func53, Tryd.ntmps53
    go_wp2_with fail
    refine HI.out.mono ?_
    rintro e w2 ⟨rfl, rfl⟩
    go_wp2_with fail
    refine HF.out.mono ?_
    rintro e w3 ⟨rfl, rfl⟩
    unfold quitF
    go_wp2_with fail
    exact ⟨rfl, Chg.refl _ _, rfl⟩
def NamedP (rb : Nat) (src s : List UInt8) (o : Except FaultL RdL) (w : World) (e : Ending) (w' : World) : Prop := Chg (fun k => k = rb) w w' ∧ match o with
  | .ok st => e = .returned (.string (tx s)) ∧ RdM w' rb src st
  | .error x => e = quitF ((src.length - x.1 : Nat) : Int) x.2
set_option maxHeartbeats 2000000 in
set_option maxRecDepth 20000 in
theorem rname_any {w : World} {rb : Nat} {src : List UInt8} {st : RdL} (base : Nat) (h : RdM w rb src st) (hl : src.length ≤ 8192) (hk : Kw base w) (hrb : base ≤ rb) : Calls Tryd.prog 96 #[.pointer (some ⟨rb, 0, none⟩)] w (NamedP rb src st.s (nameT st) w) := by
  have HN := Lib.hid (name_any st.s base w hk)
  have HF := Lib.hid (fail_any h 50)
  have HT := Lib.hid (fun w2 (hc : Chg NoB w w2) => take_any base (h.keep hc) hl (hk.keep hc) hrb)
  have HF2 := Lib.hid (fun w2 (hc : Chg NoB w w2) => fail_any (h.keep hc) 50)
  obtain ⟨c0, c1, c2, c3, c4⟩ := cell5 h.row
  clear h hk
  have Hm := Lib.hid (show nameT st = if ¬ (st.kind = 1 ∧ nameN st.s = true) then .error (st.rem, 50) else takeF st.rest from rfl)
  by_cases hk1 : st.kind = 1
  · have hkb : ((st.kind : Int) != 1) = false := by simp [hk1]
    cases hn : nameN st.s with
    | true =>
      have Hm2 := Lib.hid (show nameT st = takeF st.rest by rw [Hm.out, if_neg (by simp [hk1, hn])])
      rw [Hm2.out]
      rw [hn] at HN
      clear hk1 hn Hm HF HF2
      generalize takeF st.rest = o at *
      go_enter Tryd.func96, Tryd.ntmps96
      go_wp2_with fail
      refine HN.out.mono ?_
      rintro e w2 ⟨rfl, hc2⟩
      have HT2 := Lib.hid (HT.out _ hc2)
      have Hc2 := Lib.hid hc2
      clear hc2 HT
      go_wp2_with fail
      refine HT2.out.mono ?_
      rintro e w3 ⟨hc3, h3⟩
      have Hc := Lib.hid ((Hc2.out.mono fun _ _ h => h.elim).trans hc3 : Chg (fun k => k = rb) w w3)
      clear hc3
      cases o with
      | ok st1 =>
        obtain ⟨rfl, hr⟩ := h3
        have Hr := Lib.hid hr
        clear hr
        go_wp2_with fail
        go_ret
        exact ⟨Hc.out, rfl, Hr.out⟩
      | error x =>
        obtain rfl : e = quitF ((src.length - x.1 : Nat) : Int) x.2 := h3
        unfold quitF
        go_wp2_with fail
        exact ⟨rfl, Hc.out, rfl⟩
    | false =>
      have Hm2 := Lib.hid (show nameT st = .error (st.rem, 50) by rw [Hm.out, if_pos (by simp [hk1, hn])])
      rw [Hm2.out]
      rw [hn] at HN
      clear hk1 hn Hm HF HT
      go_enter Tryd.func96, Tryd.ntmps96
      go_wp2_with fail
      refine HN.out.mono ?_
      rintro e w2 ⟨rfl, hc2⟩
      have HF3 := Lib.hid (HF2.out _ hc2)
      have Hc2 := Lib.hid hc2
      clear hc2 HF2
      go_wp2_with fail
      refine HF3.out.mono ?_
      rintro e w3 ⟨rfl, rfl⟩
      unfold quitF
      go_wp2_with fail
      exact ⟨rfl, Hc2.out.mono fun _ _ h => h.elim, rfl⟩
  · have hkb : ((st.kind : Int) != 1) = true := by rw [bne_iff_ne]; omega
    have Hm2 := Lib.hid (show nameT st = .error (st.rem, 50) by rw [Hm.out, if_pos (by simp [hk1])])
    rw [Hm2.out]
    clear hk1 Hm HT HN HF2
    go_enter Tryd.func96, Tryd.ntmps96
    go_wp2_with fail
    refine HF.out.mono ?_
    rintro e w3 ⟨rfl, rfl⟩
    unfold quitF
    go_wp2_with fail
    exact ⟨rfl, Chg.refl _ _, rfl⟩
set_option maxHeartbeats 4000000 in
set_option maxRecDepth 20000 in
theorem begins_any {w : World} {rb : Nat} {src : List UInt8} {st : RdL} (base : Nat) (h : RdM w rb src st) (hk : Kw base w) : Calls Tryd.prog 88 #[.pointer (some ⟨rb, 0, none⟩)] w (SayV (.bool (beginsF st)) w) := by
  have HI1 := Lib.hid (is_any h 2 [40])
  have HI2 := Lib.hid (is_any h 1 kIf)
  have HI3 := Lib.hid (is_any h 1 kLet)
  have HN := Lib.hid (name_any st.s base w hk)
  obtain ⟨c0, c1, c2, c3, c4⟩ := cell5 h.row
  have Hb := Lib.hid (show beginsF st = (decide (st.kind = 3) || st.is 2 [40] || st.is 1 kIf || st.is 1 kLet || (decide (st.kind = 1) && nameN st.s)) from rfl)
  clear h hk
  by_cases h3 : st.kind = 3
  · have hb3 : ((st.kind : Int) == 3) = true := by simp [h3]
    rw [decide_eq_true h3, Bool.true_or, Bool.true_or, Bool.true_or, Bool.true_or] at Hb
    clear h3
    go_enter Tryd.func88, Tryd.ntmps88
    go_wp2_with fail
    go_ret
    exact ⟨by rw [Hb.out]; rfl, Chg.refl _ _⟩
  · have hb3 : ((st.kind : Int) == 3) = false := by rw [beq_eq_false_iff_ne]; omega
    rw [decide_eq_false h3, Bool.false_or] at Hb
    clear h3
    cases h1 : st.is 2 [40] with
    | true =>
      rw [h1] at HI1 Hb
      rw [Bool.true_or, Bool.true_or, Bool.true_or] at Hb
      go_enter Tryd.func88, Tryd.ntmps88
      go_wp2_with fail
      refine HI1.out.mono ?_
      rintro e w2 ⟨rfl, rfl⟩
      go_wp2_with fail
      go_ret
      exact ⟨by rw [Hb.out]; rfl, Chg.refl _ _⟩
    | false =>
      rw [h1] at HI1 Hb
      rw [Bool.false_or] at Hb
      clear h1
      cases h1 : st.is 1 kIf with
      | true =>
        rw [h1] at HI2 Hb
        rw [Bool.true_or, Bool.true_or] at Hb
        go_enter Tryd.func88, Tryd.ntmps88
        go_wp2_with fail
        refine HI1.out.mono ?_
        rintro e w2 ⟨rfl, rfl⟩
        go_wp2_with fail
        refine HI2.out.mono ?_
        rintro e w2 ⟨rfl, rfl⟩
        go_wp2_with fail
        go_ret
        exact ⟨by rw [Hb.out]; rfl, Chg.refl _ _⟩
      | false =>
        rw [h1] at HI2 Hb
        rw [Bool.false_or] at Hb
        clear h1
        cases h1 : st.is 1 kLet with
        | true =>
          rw [h1] at HI3 Hb
          rw [Bool.true_or] at Hb
          go_enter Tryd.func88, Tryd.ntmps88
          go_wp2_with fail
          refine HI1.out.mono ?_
          rintro e w2 ⟨rfl, rfl⟩
          go_wp2_with fail
          refine HI2.out.mono ?_
          rintro e w2 ⟨rfl, rfl⟩
          go_wp2_with fail
          refine HI3.out.mono ?_
          rintro e w2 ⟨rfl, rfl⟩
          go_wp2_with fail
          go_ret
          exact ⟨by rw [Hb.out]; rfl, Chg.refl _ _⟩
        | false =>
          rw [h1] at HI3 Hb
          rw [Bool.false_or] at Hb
          clear h1
          by_cases hk1 : st.kind = 1
          · have hk1b : ((st.kind : Int) == 1) = true := by simp [hk1]
            rw [decide_eq_true hk1, Bool.true_and] at Hb
            clear hk1
            go_enter Tryd.func88, Tryd.ntmps88
            go_wp2_with fail
            refine HI1.out.mono ?_
            rintro e w2 ⟨rfl, rfl⟩
            go_wp2_with fail
            refine HI2.out.mono ?_
            rintro e w2 ⟨rfl, rfl⟩
            go_wp2_with fail
            refine HI3.out.mono ?_
            rintro e w2 ⟨rfl, rfl⟩
            go_wp2_with fail
            refine HN.out.mono ?_
            rintro e w2 ⟨rfl, hc2⟩
            have Hc2 := Lib.hid hc2
            clear hc2
            go_wp2_with fail
            go_ret
            exact ⟨by rw [Hb.out]; rfl, Hc2.out⟩
          · have hk1b : ((st.kind : Int) == 1) = false := by rw [beq_eq_false_iff_ne]; omega
            rw [decide_eq_false hk1, Bool.false_and] at Hb
            clear hk1
            go_enter Tryd.func88, Tryd.ntmps88
            go_wp2_with fail
            refine HI1.out.mono ?_
            rintro e w2 ⟨rfl, rfl⟩
            go_wp2_with fail
            refine HI2.out.mono ?_
            rintro e w2 ⟨rfl, rfl⟩
            go_wp2_with fail
            refine HI3.out.mono ?_
            rintro e w2 ⟨rfl, rfl⟩
            go_wp2_with fail
            go_ret
            exact ⟨by rw [Hb.out]; rfl, Chg.refl _ _⟩
end Go.Proofs.YtdgcpgbknfojhaaDoor
