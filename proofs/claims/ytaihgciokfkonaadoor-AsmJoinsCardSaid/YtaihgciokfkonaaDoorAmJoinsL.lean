/- Two programs without places, one text behind the other, are the one program behind the other: true for every input. Conditions: the library's variables and the list of words read as listed, as the card says. -/
import Derived.Test.YtaihgciokfkonaaDoorAmInsL
import Derived.Test.YtaihgciokfkonaaDoorCards
import Derived.Test.YtaihgciokfkonaaDoorTie

namespace Go.Proofs.YtaihgciokfkonaaDoor
set_option linter.unusedVariables false
open Go.ChangeShapes Go.WideShapes Go.ChangeAt Go.RowKit
/- a round of a walk that looks for a place: the instruction's box, what it takes -/
set_option maxHeartbeats 8000000 in
set_option maxRecDepth 20000 in
theorem asmJoins_all (ps : List InsL) (va : Value) (ka oa : Nat) (qs : List InsL) (vb : Value) (kb ob : Nat) (W : World) (hp : InsS W (OldB W) va ps ka oa) (hq : InsS W (OldB W) vb qs kb ob) (hlb : Lb W.heap.size W) (hwd : Wd W.heap.size W) (hml : 3 < W.heap.size) : Calls Tryd.prog 8 #[va, vb] W (SayB true W) := by
  have Hav := Lib.hid (show Av W.heap.size W from ⟨hlb, hwd⟩)
  have HAL := Lib.hid (alive_any W.heap.size W Hav.out hml)
  have Hml := Lib.hid hml
  have HGp := Lib.hid (fun w (h : Chg NoB W w) => great_any ps (OldB W) va ka oa w (hp.keep h fun _ _ => id))
  have HGq := Lib.hid (fun w (h : Chg NoB W w) => great_any qs (OldB W) vb kb ob w (hq.keep h fun _ _ => id))
  have Hp := Lib.hid hp
  have Hq := Lib.hid hq
  obtain ⟨⟨qa, ca, rfl, a1, a2, a3⟩, pat⟩ := hp
  obtain ⟨⟨qb, cb, rfl, b1, b2, b3⟩, qat⟩ := hq
  obtain ⟨la, hla⟩ : ∃ n, n = ps.length := ⟨_, rfl⟩
  obtain ⟨lb, hlb'⟩ : ∃ n, n = qs.length := ⟨_, rfl⟩
  have Hat := Lib.hid pat
  have Hbt := Lib.hid qat
  have Ha3 := Lib.hid a3
  have Hb3 := Lib.hid b3
  have Hla := Lib.hid hla
  have Hlb := Lib.hid hlb'
  rw [← hla] at a1 HGp ⊢
  rw [← hlb'] at b1 HGq ⊢
  clear pat qat a3 b3 hlb hwd hml hla hlb'
  go_enter Tryd.func8, Tryd.ntmps8
  go_wp2_with fail
  refine HAL.out.mono ?_
  rintro e w2 ⟨rfl, hc2⟩
  have Hc2 := Lib.hid hc2
  clear hc2
  by_cases g1 : 131072 < sumF ps
  · have g1' := decide_eq_true g1
    rw [g1'] at HGp
    clear g1 g1'
    go_wp2_with fail
    refine (HGp.out _ Hc2.out).mono ?_
    rintro e w3 ⟨rfl, hc3⟩
    have Hc3 := Lib.hid (Hc2.out.trans hc3)
    clear hc3
    go_wp2_with fail
    go_ret
    exact ⟨rfl, Hc3.out⟩
  · have g1' := decide_eq_false g1
    rw [g1'] at HGp
    by_cases g2 : 131072 < sumF qs
    · have g2' := decide_eq_true g2
      rw [g2'] at HGq
      clear g1 g1' g2 g2'
      go_wp2_with fail
      refine (HGp.out _ Hc2.out).mono ?_
      rintro e w3 ⟨rfl, hc3⟩
      have Hc3 := Lib.hid (Hc2.out.trans hc3)
      clear hc3
      go_wp2_with fail
      refine (HGq.out _ Hc3.out).mono ?_
      rintro e w4 ⟨rfl, hc4⟩
      have Hc4 := Lib.hid (Hc3.out.trans hc4)
      clear hc4
      go_wp2_with fail
      go_ret
      exact ⟨rfl, Hc4.out⟩
    · have g2' := decide_eq_false g2
      rw [g2'] at HGq
      clear g1 g1' g2 g2'
      go_wp2_with fail
      refine (HGp.out _ Hc2.out).mono ?_
      rintro e w3 ⟨rfl, hc3⟩
      have Hc3 := Lib.hid (Hc2.out.trans hc3)
      clear hc3
      go_wp2_with fail
      refine (HGq.out _ Hc3.out).mono ?_
      rintro e w4 ⟨rfl, hc4⟩
      have Hc4 := Lib.hid (Hc3.out.trans hc4)
      clear hc4 HGp HGq HAL
      by_cases l1 : (128 : Int) < (la : Int)
      · go_wp2_with fail
        go_ret
        exact ⟨rfl, Hc4.out⟩
      · by_cases l2 : (128 : Int) < (lb : Int)
        · go_wp2_with fail
          go_ret
          exact ⟨rfl, Hc4.out⟩
        · go_wp2_with fail
          go_loopw [35] (fun iv wr => ∃ k : Nat, k ≤ la ∧ iv = .int .i64 k ∧ (∀ j (hj : j < ps.length), j < k → takesF ps[j].op ≠ 4) ∧ Chg NoB W wr) (fun iv _ => la - (intOf iv).toNat)
          case atStart => exact ⟨0, Nat.zero_le _, rfl, fun j _ h => absurd h (by omega), Hc4.out⟩
          case round =>
            obtain ⟨k, hk, rfl, hno, hcW⟩ := hrel
            have HcW := Lib.hid hcW
            clear hcW
            by_cases hlt : k < la
            · skip
              have hkl : k < ps.length := by rw [← Hla.out]; exact hlt
              obtain ⟨rfl, -⟩ := Ha3.out (by rintro rfl; simp at hkl)
              obtain ⟨hwf, p0, p1, p2⟩ := Hat.out k hkl
              replace p0 := HcW.out.keep p0
              replace p1 := HcW.out.keep p1
              replace p2 := HcW.out.keep p2
              have Hno := Lib.hid hno
              have Hwf := Lib.hid hwf
              have Hsay := Lib.hid (fun (h : takesF ps[k].op ≠ 4) jj (hjj : jj < ps.length) (hjk : jj < k + 1) => show takesF ps[jj].op ≠ 4 from by
                rcases Nat.lt_or_ge jj k with h' | h'
                · exact Hno.out jj hjj h'
                · obtain rfl : jj = k := by omega
                  exact h)
              have Hin := Lib.hid (show ps[k] ∈ ps from List.getElem_mem hkl)
              generalize ps[k] = x at *
              obtain ⟨op, n, sx⟩ := x
              simp only at p0 p1 p2
              have hwb := hwf.1
              simp only at hwb
              have hal_ := (Chg.refl NoB wr).alloc (.cells #[.int .i64 op, .int .i64 n, .string (tx sx)] 38)
              have hb_ := heap_alloc_new wr (.cells #[.int .i64 op, .int .i64 n, .string (tx sx)] 38)
              obtain ⟨b6, hxb_⟩ : ∃ b, b = wr.heap.size := ⟨_, rfl⟩
              obtain ⟨w6, hw_⟩ : ∃ w_, wr.alloc (.cells #[.int .i64 op, .int .i64 n, .string (tx sx)] 38) = w_ := ⟨_, rfl⟩
              have hz_ : w6.heap.size = b6 + 1 := by rw [← hw_, hxb_]; exact alloc_size _ _
              rw [hw_] at hal_ hb_
              rw [← hxb_] at hb_
              have Hw6 := Lib.hid hw_
              have Hx6 := Lib.hid hxb_
              have Ha6 := Lib.hid hal_
              have Hb6 := Lib.hid hb_
              have Hz6 := Lib.hid hz_
              clear hal_ hb_ hxb_ hw_ hz_
              obtain ⟨d0, d1, d2⟩ := var3 Hb6.out
              have HT := Lib.hid (fun w => refTakes_any op hwb.1 hwb.2 w)
              clear hno hwf hwb
              go_upto_region 8 with fail
              rw [Hw6.out, ← Hx6.out]
              go_wp2_with fail
              refine (HT.out _).mono ?_
              rintro e w7 ⟨rfl, hc7⟩
              have Hc7 := Lib.hid ((HcW.out.trans Ha6.out).trans hc7)
              clear hc7 p0 p1 p2 d0 d1 d2
              by_cases h4 : takesF op = 4
              · rw [h4]
                go_wp2_with fail
                go_ret
                exact ⟨rfl, Hc7.out⟩
              · have h4b : (takesF op == 4) = false := by simp [h4]
                have Hs2 := Lib.hid (Hsay.out h4)
                clear h4
                go_wp2_with fail
                go_roundw
                case rel => exact ⟨k + 1, by omega, by go_num, Hs2.out, Hc7.out⟩
                case measure => simp [intOf]; omega
            · obtain rfl : la = k := by omega
              have Hna := Lib.hid (show ∀ x ∈ ps, takesF x.op ≠ 4 from fun x hx => by
                obtain ⟨i, hi, rfl⟩ := List.getElem_of_mem hx
                exact hno i hi (by rw [Hla.out]; exact hi))
              clear hno hlt
              go_wp2_with fail
              go_loopw [46] (fun iv wr => ∃ j : Nat, j ≤ lb ∧ iv = .int .i64 j ∧ (∀ i (hi : i < qs.length), i < j → takesF qs[i].op ≠ 4) ∧ Chg NoB W wr) (fun iv _ => lb - (intOf iv).toNat)
              case atStart => exact ⟨0, Nat.zero_le _, rfl, fun j _ h => absurd h (by omega), HcW.out⟩
              case round =>
                clear HcW
                obtain ⟨j, hk, rfl, hno, hcW⟩ := hrel
                have HcW := Lib.hid hcW
                clear hcW
                by_cases hlt : j < lb
                · skip
                  have hkl : j < qs.length := by rw [← Hlb.out]; exact hlt
                  obtain ⟨rfl, -⟩ := Hb3.out (by rintro rfl; simp at hkl)
                  obtain ⟨hwf, p0, p1, p2⟩ := Hbt.out j hkl
                  replace p0 := HcW.out.keep p0
                  replace p1 := HcW.out.keep p1
                  replace p2 := HcW.out.keep p2
                  have Hno := Lib.hid hno
                  have Hwf := Lib.hid hwf
                  have Hsay := Lib.hid (fun (h : takesF qs[j].op ≠ 4) jj (hjj : jj < qs.length) (hjk : jj < j + 1) => show takesF qs[jj].op ≠ 4 from by
                    rcases Nat.lt_or_ge jj j with h' | h'
                    · exact Hno.out jj hjj h'
                    · obtain rfl : jj = j := by omega
                      exact h)
                  have Hin := Lib.hid (show qs[j] ∈ qs from List.getElem_mem hkl)
                  generalize qs[j] = x at *
                  obtain ⟨op, n, sx⟩ := x
                  simp only at p0 p1 p2
                  have hwb := hwf.1
                  simp only at hwb
                  have hal_ := (Chg.refl NoB wr).alloc (.cells #[.int .i64 op, .int .i64 n, .string (tx sx)] 38)
                  have hb_ := heap_alloc_new wr (.cells #[.int .i64 op, .int .i64 n, .string (tx sx)] 38)
                  obtain ⟨b6, hxb_⟩ : ∃ b, b = wr.heap.size := ⟨_, rfl⟩
                  obtain ⟨w6, hw_⟩ : ∃ w_, wr.alloc (.cells #[.int .i64 op, .int .i64 n, .string (tx sx)] 38) = w_ := ⟨_, rfl⟩
                  have hz_ : w6.heap.size = b6 + 1 := by rw [← hw_, hxb_]; exact alloc_size _ _
                  rw [hw_] at hal_ hb_
                  rw [← hxb_] at hb_
                  have Hw6 := Lib.hid hw_
                  have Hx6 := Lib.hid hxb_
                  have Ha6 := Lib.hid hal_
                  have Hb6 := Lib.hid hb_
                  have Hz6 := Lib.hid hz_
                  clear hal_ hb_ hxb_ hw_ hz_
                  obtain ⟨d0, d1, d2⟩ := var3 Hb6.out
                  have HT := Lib.hid (fun w => refTakes_any op hwb.1 hwb.2 w)
                  clear hno hwf hwb
                  go_upto_region 14 with fail
                  rw [Hw6.out, ← Hx6.out]
                  go_wp2_with fail
                  refine (HT.out _).mono ?_
                  rintro e w7 ⟨rfl, hc7⟩
                  have Hc7 := Lib.hid ((HcW.out.trans Ha6.out).trans hc7)
                  clear hc7 p0 p1 p2 d0 d1 d2
                  by_cases h4 : takesF op = 4
                  · rw [h4]
                    go_wp2_with fail
                    go_ret
                    exact ⟨rfl, Hc7.out⟩
                  · have h4b : (takesF op == 4) = false := by simp [h4]
                    have Hs2 := Lib.hid (Hsay.out h4)
                    clear h4
                    go_wp2_with fail
                    go_roundw
                    case rel => exact ⟨j + 1, by omega, by go_num, Hs2.out, Hc7.out⟩
                    case measure => simp [intOf]; omega
                · obtain rfl : lb = j := by omega
                  have Hnb := Lib.hid (show ∀ x ∈ qs, takesF x.op ≠ 4 from fun x hx => by
                    obtain ⟨i, hi, rfl⟩ := List.getElem_of_mem hx
                    exact hno i hi (by rw [Hlb.out]; exact hi))
                  clear hno hlt
                  have hp' := Hp.out.keep (w' := wr) HcW.out (fun _ _ => id)
                  rw [← Hla.out] at hp'
                  have HD1 := Lib.hid (dis_any ps (OldB W) _ ka oa W.heap.size wr (Hav.out.keep HcW.out) (fun i h => Nat.lt_of_lt_of_le h HcW.out.size) (by rw [← Hla.out]; omega) hp')
                  clear hp'
                  go_wp2_with fail
                  refine HD1.out.mono ?_
                  rintro e w7 ⟨rfl, hc7⟩
                  have Hc7 := Lib.hid (HcW.out.trans hc7)
                  clear hc7
                  have hq' := Hq.out.keep (w' := w7) Hc7.out (fun _ _ => id)
                  rw [← Hlb.out] at hq'
                  have HD2 := Lib.hid (dis_any qs (OldB W) _ kb ob W.heap.size w7 (Hav.out.keep Hc7.out) (fun i h => Nat.lt_of_lt_of_le h Hc7.out.size) (by rw [← Hlb.out]; omega) hq')
                  clear hq'
                  go_wp2_with fail
                  refine HD2.out.mono ?_
                  rintro e w8 ⟨rfl, hc8⟩
                  have Hc8 := Lib.hid (Hc7.out.trans hc8)
                  clear hc8 HD1 HD2
                  have hd1 := dis_err ps
                  have hd2 := dis_err qs
                  have hl1 := dis_len (p := ps) (fun x hx => by obtain ⟨i, hi, rfl⟩ := List.getElem_of_mem hx; exact (Hat.out i hi).1)
                  have hl2 := dis_len (p := qs) (fun x hx => by obtain ⟨i, hi, rfl⟩ := List.getElem_of_mem hx; exact (Hbt.out i hi).1)
                  have HJ := Lib.hid (fun h1 h2 h3 => asm_join (a := ps) (b := qs) h1 h2 (fun x hx => by obtain ⟨i, hi, rfl⟩ := List.getElem_of_mem hx; exact (Hat.out i hi).1) (fun x hx => by obtain ⟨i, hi, rfl⟩ := List.getElem_of_mem hx; exact (Hbt.out i hi).1) (fun x hx => (List.mem_append.1 hx).elim (Hna.out x) (Hnb.out x)) ⟨by rw [← Hla.out]; omega, by rw [← Hlb.out]; omega⟩ h3)
                  rw [← hd1, ← hd2] at HJ
                  generalize disF ps = r1 at *
                  generalize disF qs = r2 at *
                  obtain ⟨s1, e1⟩ := r1
                  obtain ⟨s2, e2⟩ := r2
                  clear hd1 hd2
                  simp only at HJ hl1 hl2
                  by_cases h1 : e1 = 0
                  · have h1b : (e1 != 0) = false := by simp [h1]
                    by_cases h2 : e2 = 0
                    · have h2b : (e2 != 0) = false := by simp [h2]
                      have z1 : (tx s1).size = s1.length := tx_size s1
                      have z2 : (tx s2).size = s2.length := tx_size s2
                      by_cases h3 : (65536 : Int) < (s1.length : Int) + (s2.length : Int)
                      · clear h1 h2
                        go_wp2_with fail
                        go_ret
                        exact ⟨rfl, Hc8.out⟩
                      · have hcat : tx s1 ++ tx s2 = tx (s1 ++ s2) := txCat s1 s2
                        have HC := Lib.hid (asm_any W.heap.size (s1 ++ s2) w8 (Hav.out.keep Hc8.out) Hml.out)
                        rw [HJ.out h1 h2 (by omega)] at HC
                        have hz3 : ¬ 9223372036854775807 < s1.length + s2.length := by omega
                        clear h1 h2
                        go_wp2_with fail
                        refine HC.out.mono ?_
                        rintro e w9 ⟨hc9, v9, rfl, hrow9⟩
                        obtain ⟨q9, c9, rfl, -, -⟩ := row_shape hrow9
                        have Hrow9 := Lib.hid hrow9
                        have Hc9 := Lib.hid (Hc8.out.trans hc9)
                        obtain ⟨wA, hwA⟩ : ∃ X, w9.alloc (.cells #[] 38) = X := ⟨_, rfl⟩
                        have HwA := Lib.hid hwA
                        have HcA := Lib.hid (show Chg NoB w9 wA by rw [← hwA]; exact (Chg.refl NoB w9).alloc _)
                        have HoA := Lib.hid (show wA.ownsRow w9.heap.size 38 3 (.slice (some ⟨w9.heap.size, 0, none⟩) 0 0) 0 (flatI []) by
                          rw [← hwA]; exact World.ownsRow_lit w9 #[] 0 (Nat.le_refl _) (by decide) rfl)
                        have hpA := Hp.out.keep (w' := wA) (Hc9.out.trans HcA.out) (fun _ _ => id)
                        have hqA := Hq.out.keep (w' := wA) (Hc9.out.trans HcA.out) (fun _ _ => id)
                        rw [← Hla.out] at hpA
                        rw [← Hlb.out] at hqA
                        have HpA := Lib.hid hpA
                        have HqA := Lib.hid hqA
                        clear hc9 hrow9 hwA hpA hqA HC
                        have Hkeep := Lib.hid (fun (v : Value) (n : Nat) (l : List InsL) (X Y : World) (S : Nat → Prop) (u : Value) (us : List InsL) (kb' ob' : Nat) (h1 : X.ownsRow w9.heap.size 38 3 v n (flatI l)) (h2 : Chg (fun j => v.ownBlock = some j) X Y) (h3 : InsS X (OldB W) u us kb' ob') => h3.keep h2 fun k hk e => by
                          have := (World.ownsRow.lt h1 k e).1
                          have := Hc9.out.size
                          have : k < W.heap.size := hk
                          omega)
                        go_wp2_with (at_builtin; first
                          | (rw [HwA.out]; go_loud (refine wpList_insL (l := []) (us := ps) (q := qa) (m := la) (c := ca) (by rfl) _ _ rfl rfl rfl HoA.out HpA.out (by omega) HcA.out.size ?_); intro vB wB hoB hcB; have hqB := Hkeep.out _ _ _ _ _ (OldB W) _ _ _ _ HoA.out hcB HqA.out; simp only [Nat.zero_add, List.nil_append] at hoB; obtain ⟨qB, cB, rfl, -, -⟩ := row_shape hoB)
                          | (go_loud (refine wpList_insL (l := ps) (us := qs) (q := qb) (m := lb) (c := cb) (by rfl) _ _ rfl rfl rfl hoB hqB (by omega) (Nat.le_trans HcA.out.size hcB.size) ?_); intro vC wC hoC hcC; obtain ⟨qC, cC, rfl, -, -⟩ := row_shape hoC))
                        have hpq : (ps ++ qs).length = la + lb := by rw [List.length_append, ← Hla.out, ← Hlb.out]
                        have hwf : ∀ i (hi : i < (ps ++ qs).length), (ps ++ qs)[i].wf := fun i hi => by
                          rcases List.mem_append.1 (List.getElem_mem hi) with h | h
                          · obtain ⟨j, hj, e⟩ := List.getElem_of_mem h
                            rw [← e]; exact (Hat.out j hj).1
                          · obtain ⟨j, hj, e⟩ := List.getElem_of_mem h
                            rw [← e]; exact (Hbt.out j hj).1
                        have h9 := ownsRow_chg (ownsRow_chg (ownsRow_chg Hrow9.out HcA.out fun _ _ => id) hcB fun k e x => by
                          have := (World.ownsRow.lt Hrow9.out k e).2
                          have := (World.ownsRow.lt HoA.out k x).1
                          omega) hcC fun k e x => by
                          have := (World.ownsRow.lt Hrow9.out k e).2
                          have := (World.ownsRow.lt hoB k x).1
                          omega
                        obtain ⟨kx, hx⟩ := InsS.of_row h9 hwf
                        rw [← hpq] at hoC
                        obtain ⟨ky, hy⟩ := InsS.of_row hoC hwf
                        have HSm := Lib.hid (isame_any (ps ++ qs) (ps ++ qs) _ _ _ _ kx 0 ky 0 wC hx hy (by rw [hpq]; omega))
                        have HcF := Lib.hid (((Hc9.out.trans HcA.out).above hcB fun k e => by have := (World.ownsRow.lt HoA.out k e).1; have := Hc9.out.size; omega).above hcC fun k e => by have := (World.ownsRow.lt hoB k e).1; have := Hc9.out.size; omega)
                        rw [hpq] at HSm
                        clear hwf h9 hx hy hoC hcC hoB hqB hcB
                        have hl9 : ps.length + qs.length = la + lb := by rw [← Hla.out, ← Hlb.out]
                        rw [hl9]
                        refine HSm.out.mono ?_
                        rintro e wD ⟨⟨bb, rfl, hbb⟩, hcD⟩
                        have hbt : bb = true := hbb.2 rfl
                        rw [hbt]
                        have HcD := Lib.hid (HcF.out.trans hcD)
                        clear hcD hbb hbt
                        go_wp2_with fail
                        go_ret
                        exact ⟨rfl, HcD.out⟩
                    · have h2b : (e2 != 0) = true := by simp [h2]
                      clear h1 h2
                      go_wp2_with fail
                      go_ret
                      exact ⟨rfl, Hc8.out⟩
                  · have h1b : (e1 != 0) = true := by simp [h1]
                    clear h1
                    go_wp2_with fail
                    go_ret
                    exact ⟨rfl, Hc8.out⟩
/-FRAME-/
set_option maxRecDepth 100000 in
theorem asmJoins_lifted (os : Os) (started : os.Started) (H : Type) (enc : TypeId × Value → H) :
    ReturnsInHanded {} Tryd.checked os 8 .any (fun w args => (Rows.asmJoinsSpec.pre enc Tryd.prog Tryd.f8 [] false w args ∧ laidMetH Tryd.prog Rows.asmJoinsRow.laid w) ∧ sizedMet enc Tryd.prog Tryd.f8 (OpenSpec.ofChange Rows.asmJoinsSpec) false w args)
      (Rows.asmJoinsSpec.post enc Tryd.prog Tryd.f8 false true false false) := by
  refine returns_both (C := Tryd.checked) (X := fun w _ => laidMetH Tryd.prog Rows.asmJoinsRow.laid w) (fun _ _ _ hh h => h.of_heap hh) Tryd.own started (by kernel_rfl) Tryd.func8
    (ChangeSpec.witness_shaped (enc := enc) (C := Tryd.checked) (os := os) (X := fun w _ => laidMetH Tryd.prog Rows.asmJoinsRow.laid w) false (World.laidAll Tryd.prog os Rows.asmJoinsRow.laid) #[.slice none 0 0, .slice none 0 0] 8 (World.laidAll_os _ _ _)
      (World.shaped_of_ZipB (by kernel_rfl) (by kernel_rfl)) (by kernel_rfl) (by kernel_rfl) (by kernel_rfl)
      (by rw [MakeChecks.laidMetH_plain _ _ _ (by kernel_rfl)]; exact laidMet_laidAll _ (by kernel_rfl) (by kernel_rfl))) ?_
  intro W base args ds gs before hval0 hW _ hsz hL hsh _
  have hval : ∀ (j : Nat) t v, Tryd.f8.params[j]? = some t → args[j]? = some v → Value.okWide Tryd.prog W .any base t v := hval0
  have hW' := hW
  obtain ⟨p, q, hA0, hV, rfl, _, _⟩ := hW
  have hA : DataW.TrodAll enc Tryd.prog W 0 (fun _ => true) true Tryd.f8.params.toList args.toList ds p := hA0
  have hsz1 : (DataW.weightsEach Tryd.prog (Tryd.f8.params.toList ++ Rows.asmJoinsSpec.plain.varTypes Tryd.prog) (ds ++ gs)).all (· ≤ reachBytes) = true := hsz
  rw [Tryd.params8] at hA hval hsz1
  obtain ⟨v0, v1, d0, d1, p0, p1, rfl, rfl, rfl, h0, h1⟩ := trodAll_two hA
  obtain ⟨rfl, rfl⟩ := trodVars_none hV
  obtain ⟨l0, kb0, ko0, hn0⟩ := open_inss (hval 0 23 v0 rfl rfl) h0 (fun m hm => of_decide_eq_true (List.all_eq_true.1 hsz1 m (DataW.weights_mem_each (j := 0) (t := 23) (d := d0) rfl rfl m hm)))
  obtain ⟨l1, kb1, ko1, hn1⟩ := open_inss (hval 1 23 v1 rfl rfl) h1 (fun m hm => of_decide_eq_true (List.all_eq_true.1 hsz1 m (DataW.weights_mem_each (j := 1) (t := 23) (d := d1) rfl rfl m hm)))
  simp only [List.append_nil] at hW'
  rw [MakeChecks.laidMetH_plain _ _ _ (by kernel_rfl)] at hL
  obtain ⟨hlb, hwd⟩ := lb8_of hL hsh
  have hml := ml_lt hsh
  clear hA0 hval0
  refine (asmJoins_all l0 _ kb0 ko0 l1 _ kb1 ko1 W hn0 hn1 hlb hwd hml).mono fun e W' ⟨he, hb⟩ => ?_
  subst he
  exact ⟨_, rfl, _, _, _, [], _, [], hW', trodAll_mk1 (shut_bool Tryd.underlying4 _), (trodAll_cons_mk (inss_stay h0 hb.below) (trodAll_cons_mk (inss_stay h1 hb.below) trodAll_mk0)), rfl, hb.below.frame _, fun h => by cases h⟩
theorem asmJoins_holds : Rows.AsmJoinsSaid :=
  OpenClaim.holds_of_wide 8 Tryd.f8 rfl rfl rfl rfl rfl rfl rfl ⟨rfl, rfl, rfl, rfl, rfl⟩ rfl rfl rfl rfl rfl (by kernel_rfl) Tryd.func8 (by kernel_rfl)
    (of_decide_eq_true (by kernel_rfl)) (by unfold Func.isWrapper; first | (rw [if_pos (by decide +kernel)]; kernel_rfl) | (rw [if_neg (by decide +kernel)]; exact ⟨rfl, rfl⟩))
    (fun os started H enc _ => asmJoins_lifted os started H enc)
theorem asmJoins_card : Rows.AsmJoinsCardSaid :=
  Claim7.holds_tied_plain_at .later [] [.data, .data, .data, .data, .sentinel, .sentinel, .widerDeep, .pinned] true (true, "aa88663d2f6238ae8a16603652b38a6635f2e0c3772bf95b981f2b479d7df801") true asmJoins_holds (fun _ h => by cases h) (by kernel_rfl) (fun _ h => by cases h) asmJoins_row_tie rfl ⟨rfl, rfl⟩ (by kernel_rfl) rfl
    (fun f fn hf hfn => by
      obtain rfl : f = 8 := Option.some.inj ((show Tryd.prog.funcNamed "sapling/saplinglaw09.AsmJoins" = some 8 by kernel_rfl).symm.trans hf) |>.symm
      obtain rfl : fn = Tryd.f8 := (Option.some.inj (Tryd.func8.symm.trans hfn)).symm
      exact ⟨by kernel_rfl, fun j t ht => by
        rw [Tryd.params8] at ht
        have hm : t ∈ [23, 23] := by simpa using Array.mem_of_getElem? ht
        have hall : ([23, 23].all fun u => !Tryd.prog.wantsStandIn u) = true := by kernel_rfl
        exact (show Tryd.prog.wantsStandIn t = false by simpa using List.all_eq_true.1 hall t hm)⟩)
    (by kernel_rfl)
#print axioms asmJoins_card
end Go.Proofs.YtaihgciokfkonaaDoor
