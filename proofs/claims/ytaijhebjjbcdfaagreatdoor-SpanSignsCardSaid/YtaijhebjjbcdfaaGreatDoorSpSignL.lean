/- Proved: the statement SpanSigns holds for every sign and every two versions. Conditions: the listed package variables read as the program's text lays them (the card ties them); nothing else. -/
import Derived.Test.YtaijhebjjbcdfaaGreatDoorSpSignV
import Derived.Test.YtaijhebjjbcdfaaGreatDoorSpHas
import Derived.Test.YtaijhebjjbcdfaaGreatDoorCards
import Derived.Test.YtaijhebjjbcdfaaGreatDoorTie

namespace Go.Proofs.YtaijhebjjbcdfaaGreatDoor
set_option linter.unusedVariables false
open Go.ChangeShapes Go.WideShapes Go.ChangeAt Go.RowKit
theorem bool_cell (a0 a1 a2 a3 a4 a5 a6 : Bool) (n : Nat) (h : n < 7) (hv : Bool) (hs : [a0, a1, a2, a3, a4, a5, a6][n]? = some hv) : (#[Value.bool a0, .bool a1, .bool a2, .bool a3, .bool a4, .bool a5, .bool a6] : Array Value)[n]? = some (.bool hv) := by
  match n, h with
  | 0, _ => cases hs; rfl
  | 1, _ => cases hs; rfl
  | 2, _ => cases hs; rfl
  | 3, _ => cases hs; rfl
  | 4, _ => cases hs; rfl
  | 5, _ => cases hs; rfl
  | 6, _ => cases hs; rfl
theorem tx_app (a b : List UInt8) : tx a ++ tx b = tx (a ++ b) := by
  apply ByteArray.ext
  rw [ByteArray.data_append]
  show a.toArray ++ b.toArray = (a ++ b).toArray
  simp
theorem tx_of (s : ByteArray) (l : List UInt8) (h : s.data.toList = l) : s = tx l := by
  subst h
  exact (tx_back s).symm
theorem sign_val' {a b c x y z : Int} (hv : Ver.goodB a b c = true) (hw : Ver.goodB x y z = true) (k : Nat) (sg : List UInt8) (hs : sgnL[k]? = some sg) (hk' : k < (wantF (Ver.numI a b c) (Ver.numI x y z) (x == a) (y == b)).length) :
    ∃ g, signL sg a b c = some g ∧ inOne (commonG (0, allG) g) (Ver.numI x y z) = (wantF (Ver.numI a b c) (Ver.numI x y z) (x == a) (y == b))[k] := by
  obtain ⟨h1, h2⟩ := List.getElem?_eq_some_iff.1 hs
  subst h2
  exact sign_val hv hw k h1 hk'
theorem sgn_cell (n : Nat) (h : n < 7) (sg : List UInt8) (hs : sgnL[n]? = some sg) : (#[Value.string ⟨#[61]⟩, .string ⟨#[62, 61]⟩, .string ⟨#[62]⟩, .string ⟨#[60]⟩, .string ⟨#[60, 61]⟩, .string ⟨#[94]⟩, .string ⟨#[126]⟩] : Array Value)[n]? = some (.string (tx sg)) := by
  match n, h with
  | 0, _ => cases hs; rfl
  | 1, _ => cases hs; rfl
  | 2, _ => cases hs; rfl
  | 3, _ => cases hs; rfl
  | 4, _ => cases hs; rfl
  | 5, _ => cases hs; rfl
  | 6, _ => cases hs; rfl
set_option maxHeartbeats 16000000 in
set_option maxRecDepth 100000 in
theorem spanSigns_all (k a b c x y z : Int) (W : World) (wk : (Lit.int .i64 k).wf = true) (wa : In64 a) (wb : In64 b) (wc : In64 c) (wx : In64 x) (wy : In64 y) (wz : In64 z) (hpw : Pw W.heap.size W) :
    Calls Tryz.prog 6 #[.int .i64 k, .agg #[.int .i64 a, .int .i64 b, .int .i64 c], .agg #[.int .i64 x, .int .i64 y, .int .i64 z]] W fun e w' => e = .returned (.bool true) ∧ Chg NoB W w' := by
  have wk2 := bounds_i64 wk
  have hal_ := (Chg.refl NoB W).alloc (.cells #[.int .i64 a, .int .i64 b, .int .i64 c] 31)
  have hb_ := heap_alloc_new W (.cells #[.int .i64 a, .int .i64 b, .int .i64 c] 31)
  obtain ⟨vb, hxb_⟩ : ∃ b, b = W.heap.size := ⟨_, rfl⟩
  obtain ⟨w1, hw_⟩ : ∃ w_, W.alloc (.cells #[.int .i64 a, .int .i64 b, .int .i64 c] 31) = w_ := ⟨_, rfl⟩
  have hz_ : w1.heap.size = vb + 1 := by rw [← hw_, hxb_]; exact alloc_size _ _
  rw [hw_] at hal_ hb_
  rw [← hxb_] at hb_
  have Hw4 := Lib.hid hw_
  have Hx4 := Lib.hid hxb_
  have Ha4 := Lib.hid hal_
  have Hb4 := Lib.hid hb_
  have Hz4 := Lib.hid hz_
  clear hal_ hb_ hxb_ hw_ hz_
  have hal_ := (Chg.refl NoB w1).alloc (.cells #[.int .i64 x, .int .i64 y, .int .i64 z] 31)
  have hb_ := heap_alloc_new w1 (.cells #[.int .i64 x, .int .i64 y, .int .i64 z] 31)
  obtain ⟨wb', hxb_⟩ : ∃ b, b = w1.heap.size := ⟨_, rfl⟩
  obtain ⟨w2, hw_⟩ : ∃ w_, w1.alloc (.cells #[.int .i64 x, .int .i64 y, .int .i64 z] 31) = w_ := ⟨_, rfl⟩
  have hz_ : w2.heap.size = wb' + 1 := by rw [← hw_, hxb_]; exact alloc_size _ _
  rw [hw_] at hal_ hb_
  rw [← hxb_] at hb_
  have Hw5 := Lib.hid hw_
  have Hx5 := Lib.hid hxb_
  have Ha5 := Lib.hid hal_
  have Hb5 := Lib.hid hb_
  have Hz5 := Lib.hid hz_
  clear hal_ hb_ hxb_ hw_ hz_
  have hw12 : vb + 1 = wb' := by rw [Hx5.out, Hz4.out]
  have HwB := Lib.hid hw12
  have Hc2 := Lib.hid (Ha4.out.trans Ha5.out)
  have HV2 := Lib.hid (row_kept Ha5.out Hb4.out id)
  have Hpw := Lib.hid (fun (W' : World) (h : Chg NoB W W') => hpw.keep h fun k h => h.elim)
  have HAL := Lib.hid (alive_any W.heap.size w2 (hpw.keep Hc2.out fun k h => h.elim))
  clear hpw hw12 wk
  go_enter Tryz.func6, Tryz.ntmps6
  go_upto_region 1 with fail
  rw [Hw4.out, Hw5.out, ← Hx4.out, HwB.out]
  go_wp2_with fail
  refine HAL.out.mono ?_
  rintro e w3 ⟨rfl, hc3⟩
  have Hc3 := Lib.hid (Hc2.out.trans hc3)
  have HV3 := Lib.hid (row_kept hc3 HV2.out id)
  have HW3 := Lib.hid (row_kept hc3 Hb5.out id)
  clear hc3 HAL
  obtain ⟨d0, d1, d2⟩ := var3 HV3.out
  obtain ⟨e0, e1, e2⟩ := var3 HW3.out
  cases hgv : Ver.goodB a b c with
  | false =>
    have HT := Lib.hid (Ver.textR_bad a b c w3 hgv)
    go_wp2_with fail
    refine HT.out.mono ?_
    rintro e w4 ⟨rfl, hc4⟩
    have Hc4 := Lib.hid (Hc3.out.trans (chg_of_below hc4))
    clear hc4 HT
    go_wp2_with fail
    go_ret
    exact ⟨rfl, Hc4.out⟩
  | true =>
  have HT := Lib.hid (Ver.textR_good a b c w3 (Hpw.out w3 Hc3.out).tb hgv)
  obtain ⟨na, nb, nc, rfl, rfl, rfl, hna, hnb, hnc⟩ : ∃ na nb nc : Nat, a = na ∧ b = nb ∧ c = nc ∧ na < 1000 ∧ nb < 1000 ∧ nc < 1000 := by
    have := good_of hgv
    exact ⟨a.toNat, b.toNat, c.toNat, by omega, by omega, by omega, by omega, by omega, by omega⟩
  rw [tx_of _ _ (Ver.dot_list na nb nc)] at HT
  have Hg := Lib.hid (fun (sg : List UInt8) (hs : sg ∈ sgnL) => sign_gaps hna hnb hnc hs)
  have htl : (Ver.dotL na nb nc).length ≤ 65 := dotL_len hna hnb hnc
  have hte : ((tx (Ver.dotL na nb nc)).toList == []) = false := by
    obtain ⟨y1, r1, hy, -⟩ := dotL_head na nb nc
    rw [txL, hy]; rfl
  generalize Ver.dotL na nb nc = t at *
  have hts : (tx t).size = t.length := tx_size t
  have HGW := Lib.hid (fun W' => Ver.goodR_any x y z W')
  have Hgv := Lib.hid hgv
  clear hna hnb hnc hgv
  go_wp2_with fail
  refine HT.out.mono ?_
  rintro e w4 ⟨rfl, hc4⟩
  have Hc4 := Lib.hid (Hc3.out.trans (chg_of_below hc4))
  have HV4 := Lib.hid (row_kept (chg_of_below hc4) HV3.out id)
  have HW4 := Lib.hid (row_kept (chg_of_below hc4) HW3.out id)
  clear hc4 HT d0 d1 d2 e0 e1 e2
  obtain ⟨d0, d1, d2⟩ := var3 HV4.out
  obtain ⟨e0, e1, e2⟩ := var3 HW4.out
  go_wp2_with fail
  refine (HGW.out w4).mono ?_
  rintro e w5 ⟨rfl, hc5⟩
  have Hc5 := Lib.hid (Hc4.out.trans (chg_of_below hc5))
  have HV5 := Lib.hid (row_kept (chg_of_below hc5) HV4.out id)
  have HW5 := Lib.hid (row_kept (chg_of_below hc5) HW4.out id)
  clear hc5 HGW d0 d1 d2 e0 e1 e2
  cases hgw : Ver.goodB x y z with
  | false =>
    go_wp2_with fail
    go_ret
    exact ⟨rfl, Hc5.out⟩
  | true =>
  by_cases k0 : k < 0
  · have f0 := decide_eq_true k0
    go_wp2_with fail
    go_ret
    exact ⟨rfl, Hc5.out⟩
  have f0 := decide_eq_false k0
  by_cases k6 : 6 < k
  · have f6 := decide_eq_true k6
    go_wp2_with fail
    go_ret
    exact ⟨rfl, Hc5.out⟩
  have f6 := decide_eq_false k6
  obtain ⟨n, rfl⟩ : ∃ n : Nat, k = n := ⟨k.toNat, by omega⟩
  have hn7 : n < 7 := by omega
  have hnl : n < sgnL.length := hn7
  obtain ⟨sg, hsg⟩ : ∃ sg, sgnL[n]? = some sg := ⟨_, List.getElem?_eq_getElem hnl⟩
  have hse : sgnL[n] = sg := Option.some.inj ((List.getElem?_eq_getElem hnl).symm.trans hsg)
  have hsm : sg ∈ sgnL := by rw [← hse]; exact List.getElem_mem hnl
  have hsl : sg.length ≤ 2 := (sgn_no sg hsm).2
  have hss : (tx sg).size = sg.length := tx_size sg
  obtain ⟨hg1, hg2, hg3⟩ := Hg.out sg hsm
  have Hsv := Lib.hid (fun hk' => sign_val' Hgv.out hgw n sg hsg hk')
  have Hgw := Lib.hid hgw
  have hal_ := (Chg.refl NoB w5).alloc (.cells #[.string ⟨#[61]⟩, .string ⟨#[62, 61]⟩, .string ⟨#[62]⟩, .string ⟨#[60]⟩, .string ⟨#[60, 61]⟩, .string ⟨#[94]⟩, .string ⟨#[126]⟩] 41)
  have hb_ := heap_alloc_new w5 (.cells #[.string ⟨#[61]⟩, .string ⟨#[62, 61]⟩, .string ⟨#[62]⟩, .string ⟨#[60]⟩, .string ⟨#[60, 61]⟩, .string ⟨#[94]⟩, .string ⟨#[126]⟩] 41)
  obtain ⟨b8, hxb_⟩ : ∃ b, b = w5.heap.size := ⟨_, rfl⟩
  obtain ⟨w6, hw_⟩ : ∃ w_, w5.alloc (.cells #[.string ⟨#[61]⟩, .string ⟨#[62, 61]⟩, .string ⟨#[62]⟩, .string ⟨#[60]⟩, .string ⟨#[60, 61]⟩, .string ⟨#[94]⟩, .string ⟨#[126]⟩] 41) = w_ := ⟨_, rfl⟩
  have hz_ : w6.heap.size = b8 + 1 := by rw [← hw_, hxb_]; exact alloc_size _ _
  rw [hw_] at hal_ hb_
  rw [← hxb_] at hb_
  have Hw8 := Lib.hid hw_
  have Hx8 := Lib.hid hxb_
  have Ha8 := Lib.hid hal_
  have Hb8 := Lib.hid hb_
  have Hz8 := Lib.hid hz_
  clear hal_ hb_ hxb_ hw_ hz_
  have c8 : w6.cell? ⟨b8, n, none⟩ = some (.string (tx sg)) := by
    rw [cell_of_row _ b8 n _ _ _ Hb8.out]; exact sgn_cell n hn7 sg hsg
  have Hc6 := Lib.hid (Hc5.out.trans Ha8.out)
  have HV6 := Lib.hid (row_kept Ha8.out HV5.out id)
  have HW6 := Lib.hid (row_kept Ha8.out HW5.out id)
  have HP := Lib.hid (show Calls Tryz.prog 9 #[.string (tx sg ++ tx t)] w6 (PsP (sg ++ t) w6) from by rw [tx_app]; exact ps_any W.heap.size (sg ++ t) w6 (by omega) (Hpw.out w6 Hc6.out))
  have Hgs := Lib.hid (And.intro hg1 (And.intro hg2 hg3))
  have hn7' : (n : Int) < 7 := by omega
  clear hg1 hg2 hg3 hsm hsg hse hgw k0 k6 Hg
  go_upto_region 7 with fail
  rw [Hw8.out, ← Hx8.out]
  go_wp2_with fail
  refine HP.out.mono ?_
  rintro e w7 hps
  obtain ⟨g, hsv, hin⟩ := Hsv.out (by rw [show (wantF (Ver.numI na nb nc) (Ver.numI x y z) (x == na) (y == nb)).length = 7 from rfl]; exact hn7)
  obtain ⟨q, m, c, d, rfl, hm, hrow, hc7, hwf, hind⟩ := ps_one Hgs.out.2.1 Hgs.out.2.2 (by rw [Hgs.out.1, hsv]; rfl) hps
  obtain ⟨kb, hgd⟩ := GapS.of_row hrow hm hwf
  have HH := Lib.hid (fun (W' : World) (h : Chg NoB w7 W') => has_any d x y z _ _ kb 0 W' (hgd.keep h fun _ _ => id))
  have Hval := Lib.hid (show (decide (0 ≤ Ver.numI x y z) && inG d (Ver.numI x y z)) = inOne (commonG (0, allG) g) (Ver.numI x y z) from by
    have g1 := good_of Hgw.out
    have g2 := Ver.num_yes Hgw.out
    rw [decide_eq_true (by omega), Bool.true_and]
    exact hind _ (by omega) (by unfold allG; omega))
  obtain ⟨hv, hhv⟩ : ∃ hv, (wantF (Ver.numI na nb nc) (Ver.numI x y z) (x == na) (y == nb))[n]? = some hv := ⟨_, List.getElem?_eq_getElem hn7⟩
  rw [Hval.out, hin, (List.getElem?_eq_some_iff.1 hhv).2] at HH
  have Hhv := Lib.hid hhv
  have Hc7 := Lib.hid (Hc6.out.trans hc7)
  have HV7 := Lib.hid (row_kept hc7 HV6.out id)
  have HW7 := Lib.hid (row_kept hc7 HW6.out id)
  clear hps hsv hin hm hrow hc7 hwf hind hgd c8 HP Hsv hhv
  obtain ⟨d0, d1, d2⟩ := var3 HV7.out
  obtain ⟨e0, e1, e2⟩ := var3 HW7.out
  have HC := Lib.hid (cmp_any x y z na nb nc Hgw.out Hgv.out w7)
  have Hyv := Lib.hid (And.intro (good_of Hgv.out) (And.intro (good_of Hgw.out) (And.intro (Ver.num_yes Hgv.out) (Ver.num_yes Hgw.out))))
  generalize Ver.numI na nb nc = Nv at *
  generalize Ver.numI x y z = Nw at *
  obtain ⟨p1, hp1⟩ : ∃ p, (x == (na : Int)) = p := ⟨_, rfl⟩
  obtain ⟨p2, hp2⟩ : ∃ p, (y == (nb : Int)) = p := ⟨_, rfl⟩
  rw [hp1, hp2] at Hhv
  clear Hyv Hval
  rcases Int.lt_trichotomy Nw Nv with hlt | heq | hgt
  · have hr : cmpI Nw Nv = -1 := if_pos hlt
    have hwl : wantF Nv Nw p1 p2 = [false, false, false, true, true, false, false] := by
      unfold wantF
      rw [decide_eq_false (show ¬ Nw = Nv by omega), decide_eq_false (show ¬ Nv ≤ Nw by omega), decide_eq_false (show ¬ Nv < Nw by omega), decide_eq_true hlt, decide_eq_true (show Nw ≤ Nv by omega)]
      rfl
    rw [hr] at HC
    clear hr hlt
    go_wp2_with fail
    refine HC.out.mono ?_
    rintro e w8 ⟨rfl, hc8⟩
    have Hc8 := Lib.hid (Hc7.out.trans hc8)
    have Hd8 := Lib.hid hc8
    have HV8 := Lib.hid (row_kept hc8 HV7.out id)
    have HW8 := Lib.hid (row_kept hc8 HW7.out id)
    clear hc8 d0 d1 d2 e0 e1 e2 HC
    obtain ⟨d0, d1, d2⟩ := var3 HV8.out
    obtain ⟨e0, e1, e2⟩ := var3 HW8.out
    have hal_ := (Chg.refl NoB w8).alloc (.cells #[.bool false, .bool false, .bool false, .bool true, .bool true, .bool false, .bool false] 43)
    have hb_ := heap_alloc_new w8 (.cells #[.bool false, .bool false, .bool false, .bool true, .bool true, .bool false, .bool false] 43)
    obtain ⟨b12, hxb_⟩ : ∃ b, b = w8.heap.size := ⟨_, rfl⟩
    obtain ⟨w9, hw_⟩ : ∃ w_, w8.alloc (.cells #[.bool false, .bool false, .bool false, .bool true, .bool true, .bool false, .bool false] 43) = w_ := ⟨_, rfl⟩
    have hz_ : w9.heap.size = b12 + 1 := by rw [← hw_, hxb_]; exact alloc_size _ _
    rw [hw_] at hal_ hb_
    rw [← hxb_] at hb_
    have Hw12 := Lib.hid hw_
    have Hx12 := Lib.hid hxb_
    have Ha12 := Lib.hid hal_
    have Hb12 := Lib.hid hb_
    have Hz12 := Lib.hid hz_
    clear hal_ hb_ hxb_ hw_ hz_
    have c12 : w9.cell? ⟨b12, n, none⟩ = some (.bool hv) := by
      rw [cell_of_row _ b12 n _ _ _ Hb12.out]
      exact bool_cell _ _ _ _ _ _ _ n hn7 hv (by have h := Hhv.out; rw [hwl] at h; exact h)
    have HW9 := Lib.hid (row_kept Ha12.out HW8.out id)
    have HcF9 := Lib.hid (Hc8.out.trans Ha12.out)
    have HHd := Lib.hid (HH.out w9.drew (Hd8.out.trans (Ha12.out.trans (Chg.refl NoB w9).drew)))
    clear hwl
    go_upto_region 12 with fail
    rw [Hw12.out, ← Hx12.out]
    clear d0 d1 d2 e0 e1 e2
    obtain ⟨e0, e1, e2⟩ := var3 HW9.out
    have hA := And.intro e0 (And.intro e1 (And.intro e2 c12))
    go_region_held3 (fun w' => w'.cell? ⟨wb', 0, none⟩ = some (.int .i64 x) ∧ w'.cell? ⟨wb', 1, none⟩ = some (.int .i64 y) ∧ w'.cell? ⟨wb', 2, none⟩ = some (.int .i64 z) ∧ w'.cell? ⟨b12, n, none⟩ = some (.bool hv))
      (first | exact hB | exact hA)
      (first | (go_at_call 14; refine HHd.out.mono ?_; rintro e w10 ⟨rfl, hc10'⟩; have hc10 : Chg NoB w9 w10 := (Chg.refl NoB w9).drew.trans hc10'; have hB := And.intro (hc10.keep e0) (And.intro (hc10.keep e1) (And.intro (hc10.keep e2) (hc10.keep c12)))))
    all_goals
      have HcF := Lib.hid (HcF9.out.trans hc10)
      clear hA hB hc10 e0 e1 e2 c12
      go_wp2_with fail
      go_ret
      exact ⟨rfl, HcF.out⟩
  · have hr : cmpI Nw Nv = 0 := by unfold cmpI; rw [if_neg (by omega), if_neg (by omega)]
    have hwl : wantF Nv Nw p1 p2 = [true, true, false, false, true, p1, p1 && p2] := by
      unfold wantF
      rw [decide_eq_true heq, decide_eq_true (show Nv ≤ Nw by omega), decide_eq_false (show ¬ Nv < Nw by omega), decide_eq_false (show ¬ Nw < Nv by omega), decide_eq_true (show Nw ≤ Nv by omega)]
      simp
    rw [hr] at HC
    clear hr heq
    cases p1 with
    | false =>
      go_wp2_with fail
      refine HC.out.mono ?_
      rintro e w8 ⟨rfl, hc8⟩
      have Hc8 := Lib.hid (Hc7.out.trans hc8)
      have Hd8 := Lib.hid hc8
      have HV8 := Lib.hid (row_kept hc8 HV7.out id)
      have HW8 := Lib.hid (row_kept hc8 HW7.out id)
      clear hc8 d0 d1 d2 e0 e1 e2 HC
      obtain ⟨d0, d1, d2⟩ := var3 HV8.out
      obtain ⟨e0, e1, e2⟩ := var3 HW8.out
      have hal_ := (Chg.refl NoB w8).alloc (.cells #[.bool true, .bool true, .bool false, .bool false, .bool true, .bool false, .bool false] 43)
      have hb_ := heap_alloc_new w8 (.cells #[.bool true, .bool true, .bool false, .bool false, .bool true, .bool false, .bool false] 43)
      obtain ⟨b12, hxb_⟩ : ∃ b, b = w8.heap.size := ⟨_, rfl⟩
      obtain ⟨w9, hw_⟩ : ∃ w_, w8.alloc (.cells #[.bool true, .bool true, .bool false, .bool false, .bool true, .bool false, .bool false] 43) = w_ := ⟨_, rfl⟩
      have hz_ : w9.heap.size = b12 + 1 := by rw [← hw_, hxb_]; exact alloc_size _ _
      rw [hw_] at hal_ hb_
      rw [← hxb_] at hb_
      have Hw12 := Lib.hid hw_
      have Hx12 := Lib.hid hxb_
      have Ha12 := Lib.hid hal_
      have Hb12 := Lib.hid hb_
      have Hz12 := Lib.hid hz_
      clear hal_ hb_ hxb_ hw_ hz_
      have c12 : w9.cell? ⟨b12, n, none⟩ = some (.bool hv) := by
        rw [cell_of_row _ b12 n _ _ _ Hb12.out]
        exact bool_cell _ _ _ _ _ _ _ n hn7 hv (by have h := Hhv.out; rw [hwl] at h; exact h)
      have HW9 := Lib.hid (row_kept Ha12.out HW8.out id)
      have HcF9 := Lib.hid (Hc8.out.trans Ha12.out)
      have HHd := Lib.hid (HH.out w9.drew (Hd8.out.trans (Ha12.out.trans (Chg.refl NoB w9).drew)))
      clear hwl
      go_upto_region 12 with fail
      rw [Hw12.out, ← Hx12.out]
      clear d0 d1 d2 e0 e1 e2
      obtain ⟨e0, e1, e2⟩ := var3 HW9.out
      have hA := And.intro e0 (And.intro e1 (And.intro e2 c12))
      go_region_held3 (fun w' => w'.cell? ⟨wb', 0, none⟩ = some (.int .i64 x) ∧ w'.cell? ⟨wb', 1, none⟩ = some (.int .i64 y) ∧ w'.cell? ⟨wb', 2, none⟩ = some (.int .i64 z) ∧ w'.cell? ⟨b12, n, none⟩ = some (.bool hv))
        (first | exact hB | exact hA)
        (first | (go_at_call 14; refine HHd.out.mono ?_; rintro e w10 ⟨rfl, hc10'⟩; have hc10 : Chg NoB w9 w10 := (Chg.refl NoB w9).drew.trans hc10'; have hB := And.intro (hc10.keep e0) (And.intro (hc10.keep e1) (And.intro (hc10.keep e2) (hc10.keep c12)))))
      all_goals
        have HcF := Lib.hid (HcF9.out.trans hc10)
        clear hA hB hc10 e0 e1 e2 c12
        go_wp2_with fail
        go_ret
        exact ⟨rfl, HcF.out⟩
    | true =>
      cases p2 with
      | false =>
        go_wp2_with fail
        refine HC.out.mono ?_
        rintro e w8 ⟨rfl, hc8⟩
        have Hc8 := Lib.hid (Hc7.out.trans hc8)
        have Hd8 := Lib.hid hc8
        have HV8 := Lib.hid (row_kept hc8 HV7.out id)
        have HW8 := Lib.hid (row_kept hc8 HW7.out id)
        clear hc8 d0 d1 d2 e0 e1 e2 HC
        obtain ⟨d0, d1, d2⟩ := var3 HV8.out
        obtain ⟨e0, e1, e2⟩ := var3 HW8.out
        have hal_ := (Chg.refl NoB w8).alloc (.cells #[.bool true, .bool true, .bool false, .bool false, .bool true, .bool true, .bool false] 43)
        have hb_ := heap_alloc_new w8 (.cells #[.bool true, .bool true, .bool false, .bool false, .bool true, .bool true, .bool false] 43)
        obtain ⟨b12, hxb_⟩ : ∃ b, b = w8.heap.size := ⟨_, rfl⟩
        obtain ⟨w9, hw_⟩ : ∃ w_, w8.alloc (.cells #[.bool true, .bool true, .bool false, .bool false, .bool true, .bool true, .bool false] 43) = w_ := ⟨_, rfl⟩
        have hz_ : w9.heap.size = b12 + 1 := by rw [← hw_, hxb_]; exact alloc_size _ _
        rw [hw_] at hal_ hb_
        rw [← hxb_] at hb_
        have Hw12 := Lib.hid hw_
        have Hx12 := Lib.hid hxb_
        have Ha12 := Lib.hid hal_
        have Hb12 := Lib.hid hb_
        have Hz12 := Lib.hid hz_
        clear hal_ hb_ hxb_ hw_ hz_
        have c12 : w9.cell? ⟨b12, n, none⟩ = some (.bool hv) := by
          rw [cell_of_row _ b12 n _ _ _ Hb12.out]
          exact bool_cell _ _ _ _ _ _ _ n hn7 hv (by have h := Hhv.out; rw [hwl] at h; exact h)
        have HW9 := Lib.hid (row_kept Ha12.out HW8.out id)
        have HcF9 := Lib.hid (Hc8.out.trans Ha12.out)
        have HHd := Lib.hid (HH.out w9.drew (Hd8.out.trans (Ha12.out.trans (Chg.refl NoB w9).drew)))
        clear hwl
        go_upto_region 12 with fail
        rw [Hw12.out, ← Hx12.out]
        clear d0 d1 d2 e0 e1 e2
        obtain ⟨e0, e1, e2⟩ := var3 HW9.out
        have hA := And.intro e0 (And.intro e1 (And.intro e2 c12))
        go_region_held3 (fun w' => w'.cell? ⟨wb', 0, none⟩ = some (.int .i64 x) ∧ w'.cell? ⟨wb', 1, none⟩ = some (.int .i64 y) ∧ w'.cell? ⟨wb', 2, none⟩ = some (.int .i64 z) ∧ w'.cell? ⟨b12, n, none⟩ = some (.bool hv))
          (first | exact hB | exact hA)
          (first | (go_at_call 14; refine HHd.out.mono ?_; rintro e w10 ⟨rfl, hc10'⟩; have hc10 : Chg NoB w9 w10 := (Chg.refl NoB w9).drew.trans hc10'; have hB := And.intro (hc10.keep e0) (And.intro (hc10.keep e1) (And.intro (hc10.keep e2) (hc10.keep c12)))))
        all_goals
          have HcF := Lib.hid (HcF9.out.trans hc10)
          clear hA hB hc10 e0 e1 e2 c12
          go_wp2_with fail
          go_ret
          exact ⟨rfl, HcF.out⟩
      | true =>
        go_wp2_with fail
        refine HC.out.mono ?_
        rintro e w8 ⟨rfl, hc8⟩
        have Hc8 := Lib.hid (Hc7.out.trans hc8)
        have Hd8 := Lib.hid hc8
        have HV8 := Lib.hid (row_kept hc8 HV7.out id)
        have HW8 := Lib.hid (row_kept hc8 HW7.out id)
        clear hc8 d0 d1 d2 e0 e1 e2 HC
        obtain ⟨d0, d1, d2⟩ := var3 HV8.out
        obtain ⟨e0, e1, e2⟩ := var3 HW8.out
        have hal_ := (Chg.refl NoB w8).alloc (.cells #[.bool true, .bool true, .bool false, .bool false, .bool true, .bool true, .bool true] 43)
        have hb_ := heap_alloc_new w8 (.cells #[.bool true, .bool true, .bool false, .bool false, .bool true, .bool true, .bool true] 43)
        obtain ⟨b12, hxb_⟩ : ∃ b, b = w8.heap.size := ⟨_, rfl⟩
        obtain ⟨w9, hw_⟩ : ∃ w_, w8.alloc (.cells #[.bool true, .bool true, .bool false, .bool false, .bool true, .bool true, .bool true] 43) = w_ := ⟨_, rfl⟩
        have hz_ : w9.heap.size = b12 + 1 := by rw [← hw_, hxb_]; exact alloc_size _ _
        rw [hw_] at hal_ hb_
        rw [← hxb_] at hb_
        have Hw12 := Lib.hid hw_
        have Hx12 := Lib.hid hxb_
        have Ha12 := Lib.hid hal_
        have Hb12 := Lib.hid hb_
        have Hz12 := Lib.hid hz_
        clear hal_ hb_ hxb_ hw_ hz_
        have c12 : w9.cell? ⟨b12, n, none⟩ = some (.bool hv) := by
          rw [cell_of_row _ b12 n _ _ _ Hb12.out]
          exact bool_cell _ _ _ _ _ _ _ n hn7 hv (by have h := Hhv.out; rw [hwl] at h; exact h)
        have HW9 := Lib.hid (row_kept Ha12.out HW8.out id)
        have HcF9 := Lib.hid (Hc8.out.trans Ha12.out)
        have HHd := Lib.hid (HH.out w9.drew (Hd8.out.trans (Ha12.out.trans (Chg.refl NoB w9).drew)))
        clear hwl
        go_upto_region 12 with fail
        rw [Hw12.out, ← Hx12.out]
        clear d0 d1 d2 e0 e1 e2
        obtain ⟨e0, e1, e2⟩ := var3 HW9.out
        have hA := And.intro e0 (And.intro e1 (And.intro e2 c12))
        go_region_held3 (fun w' => w'.cell? ⟨wb', 0, none⟩ = some (.int .i64 x) ∧ w'.cell? ⟨wb', 1, none⟩ = some (.int .i64 y) ∧ w'.cell? ⟨wb', 2, none⟩ = some (.int .i64 z) ∧ w'.cell? ⟨b12, n, none⟩ = some (.bool hv))
          (first | exact hB | exact hA)
          (first | (go_at_call 14; refine HHd.out.mono ?_; rintro e w10 ⟨rfl, hc10'⟩; have hc10 : Chg NoB w9 w10 := (Chg.refl NoB w9).drew.trans hc10'; have hB := And.intro (hc10.keep e0) (And.intro (hc10.keep e1) (And.intro (hc10.keep e2) (hc10.keep c12)))))
        all_goals
          have HcF := Lib.hid (HcF9.out.trans hc10)
          clear hA hB hc10 e0 e1 e2 c12
          go_wp2_with fail
          go_ret
          exact ⟨rfl, HcF.out⟩
  · have hr : cmpI Nw Nv = 1 := by unfold cmpI; rw [if_neg (by omega), if_pos hgt]
    have hwl : wantF Nv Nw p1 p2 = [false, true, true, false, false, p1, p1 && p2] := by
      unfold wantF
      rw [decide_eq_false (show ¬ Nw = Nv by omega), decide_eq_true (show Nv ≤ Nw by omega), decide_eq_true hgt, decide_eq_false (show ¬ Nw < Nv by omega), decide_eq_false (show ¬ Nw ≤ Nv by omega)]
      simp
    rw [hr] at HC
    clear hr hgt
    cases p1 with
    | false =>
      go_wp2_with fail
      refine HC.out.mono ?_
      rintro e w8 ⟨rfl, hc8⟩
      have Hc8 := Lib.hid (Hc7.out.trans hc8)
      have Hd8 := Lib.hid hc8
      have HV8 := Lib.hid (row_kept hc8 HV7.out id)
      have HW8 := Lib.hid (row_kept hc8 HW7.out id)
      clear hc8 d0 d1 d2 e0 e1 e2 HC
      obtain ⟨d0, d1, d2⟩ := var3 HV8.out
      obtain ⟨e0, e1, e2⟩ := var3 HW8.out
      have hal_ := (Chg.refl NoB w8).alloc (.cells #[.bool false, .bool true, .bool true, .bool false, .bool false, .bool false, .bool false] 43)
      have hb_ := heap_alloc_new w8 (.cells #[.bool false, .bool true, .bool true, .bool false, .bool false, .bool false, .bool false] 43)
      obtain ⟨b12, hxb_⟩ : ∃ b, b = w8.heap.size := ⟨_, rfl⟩
      obtain ⟨w9, hw_⟩ : ∃ w_, w8.alloc (.cells #[.bool false, .bool true, .bool true, .bool false, .bool false, .bool false, .bool false] 43) = w_ := ⟨_, rfl⟩
      have hz_ : w9.heap.size = b12 + 1 := by rw [← hw_, hxb_]; exact alloc_size _ _
      rw [hw_] at hal_ hb_
      rw [← hxb_] at hb_
      have Hw12 := Lib.hid hw_
      have Hx12 := Lib.hid hxb_
      have Ha12 := Lib.hid hal_
      have Hb12 := Lib.hid hb_
      have Hz12 := Lib.hid hz_
      clear hal_ hb_ hxb_ hw_ hz_
      have c12 : w9.cell? ⟨b12, n, none⟩ = some (.bool hv) := by
        rw [cell_of_row _ b12 n _ _ _ Hb12.out]
        exact bool_cell _ _ _ _ _ _ _ n hn7 hv (by have h := Hhv.out; rw [hwl] at h; exact h)
      have HW9 := Lib.hid (row_kept Ha12.out HW8.out id)
      have HcF9 := Lib.hid (Hc8.out.trans Ha12.out)
      have HHd := Lib.hid (HH.out w9.drew (Hd8.out.trans (Ha12.out.trans (Chg.refl NoB w9).drew)))
      clear hwl
      go_upto_region 12 with fail
      rw [Hw12.out, ← Hx12.out]
      clear d0 d1 d2 e0 e1 e2
      obtain ⟨e0, e1, e2⟩ := var3 HW9.out
      have hA := And.intro e0 (And.intro e1 (And.intro e2 c12))
      go_region_held3 (fun w' => w'.cell? ⟨wb', 0, none⟩ = some (.int .i64 x) ∧ w'.cell? ⟨wb', 1, none⟩ = some (.int .i64 y) ∧ w'.cell? ⟨wb', 2, none⟩ = some (.int .i64 z) ∧ w'.cell? ⟨b12, n, none⟩ = some (.bool hv))
        (first | exact hB | exact hA)
        (first | (go_at_call 14; refine HHd.out.mono ?_; rintro e w10 ⟨rfl, hc10'⟩; have hc10 : Chg NoB w9 w10 := (Chg.refl NoB w9).drew.trans hc10'; have hB := And.intro (hc10.keep e0) (And.intro (hc10.keep e1) (And.intro (hc10.keep e2) (hc10.keep c12)))))
      all_goals
        have HcF := Lib.hid (HcF9.out.trans hc10)
        clear hA hB hc10 e0 e1 e2 c12
        go_wp2_with fail
        go_ret
        exact ⟨rfl, HcF.out⟩
    | true =>
      cases p2 with
      | false =>
        go_wp2_with fail
        refine HC.out.mono ?_
        rintro e w8 ⟨rfl, hc8⟩
        have Hc8 := Lib.hid (Hc7.out.trans hc8)
        have Hd8 := Lib.hid hc8
        have HV8 := Lib.hid (row_kept hc8 HV7.out id)
        have HW8 := Lib.hid (row_kept hc8 HW7.out id)
        clear hc8 d0 d1 d2 e0 e1 e2 HC
        obtain ⟨d0, d1, d2⟩ := var3 HV8.out
        obtain ⟨e0, e1, e2⟩ := var3 HW8.out
        have hal_ := (Chg.refl NoB w8).alloc (.cells #[.bool false, .bool true, .bool true, .bool false, .bool false, .bool true, .bool false] 43)
        have hb_ := heap_alloc_new w8 (.cells #[.bool false, .bool true, .bool true, .bool false, .bool false, .bool true, .bool false] 43)
        obtain ⟨b12, hxb_⟩ : ∃ b, b = w8.heap.size := ⟨_, rfl⟩
        obtain ⟨w9, hw_⟩ : ∃ w_, w8.alloc (.cells #[.bool false, .bool true, .bool true, .bool false, .bool false, .bool true, .bool false] 43) = w_ := ⟨_, rfl⟩
        have hz_ : w9.heap.size = b12 + 1 := by rw [← hw_, hxb_]; exact alloc_size _ _
        rw [hw_] at hal_ hb_
        rw [← hxb_] at hb_
        have Hw12 := Lib.hid hw_
        have Hx12 := Lib.hid hxb_
        have Ha12 := Lib.hid hal_
        have Hb12 := Lib.hid hb_
        have Hz12 := Lib.hid hz_
        clear hal_ hb_ hxb_ hw_ hz_
        have c12 : w9.cell? ⟨b12, n, none⟩ = some (.bool hv) := by
          rw [cell_of_row _ b12 n _ _ _ Hb12.out]
          exact bool_cell _ _ _ _ _ _ _ n hn7 hv (by have h := Hhv.out; rw [hwl] at h; exact h)
        have HW9 := Lib.hid (row_kept Ha12.out HW8.out id)
        have HcF9 := Lib.hid (Hc8.out.trans Ha12.out)
        have HHd := Lib.hid (HH.out w9.drew (Hd8.out.trans (Ha12.out.trans (Chg.refl NoB w9).drew)))
        clear hwl
        go_upto_region 12 with fail
        rw [Hw12.out, ← Hx12.out]
        clear d0 d1 d2 e0 e1 e2
        obtain ⟨e0, e1, e2⟩ := var3 HW9.out
        have hA := And.intro e0 (And.intro e1 (And.intro e2 c12))
        go_region_held3 (fun w' => w'.cell? ⟨wb', 0, none⟩ = some (.int .i64 x) ∧ w'.cell? ⟨wb', 1, none⟩ = some (.int .i64 y) ∧ w'.cell? ⟨wb', 2, none⟩ = some (.int .i64 z) ∧ w'.cell? ⟨b12, n, none⟩ = some (.bool hv))
          (first | exact hB | exact hA)
          (first | (go_at_call 14; refine HHd.out.mono ?_; rintro e w10 ⟨rfl, hc10'⟩; have hc10 : Chg NoB w9 w10 := (Chg.refl NoB w9).drew.trans hc10'; have hB := And.intro (hc10.keep e0) (And.intro (hc10.keep e1) (And.intro (hc10.keep e2) (hc10.keep c12)))))
        all_goals
          have HcF := Lib.hid (HcF9.out.trans hc10)
          clear hA hB hc10 e0 e1 e2 c12
          go_wp2_with fail
          go_ret
          exact ⟨rfl, HcF.out⟩
      | true =>
        go_wp2_with fail
        refine HC.out.mono ?_
        rintro e w8 ⟨rfl, hc8⟩
        have Hc8 := Lib.hid (Hc7.out.trans hc8)
        have Hd8 := Lib.hid hc8
        have HV8 := Lib.hid (row_kept hc8 HV7.out id)
        have HW8 := Lib.hid (row_kept hc8 HW7.out id)
        clear hc8 d0 d1 d2 e0 e1 e2 HC
        obtain ⟨d0, d1, d2⟩ := var3 HV8.out
        obtain ⟨e0, e1, e2⟩ := var3 HW8.out
        have hal_ := (Chg.refl NoB w8).alloc (.cells #[.bool false, .bool true, .bool true, .bool false, .bool false, .bool true, .bool true] 43)
        have hb_ := heap_alloc_new w8 (.cells #[.bool false, .bool true, .bool true, .bool false, .bool false, .bool true, .bool true] 43)
        obtain ⟨b12, hxb_⟩ : ∃ b, b = w8.heap.size := ⟨_, rfl⟩
        obtain ⟨w9, hw_⟩ : ∃ w_, w8.alloc (.cells #[.bool false, .bool true, .bool true, .bool false, .bool false, .bool true, .bool true] 43) = w_ := ⟨_, rfl⟩
        have hz_ : w9.heap.size = b12 + 1 := by rw [← hw_, hxb_]; exact alloc_size _ _
        rw [hw_] at hal_ hb_
        rw [← hxb_] at hb_
        have Hw12 := Lib.hid hw_
        have Hx12 := Lib.hid hxb_
        have Ha12 := Lib.hid hal_
        have Hb12 := Lib.hid hb_
        have Hz12 := Lib.hid hz_
        clear hal_ hb_ hxb_ hw_ hz_
        have c12 : w9.cell? ⟨b12, n, none⟩ = some (.bool hv) := by
          rw [cell_of_row _ b12 n _ _ _ Hb12.out]
          exact bool_cell _ _ _ _ _ _ _ n hn7 hv (by have h := Hhv.out; rw [hwl] at h; exact h)
        have HW9 := Lib.hid (row_kept Ha12.out HW8.out id)
        have HcF9 := Lib.hid (Hc8.out.trans Ha12.out)
        have HHd := Lib.hid (HH.out w9.drew (Hd8.out.trans (Ha12.out.trans (Chg.refl NoB w9).drew)))
        clear hwl
        go_upto_region 12 with fail
        rw [Hw12.out, ← Hx12.out]
        clear d0 d1 d2 e0 e1 e2
        obtain ⟨e0, e1, e2⟩ := var3 HW9.out
        have hA := And.intro e0 (And.intro e1 (And.intro e2 c12))
        go_region_held3 (fun w' => w'.cell? ⟨wb', 0, none⟩ = some (.int .i64 x) ∧ w'.cell? ⟨wb', 1, none⟩ = some (.int .i64 y) ∧ w'.cell? ⟨wb', 2, none⟩ = some (.int .i64 z) ∧ w'.cell? ⟨b12, n, none⟩ = some (.bool hv))
          (first | exact hB | exact hA)
          (first | (go_at_call 14; refine HHd.out.mono ?_; rintro e w10 ⟨rfl, hc10'⟩; have hc10 : Chg NoB w9 w10 := (Chg.refl NoB w9).drew.trans hc10'; have hB := And.intro (hc10.keep e0) (And.intro (hc10.keep e1) (And.intro (hc10.keep e2) (hc10.keep c12)))))
        all_goals
          have HcF := Lib.hid (HcF9.out.trans hc10)
          clear hA hB hc10 e0 e1 e2 c12
          go_wp2_with fail
          go_ret
          exact ⟨rfl, HcF.out⟩
/-FRAME-/
set_option maxRecDepth 100000 in
theorem spanSigns_lifted (os : Os) (started : os.Started) (H : Type) (enc : TypeId × Value → H) :
    ReturnsInHanded {} Tryz.checked os 6 .any (fun w args => (Rows.spanSignsSpec.pre enc Tryz.prog Tryz.f6 [] false w args ∧ laidMetH Tryz.prog Rows.spanSignsRow.laid w) ∧ sizedMet enc Tryz.prog Tryz.f6 (OpenSpec.ofChange Rows.spanSignsSpec) false w args)
      (Rows.spanSignsSpec.post enc Tryz.prog Tryz.f6 false true false false) := by
  refine returns_both (C := Tryz.checked) (X := fun w _ => laidMetH Tryz.prog Rows.spanSignsRow.laid w) (fun _ _ _ hh h => h.of_heap hh) Tryz.own started (by kernel_rfl) Tryz.func6
    (ChangeSpec.witness_shaped (enc := enc) (C := Tryz.checked) (os := os) (X := fun w _ => laidMetH Tryz.prog Rows.spanSignsRow.laid w) false (World.laidAll Tryz.prog os Rows.spanSignsRow.laid) #[.int .i64 0, .agg #[.int .i64 0, .int .i64 0, .int .i64 0], .agg #[.int .i64 0, .int .i64 0, .int .i64 0]] 8 (World.laidAll_os _ _ _)
      (World.shaped_of_ZipB (by kernel_rfl) (by kernel_rfl)) (by kernel_rfl) (by kernel_rfl) (by kernel_rfl)
      (by rw [MakeChecks.laidMetH_plain _ _ _ (by kernel_rfl)]; exact laidMet_laidAll _ (by kernel_rfl) (by kernel_rfl))) ?_
  intro W base args ds gs before hval0 hW _ hsz hL hsh _
  have hval : ∀ (j : Nat) t v, Tryz.f6.params[j]? = some t → args[j]? = some v → Value.okWide Tryz.prog W .any base t v := hval0
  have hW' := hW
  obtain ⟨p, q, hA0, hV, rfl, _, _⟩ := hW
  have hA : DataW.TrodAll enc Tryz.prog W 0 (fun _ => true) true Tryz.f6.params.toList args.toList ds p := hA0
  have hsz1 : (DataW.weightsEach Tryz.prog (Tryz.f6.params.toList ++ Rows.spanSignsSpec.plain.varTypes Tryz.prog) (ds ++ gs)).all (· ≤ reachBytes) = true := hsz
  rw [Tryz.params6] at hA hval hsz1
  obtain ⟨v0, v1, v2, d0, d1, d2, p0, p1, p2, rfl, rfl, rfl, h0, h1, h2⟩ := trodAll_three hA
  obtain ⟨rfl, rfl⟩ := trodVars_none hV
  obtain ⟨x0, rfl, rfl, rfl, wx0⟩ := open_int Tryz.underlying3 (hval 0 3 v0 rfl rfl) h0
  obtain ⟨x1, y1, z1, rfl, wx1, wy1, wz1⟩ := open_version (hval 1 31 v1 rfl rfl) h1
  obtain ⟨x2, y2, z2, rfl, wx2, wy2, wz2⟩ := open_version (hval 2 31 v2 rfl rfl) h2
  simp only [List.append_nil] at hW'
  rw [MakeChecks.laidMetH_plain _ _ _ (by kernel_rfl)] at hL
  have hpw : Pw W.heap.size W := pw_of hL hsh
  clear hA0 hval0
  refine (spanSigns_all x0 x1 y1 z1 x2 y2 z2 W wx0 wx1 wy1 wz1 wx2 wy2 wz2 hpw).mono fun e W' ⟨he, hb⟩ => ?_
  subst he
  exact ⟨_, rfl, _, _, _, [], _, [], hW', trodAll_mk1 (shut_bool Tryz.underlying4 _), (trodAll_cons_mk (shut_int Tryz.underlying3 wx0) (trodAll_cons_mk (version_stays h1 hb.below) (trodAll_cons_mk (version_stays h2 hb.below) trodAll_mk0))), rfl, hb.below.frame _, fun h => by cases h⟩
theorem spanSigns_holds : Rows.SpanSignsSaid :=
  OpenClaim.holds_of_wide 6 Tryz.f6 rfl rfl rfl rfl rfl rfl rfl ⟨rfl, rfl, rfl, rfl, rfl⟩ rfl rfl rfl rfl rfl (by kernel_rfl) Tryz.func6 (by kernel_rfl)
    (of_decide_eq_true (by kernel_rfl)) (by unfold Func.isWrapper; first | (rw [if_pos (by decide +kernel)]; kernel_rfl) | (rw [if_neg (by decide +kernel)]; exact ⟨rfl, rfl⟩))
    (fun os started H enc _ => spanSigns_lifted os started H enc)
theorem spanSigns_card : Rows.SpanSignsCardSaid :=
  Claim7.holds_tied_plain_at .later [] [.data, .data, .data, .data, .sentinel, .sentinel, .pinned] true (true, "08b08e35c6dc5aaa2b28500e9004efc212e1807fe65932fcd6fc137e44494a1d") true spanSigns_holds (fun _ h => by cases h) (by kernel_rfl) (fun _ h => by cases h) spanSigns_row_tie rfl ⟨rfl, rfl⟩ (by kernel_rfl) rfl
    (fun f fn hf hfn => by
      obtain rfl : f = 6 := Option.some.inj ((show Tryz.prog.funcNamed "sapling/saplinglaw07.SpanSigns" = some 6 by kernel_rfl).symm.trans hf) |>.symm
      obtain rfl : fn = Tryz.f6 := (Option.some.inj (Tryz.func6.symm.trans hfn)).symm
      exact ⟨by kernel_rfl, fun j t ht => by
        rw [Tryz.params6] at ht
        have hm : t ∈ [3, 31, 31] := by simpa using Array.mem_of_getElem? ht
        have hall : ([3, 31, 31].all fun u => !Tryz.prog.wantsStandIn u) = true := by kernel_rfl
        exact (show Tryz.prog.wantsStandIn t = false by simpa using List.all_eq_true.1 hall t hm)⟩)
    (by kernel_rfl)
#print axioms spanSigns_card
end Go.Proofs.YtaijhebjjbcdfaaGreatDoor
