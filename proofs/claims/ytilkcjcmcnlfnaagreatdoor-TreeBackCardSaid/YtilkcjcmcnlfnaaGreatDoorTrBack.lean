/- Proved: the statement TreeBack holds for every two trees and file. Conditions: the listed package variables read as the program's text lays them (the card ties them); nothing else. -/
import Derived.Test.YtilkcjcmcnlfnaaGreatDoorTrKit
import Derived.Test.YtilkcjcmcnlfnaaGreatDoorTrMount
namespace Go.Proofs.YtilkcjcmcnlfnaaGreatDoor
set_option linter.unusedVariables false
open Go.ChangeShapes Go.WideShapes Go.ChangeAt Go.RowKit
open Go.ChangeMaps (open_string shut_string)
set_option maxHeartbeats 16000000 in
set_option maxRecDepth 20000 in
theorem treeBack_all (l : List FileL) (v : Value) (kb ko : Nat) (f : FileL) (u : List FileL) (v' : Value) (jb jo : Nat) (W : World) (hs : InpS W (OldB W) v l kb ko) (hr : Reach l) (hrf : ReachF f) (hu : InpS W (OldB W) v' u jb jo) (hru : Reach u) (hlb : Lw W.heap.size W) (hml : Pth.Ml W) :
    Calls Tryz.prog 7 #[.agg #[v], .agg #[.string (tx f.1), .string (tx f.2)], .agg #[v']] W fun e w' => e = .returned (.bool true) ∧ Chg NoB W w' := by
  obtain ⟨f1, f2⟩ := f
  have Hs := Lib.hid (fun w' (h : Chg NoB W w') => hs.keep h fun _ _ => id)
  have Hu := Lib.hid (fun w' (h : Chg NoB W w') => hu.keep h fun _ _ => id)
  obtain ⟨⟨q, c, rfl, h1, h2, h3⟩, hat⟩ := hs
  have Hat := Lib.hid hat
  have H3 := Lib.hid h3
  unfold maxLen at h2
  obtain ⟨⟨q', c', rfl, -, -, -⟩, -⟩ := hu
  obtain ⟨n, hn⟩ : ∃ n, n = l.length := ⟨_, rfl⟩
  obtain ⟨n', hn'⟩ : ∃ n, n = u.length := ⟨_, rfl⟩
  rw [← hn] at Hs h1 ⊢
  rw [← hn'] at Hu ⊢
  have Hn := Lib.hid hn
  have Hn' := Lib.hid hn'
  show Calls _ _ #[_, .agg #[.string (tx f1), .string (tx f2)], _] _ _
  have Hr := Lib.hid hr
  have Hru := Lib.hid hru
  have Hrf := Lib.hid hrf
  have Hlb := Lib.hid hlb
  have Hml := Lib.hid hml
  clear hn hn' hr hru hrf hlb hml h3 hat
  have hal_ := (Chg.refl NoB W).alloc (.cells #[.slice q n c] 26)
  have hb_ := heap_alloc_new W (.cells #[.slice q n c] 26)
  obtain ⟨tb, hxb_⟩ : ∃ b, b = W.heap.size := ⟨_, rfl⟩
  obtain ⟨w1, hw_⟩ : ∃ w_, W.alloc (.cells #[.slice q n c] 26) = w_ := ⟨_, rfl⟩
  have hz_ : w1.heap.size = tb + 1 := by rw [← hw_, hxb_]; exact alloc_size _ _
  rw [hw_] at hal_ hb_
  rw [← hxb_] at hb_
  have Hw1 := Lib.hid hw_
  have Hx1 := Lib.hid hxb_
  have Ha1 := Lib.hid hal_
  have Hb1 := Lib.hid hb_
  have Hz1 := Lib.hid hz_
  clear hal_ hb_ hxb_ hw_ hz_
  have hal_ := (Chg.refl NoB w1).alloc (.cells #[.string (tx f1), .string (tx f2)] 33)
  have hb_ := heap_alloc_new w1 (.cells #[.string (tx f1), .string (tx f2)] 33)
  obtain ⟨fb, hxb_⟩ : ∃ b, b = w1.heap.size := ⟨_, rfl⟩
  obtain ⟨w2, hw_⟩ : ∃ w_, w1.alloc (.cells #[.string (tx f1), .string (tx f2)] 33) = w_ := ⟨_, rfl⟩
  have hz_ : w2.heap.size = fb + 1 := by rw [← hw_, hxb_]; exact alloc_size _ _
  rw [hw_] at hal_ hb_
  rw [← hxb_] at hb_
  have Hw2 := Lib.hid hw_
  have Hx2 := Lib.hid hxb_
  have Ha2 := Lib.hid hal_
  have Hb2 := Lib.hid hb_
  have Hz2 := Lib.hid hz_
  clear hal_ hb_ hxb_ hw_ hz_
  have hal_ := (Chg.refl NoB w2).alloc (.cells #[.slice q' n' c'] 26)
  have hb_ := heap_alloc_new w2 (.cells #[.slice q' n' c'] 26)
  obtain ⟨sb, hxb_⟩ : ∃ b, b = w2.heap.size := ⟨_, rfl⟩
  obtain ⟨w3, hw_⟩ : ∃ w_, w2.alloc (.cells #[.slice q' n' c'] 26) = w_ := ⟨_, rfl⟩
  have hz_ : w3.heap.size = sb + 1 := by rw [← hw_, hxb_]; exact alloc_size _ _
  rw [hw_] at hal_ hb_
  rw [← hxb_] at hb_
  have Hw3 := Lib.hid hw_
  have Hx3 := Lib.hid hxb_
  have Ha3 := Lib.hid hal_
  have Hb3 := Lib.hid hb_
  have Hz3 := Lib.hid hz_
  clear hal_ hb_ hxb_ hw_ hz_
  have hx2 : tb + 1 = fb := by rw [Hx2.out, Hz1.out]
  have hx3 : fb + 1 = sb := by rw [Hx3.out, Hz2.out]
  have Hc3 := Lib.hid (Ha1.out.trans (Ha2.out.trans Ha3.out))
  have HT3 := Lib.hid (row_kept (Ha2.out.trans Ha3.out) Hb1.out id)
  have HF3 := Lib.hid (row_kept Ha3.out Hb2.out id)
  have HU3 := Lib.hid Hb3.out
  have Hlt := Lib.hid (show W.heap.size ≤ tb ∧ tb < fb ∧ fb < sb ∧ sb < w3.heap.size by have := Hx1.out; have := Hz1.out; have := Hx2.out; have := Hz2.out; have := Hx3.out; have := Hz3.out; omega)
  go_enter Tryz.func7, Tryz.ntmps7
  go_upto_region 1 with fail
  rw [Hw1.out, Hw2.out, Hw3.out, ← Hx1.out]
  rw [hx2, hx3]
  clear hx2 hx3
  go_wp2_with fail
  refine (talive_any W.heap.size w3 ((Hlb.out.keep Hc3.out)) (ml_keep Hml.out Hc3.out)).mono ?_
  rintro e w4 ⟨rfl, hc4⟩
  have Hc4 := Lib.hid (Hc3.out.trans hc4)
  have HT4 := Lib.hid (row_kept hc4 HT3.out id)
  have HF4 := Lib.hid (row_kept hc4 HF3.out id)
  have HU4 := Lib.hid (row_kept hc4 HU3.out id)
  clear hc4
  have t0 := var1 HT4.out
  have Hgr_ := Lib.hid ((fun h => tgreat_any l Hr.out.1 Hr.out.2 _ _ kb ko w4 h) (Hs.out w4 Hc4.out))
  obtain ⟨g1, hg_⟩ : ∃ g, g = greatF l := ⟨_, rfl⟩
  rw [← hg_] at Hgr_
  have Hg1 := Lib.hid hg_
  clear hg_
  cases g1 with
  | true =>
    go_wp2_with fail
    refine Hgr_.out.mono ?_
    rintro e wx ⟨rfl, hcx⟩
    have Hcx := Lib.hid (Hc4.out.trans hcx)
    clear hcx t0
    go_wp2_with fail
    go_ret
    exact ⟨rfl, Hcx.out⟩
  | false =>
  go_wp2_with fail
  refine Hgr_.out.mono ?_
  rintro e w5 ⟨rfl, hcx⟩
  have Hc5 := Lib.hid (Hc4.out.trans hcx)
  have HT5 := Lib.hid (row_kept hcx HT4.out id)
  have HF5 := Lib.hid (row_kept hcx HF4.out id)
  have HU5 := Lib.hid (row_kept hcx HU4.out id)
  clear hcx Hgr_ t0
  have u0 := var1 HU5.out
  have Hgr_ := Lib.hid ((fun h => tgreat_any u Hru.out.1 Hru.out.2 _ _ jb jo w5 h) (Hu.out w5 Hc5.out))
  obtain ⟨g2, hg_⟩ : ∃ g, g = greatF u := ⟨_, rfl⟩
  rw [← hg_] at Hgr_
  have Hg2 := Lib.hid hg_
  clear hg_
  cases g2 with
  | true =>
    go_wp2_with fail
    refine Hgr_.out.mono ?_
    rintro e wx ⟨rfl, hcx⟩
    have Hcx := Lib.hid (Hc5.out.trans hcx)
    clear hcx u0
    go_wp2_with fail
    go_ret
    exact ⟨rfl, Hcx.out⟩
  | false =>
  go_wp2_with fail
  refine Hgr_.out.mono ?_
  rintro e w6 ⟨rfl, hcx⟩
  have Hc6 := Lib.hid (Hc5.out.trans hcx)
  have HT6 := Lib.hid (row_kept hcx HT5.out id)
  have HF6 := Lib.hid (row_kept hcx HF5.out id)
  have HU6 := Lib.hid (row_kept hcx HU5.out id)
  clear hcx Hgr_ u0
  obtain ⟨f0, f0'⟩ := var2 HF6.out
  have Hgr_ := Lib.hid (great1_any (f1, f2) Hrf.out w6)
  obtain ⟨g3, hg_⟩ : ∃ g, g = greatF [(f1, f2)] := ⟨_, rfl⟩
  rw [← hg_] at Hgr_
  have Hg3 := Lib.hid hg_
  clear hg_
  cases g3 with
  | true =>
    go_wp2_with fail
    refine Hgr_.out.mono ?_
    rintro e wx ⟨rfl, hcx⟩
    have Hcx := Lib.hid (Hc6.out.trans hcx)
    clear hcx f0 f0'
    go_wp2_with fail
    go_ret
    exact ⟨rfl, Hcx.out⟩
  | false =>
  go_wp2_with fail
  refine Hgr_.out.mono ?_
  rintro e w7 ⟨rfl, hcx⟩
  have Hc7 := Lib.hid (Hc6.out.trans hcx)
  have HT7 := Lib.hid (row_kept hcx HT6.out id)
  have HF7 := Lib.hid (row_kept hcx HF6.out id)
  have HU7 := Lib.hid (row_kept hcx HU6.out id)
  clear hcx Hgr_ f0 f0'
  obtain ⟨hl, hw⟩ := great_sizes Hg1.out.symm
  obtain ⟨hl2, hw2⟩ := great_sizes Hg2.out.symm
  obtain ⟨hf1, hf2⟩ := great1_no Hg3.out.symm
  change f1.length ≤ 131072 at hf1
  change f2.length ≤ 131072 at hf2
  have Hlw := Lib.hid (And.intro hl hw)
  have Huw := Lib.hid (And.intro hl2 hw2)
  have Hf12 := Lib.hid (And.intro hf1 hf2)
  obtain ⟨dp, yp, HP, Hp0⟩ : ∃ d y, Hid (∀ w', Chg NoB W w' → Calls _ _ _ w' (OutP d y w')) ∧ Hid (y = 0 → putF l (f1, f2) = .ok d) :=
    ⟨outL (putF l (f1, f2)), outE (putF l (f1, f2)), Lib.hid (fun w' h => (tput_any l (f1, f2) hl hw (by show f1.length ≤ _; omega) (by show f2.length ≤ _; omega) _ _ kb ko w' (ml_keep Hml.out h) (Hs.out w' h)).mono fun _ _ h => h.out), Lib.hid put_zero⟩
  clear hl hw hl2 hw2 hf1 hf2 Hg1 Hg2 Hg3
  have t0 := var1 HT7.out
  obtain ⟨f0, f0'⟩ := var2 HF7.out
  go_wp2_with fail
  refine (HP.out w7 Hc7.out).mono ?_
  intro e w8 hp_
  obtain ⟨hc_, qp, np, cp, kp, ip, hn_, rfl, hs_⟩ := hp_.val
  have Hn8 := Lib.hid hn_
  have Hs8 := Lib.hid hs_
  have Hcc8 := Lib.hid hc_
  have Hcw8 := Lib.hid (Hc7.out.trans hc_)
  clear hc_ hn_ hs_ hp_
  have HT8 := Lib.hid (row_kept Hcc8.out HT7.out id)
  have HF8 := Lib.hid (row_kept Hcc8.out HF7.out id)
  have HU8 := Lib.hid (row_kept Hcc8.out HU7.out id)
  clear t0 f0 f0'
  have hal_ := (Chg.refl NoB w8).alloc (.cells #[.slice qp np cp] 26)
  have hb_ := heap_alloc_new w8 (.cells #[.slice qp np cp] 26)
  obtain ⟨ab, hxb_⟩ : ∃ b, b = w8.heap.size := ⟨_, rfl⟩
  obtain ⟨w9, hw_⟩ : ∃ w_, w8.alloc (.cells #[.slice qp np cp] 26) = w_ := ⟨_, rfl⟩
  have hz_ : w9.heap.size = ab + 1 := by rw [← hw_, hxb_]; exact alloc_size _ _
  rw [hw_] at hal_ hb_
  rw [← hxb_] at hb_
  have Hw9 := Lib.hid hw_
  have Hx9 := Lib.hid hxb_
  have Ha9 := Lib.hid hal_
  have Hb9 := Lib.hid hb_
  have Hz9 := Lib.hid hz_
  clear hal_ hb_ hxb_ hw_ hz_
  go_upto_region 6 with fail
  rw [Hw9.out, ← Hx9.out]
  have HT9 := Lib.hid (row_kept Ha9.out HT8.out id)
  have HF9 := Lib.hid (row_kept Ha9.out HF8.out id)
  have HU9 := Lib.hid (row_kept Ha9.out HU8.out id)
  have HA9 := Lib.hid Hb9.out
  have Hc9 := Lib.hid (Hcw8.out.trans Ha9.out)
  have Hsp := Lib.hid (fun w' (h : Chg NoB w9 w') => Hs8.out.keep (Ha9.out.trans h) fun _ _ => id)
  have Hab := Lib.hid (show W.heap.size ≤ ab ∧ tb < ab ∧ fb < ab ∧ sb < ab by have h1 := Hcw8.out.size; have := Hx9.out; have h3 := lt_of_block HT8.out; have h4 := lt_of_block HF8.out; have h5 := lt_of_block HU8.out; omega)
  by_cases hyp : yp = 0
  · have hpk := Hp0.out hyp
    subst hyp
    have Hpk := Lib.hid hpk
    have hps := (put_ok hpk).2.2.2
    have HG1 := Lib.hid (fun w' (h : Chg NoB w9 w') (x : List UInt8) => get_any dp x _ _ kp ip w' (by omega) (Hsp.out w' h))
    clear hpk hps
    have HG2 := Lib.hid (HG1.out w9 (Chg.refl _ _) f1)
    have hgot := put_got Hpk.out
    change getF dp f1 = (f2, true) at hgot
    rw [hgot] at HG2
    clear hgot
    have a0 := var1 HA9.out
    obtain ⟨f0, f0'⟩ := var2 HF9.out
    go_wp2_with fail
    refine HG2.out.mono ?_
    rintro e wg ⟨hcg, rfl⟩
    have Hcg := Lib.hid hcg
    have HTg := Lib.hid (row_kept hcg HT9.out id)
    have HFg := Lib.hid (row_kept hcg HF9.out id)
    have HUg := Lib.hid (row_kept hcg HU9.out id)
    have HAg := Lib.hid (row_kept hcg HA9.out id)
    have Hc_g := Lib.hid (Hc9.out.trans hcg)
    clear hcg a0 f0 f0' HG2
    have t0 := var1 HTg.out
    obtain ⟨f0, f0'⟩ := var2 HFg.out
    go_wp2_with fail
    clear t0 f0 f0'
    go_loopw [55] (fun i wr => ∃ (k : Nat), k ≤ n ∧ i = .int .i64 k ∧ Chg NoB wg wr) (fun i _ => n - (intOf i).toNat)
    case atStart => exact ⟨0, Nat.zero_le _, rfl, Chg.refl _ _⟩
    case round =>
      obtain ⟨k, hk, rfl, hch⟩ := hrel
      have Hch := Lib.hid hch
      have Hcr := Lib.hid (Hc_g.out.trans hch)
      have HTr := Lib.hid (row_kept hch HTg.out id)
      have HFr := Lib.hid (row_kept hch HFg.out id)
      have HUr := Lib.hid (row_kept hch HUg.out id)
      have HAr := Lib.hid (row_kept hch HAg.out id)
      clear hch
      by_cases hlt : k < n
      · have hlt' : k < l.length := by rw [← Hn.out]; exact hlt
        obtain ⟨rfl, -⟩ := H3.out (by intro e; rw [e] at hlt'; simp at hlt')
        have c0 := Hcr.out.keep (Hat.out k hlt').1
        have c1 := Hcr.out.keep (Hat.out k hlt').2
        have Hoth : Hid (l[k].1 ≠ f1 → getF dp l[k].1 = (l[k].2, true)) := Lib.hid fun h => put_other Hpk.out (List.getElem_mem hlt') h
        generalize l[k] = x at *
        obtain ⟨x1, x2⟩ := x
        simp only at c0 c1 Hoth
        have hr := tx_beq x1 f1
        have hal_ := (Chg.refl NoB wr).alloc (.cells #[.string (tx x1), .string (tx x2)] 33)
        have hb_ := heap_alloc_new wr (.cells #[.string (tx x1), .string (tx x2)] 33)
        obtain ⟨gb, hxb_⟩ : ∃ b, b = wr.heap.size := ⟨_, rfl⟩
        obtain ⟨wb, hw_⟩ : ∃ w_, wr.alloc (.cells #[.string (tx x1), .string (tx x2)] 33) = w_ := ⟨_, rfl⟩
        have hz_ : wb.heap.size = gb + 1 := by rw [← hw_, hxb_]; exact alloc_size _ _
        rw [hw_] at hal_ hb_
        rw [← hxb_] at hb_
        have Hwb := Lib.hid hw_
        have Hxb := Lib.hid hxb_
        have Hab_ := Lib.hid hal_
        have Hb_b := Lib.hid hb_
        have Hzb := Lib.hid hz_
        clear hal_ hb_ hxb_ hw_ hz_
        go_upto_region 13 with fail
        rw [Hwb.out, ← Hxb.out]
        clear c0 c1
        have HTb := Lib.hid (row_kept Hab_.out HTr.out id)
        have HFb := Lib.hid (row_kept Hab_.out HFr.out id)
        have HUb := Lib.hid (row_kept Hab_.out HUr.out id)
        have HAb := Lib.hid (row_kept Hab_.out HAr.out id)
        have HG3 := Lib.hid (HG1.out wb ((Hcg.out.trans Hch.out).trans Hab_.out) x1)
        obtain ⟨r1, hr1⟩ : ∃ r, r = (getF dp x1).1 := ⟨_, rfl⟩
        obtain ⟨r2, hr2⟩ : ∃ r, r = (getF dp x1).2 := ⟨_, rfl⟩
        rw [← hr1, ← hr2] at HG3
        have Hr12 : Hid (x1 ≠ f1 → r1 = x2 ∧ r2 = true) := Lib.hid fun h => by rw [hr1, hr2, Hoth.out h]; exact ⟨rfl, rfl⟩
        clear hr1 hr2 hlt'
        have a0 := var1 HAb.out
        obtain ⟨g0, g1⟩ := var2 Hb_b.out
        go_wp2_with fail
        refine HG3.out.mono ?_
        rintro e wd ⟨hcd, rfl⟩
        have Hcd := Lib.hid ((Hch.out.trans Hab_.out).trans hcd)
        obtain ⟨f0, f0'⟩ := var2 (row_kept hcd HFb.out id)
        clear g0 g1 a0 HG3
        obtain ⟨g0, g1⟩ := var2 (row_kept hcd Hb_b.out id)
        clear hcd
        by_cases hxf : x1 = f1
        · rw [decide_eq_true hxf] at hr
          clear hxf
          go_wp2_with fail
          go_roundw
          case rel => exact ⟨k + 1, by omega, by go_num, Hcd.out⟩
          case measure => simp [intOf]; omega
        · obtain ⟨rfl, rfl⟩ := Hr12.out hxf
          rw [decide_eq_false hxf] at hr
          clear hxf
          go_wp2_with fail
          go_roundw
          case rel => exact ⟨k + 1, by omega, by go_num, Hcd.out⟩
          case measure => simp [intOf]; omega
      · obtain rfl : k = n := by omega
        clear hlt
        obtain ⟨f0, f0'⟩ := var2 HFr.out
        have t0 := var1 HTr.out
        have HPG := Lib.hid (tpgood_any f1 wr (by have := Hf12.out.1; omega) (ml_keep Hml.out Hcr.out))
        obtain ⟨pgp, hpg_⟩ : ∃ g, g = Pth.goodL f1 := ⟨_, rfl⟩
        rw [← hpg_] at HPG
        have Hpg := Lib.hid hpg_
        clear hpg_
        cases pgp with
        | false =>
          go_wp2_with fail
          refine HPG.out.mono ?_
          rintro e wy ⟨rfl, hcy⟩
          have Hcy := Lib.hid (Hcr.out.trans hcy)
          clear hcy f0 f0' t0
          go_wp2_with fail
          go_ret
          exact ⟨rfl, Hcy.out⟩
        | true =>
        go_wp2_with fail
        refine HPG.out.mono ?_
        rintro e wp1 ⟨rfl, hcy⟩
        have Hcp1 := Lib.hid (Hcr.out.trans hcy)
        have HTp1 := Lib.hid (row_kept hcy HTr.out id)
        have HFp1 := Lib.hid (row_kept hcy HFr.out id)
        have HUp1 := Lib.hid (row_kept hcy HUr.out id)
        have HAp1 := Lib.hid (row_kept hcy HAr.out id)
        clear hcy f0 f0' t0 HPG
        have t0 := var1 HTp1.out
        have HGT := Lib.hid (rgood_any l Hlw.out.1 Hlw.out.2 _ _ kb ko wp1 (Hs.out wp1 Hcp1.out))
        obtain ⟨gtp, hgt_⟩ : ∃ g, g = goodF l := ⟨_, rfl⟩
        rw [← hgt_] at HGT
        have Hgt := Lib.hid hgt_
        clear hgt_
        cases gtp with
        | false =>
          go_wp2_with fail
          refine HGT.out.mono ?_
          rintro e wy ⟨rfl, hcy⟩
          have Hcy := Lib.hid (Hcp1.out.trans hcy)
          clear hcy t0
          go_wp2_with fail
          go_ret
          exact ⟨rfl, Hcy.out⟩
        | true =>
        go_wp2_with fail
        refine HGT.out.mono ?_
        rintro e wp2 ⟨rfl, hcy⟩
        have Hcp2 := Lib.hid (Hcp1.out.trans hcy)
        have HTp2 := Lib.hid (row_kept hcy HTp1.out id)
        have HFp2 := Lib.hid (row_kept hcy HFp1.out id)
        have HUp2 := Lib.hid (row_kept hcy HUp1.out id)
        have HAp2 := Lib.hid (row_kept hcy HAp1.out id)
        clear hcy t0 HGT
        have HCT : Hid (∀ w', Chg NoB W w' → Calls _ _ _ w' (OutP (cutL f1 l) 0 w')) := Lib.hid (fun w' h => (tcut_any l f1 Hlw.out.1 Hlw.out.2 (by have := Hf12.out.1; omega) _ _ kb ko w' (ml_keep Hml.out h) (Hs.out w' h)).mono fun _ _ h => by rw [cutF_of Hgt.out.symm Hpg.out.symm] at h; exact h.out)
        obtain ⟨dc, hdc⟩ : ∃ d, d = cutL f1 l := ⟨_, rfl⟩
        rw [← hdc] at HCT
        have Hdc := Lib.hid hdc
        clear hdc
        have t0 := var1 HTp2.out
        obtain ⟨f0, f0'⟩ := var2 HFp2.out
        go_wp2_with fail
        refine (HCT.out wp2 Hcp2.out).mono ?_
        intro e wpc hp_
        obtain ⟨hc_, qpc, npc, cpc, kpc, ipc, hn_, rfl, hs_⟩ := hp_.val
        have Hnpc := Lib.hid hn_
        have Hspc := Lib.hid hs_
        have Hccpc := Lib.hid hc_
        have Hcwpc := Lib.hid (Hcp2.out.trans hc_)
        clear hc_ hn_ hs_ hp_
        have HTpc := Lib.hid (row_kept Hccpc.out HTp2.out id)
        have HFpc := Lib.hid (row_kept Hccpc.out HFp2.out id)
        have HUpc := Lib.hid (row_kept Hccpc.out HUp2.out id)
        have HApc := Lib.hid (row_kept Hccpc.out HAp2.out id)
        clear t0 f0 f0'
        have hal_ := (Chg.refl NoB wpc).alloc (.cells #[.slice qpc npc cpc] 26)
        have hb_ := heap_alloc_new wpc (.cells #[.slice qpc npc cpc] 26)
        obtain ⟨cb, hxb_⟩ : ∃ b, b = wpc.heap.size := ⟨_, rfl⟩
        obtain ⟨wpcx, hw_⟩ : ∃ w_, wpc.alloc (.cells #[.slice qpc npc cpc] 26) = w_ := ⟨_, rfl⟩
        have hz_ : wpcx.heap.size = cb + 1 := by rw [← hw_, hxb_]; exact alloc_size _ _
        rw [hw_] at hal_ hb_
        rw [← hxb_] at hb_
        have Hwpcx := Lib.hid hw_
        have Hxpcx := Lib.hid hxb_
        have Hapcx := Lib.hid hal_
        have Hbpcx := Lib.hid hb_
        have Hzpcx := Lib.hid hz_
        clear hal_ hb_ hxb_ hw_ hz_
        go_upto_region 20 with fail
        rw [Hwpcx.out, ← Hxpcx.out]
        have HTpcy := Lib.hid (row_kept Hapcx.out HTpc.out id)
        have HFpcy := Lib.hid (row_kept Hapcx.out HFpc.out id)
        have HUpcy := Lib.hid (row_kept Hapcx.out HUpc.out id)
        have HApcy := Lib.hid (row_kept Hapcx.out HApc.out id)
        have Hcpcy := Lib.hid (Hcwpc.out.trans Hapcx.out)
        have HCpcy := Lib.hid Hbpcx.out
        have Hcb := Lib.hid (show W.heap.size ≤ cb ∧ ab < cb ∧ tb < cb ∧ fb < cb ∧ sb < cb by have h1 := Hcwpc.out.size; have := Hxpcx.out; have h2 := lt_of_block HApc.out; have h3 := lt_of_block HTpc.out; have h4 := lt_of_block HFpc.out; have h5 := lt_of_block HUpc.out; omega)
        have c0 := var1 HCpcy.out
        by_cases hz : npc = 0
        · subst hz
          have Hdn : Hid (dc = []) := Lib.hid (List.eq_nil_of_length_eq_zero Hnpc.out.symm)
          have hM := fun w' (h : Chg NoB W w') => tmount_any l u f1 Hlw.out.1 Hlw.out.2 Huw.out.1 Huw.out.2 (by have := Hf12.out.1; omega) _ _ kb ko _ _ jb jo w' (ml_keep Hml.out h) (Hs.out w' h) (Hu.out w' h)
          obtain ⟨dm, ym, HM, Hm0⟩ : ∃ d y, Hid (∀ w', Chg NoB W w' → Calls _ _ _ w' (OutP d y w')) ∧ Hid (y = 0 → mountF l f1 u = .ok d) :=
            ⟨outL (mountF l f1 u), outE (mountF l f1 u), Lib.hid (fun w' h => (hM w' h).mono fun _ _ h => h.out), Lib.hid mount_zero⟩
          clear hM
          have t0 := var1 HTpcy.out
          have u0 := var1 HUpcy.out
          obtain ⟨f0, f0'⟩ := var2 HFpcy.out
          go_wp2_with fail
          refine (HM.out wpcx Hcpcy.out).mono ?_
          intro e wpm hp_
          obtain ⟨hc_, qpm, npm, cpm, kpm, ipm, hn_, rfl, hs_⟩ := hp_.val
          have Hnpm := Lib.hid hn_
          have Hspm := Lib.hid hs_
          have Hccpm := Lib.hid hc_
          have Hcwpm := Lib.hid (Hcpcy.out.trans hc_)
          clear hc_ hn_ hs_ hp_
          have HTpm := Lib.hid (row_kept Hccpm.out HTpcy.out id)
          have HFpm := Lib.hid (row_kept Hccpm.out HFpcy.out id)
          have HUpm := Lib.hid (row_kept Hccpm.out HUpcy.out id)
          have HApm := Lib.hid (row_kept Hccpm.out HApcy.out id)
          have HCpm := Lib.hid (row_kept Hccpm.out HCpcy.out id)
          clear t0 u0 f0 f0' c0
          have a0_ := var1 HApm.out
          have af_ := row_free HApm.out
          go_upto_region 23 with fail
          clear a0_ af_
          have Hst := Lib.hid (show Chg (fun y => y = ab) wpm (wpm.setCell ⟨ab, 0, none⟩ (.slice qpm npm cpm)) from (Chg.refl (fun y => y = ab) wpm).setCell (p := ⟨ab, 0, none⟩) (.inl rfl) _)
          have HApmz := Lib.hid (show (wpm.setCell ⟨ab, 0, none⟩ (.slice qpm npm cpm)).heap[ab]? = some (.cells #[.slice qpm npm cpm] 26 (0, 0)) from heap_set HApm.out (i := 0) _)
          have Hcpmz := Lib.hid (Hcwpm.out.setCell (p := ⟨ab, 0, none⟩) (.inr Hab.out.1) (.slice qpm npm cpm))
          generalize wpm.setCell ⟨ab, 0, none⟩ (.slice qpm npm cpm) = wpmx at *
          have HTpmz := Lib.hid (row_kept Hst.out HTpm.out (by have := Hlt.out; have := Hab.out; have := Hcb.out; omega))
          have HFpmz := Lib.hid (row_kept Hst.out HFpm.out (by have := Hlt.out; have := Hab.out; have := Hcb.out; omega))
          have HUpmz := Lib.hid (row_kept Hst.out HUpm.out (by have := Hlt.out; have := Hab.out; have := Hcb.out; omega))
          have HCpmz := Lib.hid (row_kept Hst.out HCpm.out (by have := Hlt.out; have := Hab.out; have := Hcb.out; omega))
          have Hspmz := Lib.hid (Hspm.out.keep Hst.out fun y hy e => by have h1 : wpcx.heap.size ≤ y := hy.1; have h2 : y = ab := e; have h3 := lt_of_block HApcy.out; omega)
          clear Hst
          by_cases hym : ym = 0
          · obtain hmk := Hm0.out hym
            subst hym
            have hmg := good_sizes (mount_good hmk)
            have HC2 : Hid (∀ w', Chg NoB W w' → ∀ S' v' kb' ko', InpS w' S' v' dm kb' ko' → Calls _ _ _ w' (OutP u 0 w')) := Lib.hid (fun w' h S' v' kb' ko' hi => (tcut_any dm f1 (by omega) (fun x hx => by have := hmg.2 x hx; omega) (by have := Hf12.out.1; omega) S' v' kb' ko' w' (ml_keep Hml.out h) hi).mono fun _ _ h => by rw [mount_cut hmk (by rw [← Hdc.out]; exact Hdn.out)] at h; exact h.out)
            clear hmk hmg
            have a0 := var1 HApmz.out
            obtain ⟨f0, f0'⟩ := var2 HFpmz.out
            have HC4 := Lib.hid (HC2.out wpmx Hcpmz.out _ _ _ _ Hspmz.out)
            go_wp2_with fail
            refine HC4.out.mono ?_
            intro e wpe hp_
            obtain ⟨hc_, qpe, npe, cpe, kpe, ipe, hn_, rfl, hs_⟩ := hp_.val
            have Hnpe := Lib.hid hn_
            have Hspe := Lib.hid hs_
            have Hcwpe := Lib.hid (Hcpmz.out.trans hc_)
            have HTpe := Lib.hid (row_kept hc_ HTpmz.out id)
            have HFpe := Lib.hid (row_kept hc_ HFpmz.out id)
            have HUpe := Lib.hid (row_kept hc_ HUpmz.out id)
            have HApe := Lib.hid (row_kept hc_ HApmz.out id)
            have HCpe := Lib.hid (row_kept hc_ HCpmz.out id)
            clear hc_ hn_ hs_ hp_ a0 f0 f0' HC2 HC4
            have a0_ := var1 HCpe.out
            have af_ := row_free HCpe.out
            go_upto_region 26 with fail
            clear a0_ af_
            have Hst := Lib.hid (show Chg (fun y => y = cb) wpe (wpe.setCell ⟨cb, 0, none⟩ (.slice qpe npe cpe)) from (Chg.refl (fun y => y = cb) wpe).setCell (p := ⟨cb, 0, none⟩) (.inl rfl) _)
            have HCpez := Lib.hid (show (wpe.setCell ⟨cb, 0, none⟩ (.slice qpe npe cpe)).heap[cb]? = some (.cells #[.slice qpe npe cpe] 26 (0, 0)) from heap_set HCpe.out (i := 0) _)
            have Hcpez := Lib.hid (Hcwpe.out.setCell (p := ⟨cb, 0, none⟩) (.inr Hcb.out.1) (.slice qpe npe cpe))
            generalize wpe.setCell ⟨cb, 0, none⟩ (.slice qpe npe cpe) = wpex at *
            have HTpez := Lib.hid (row_kept Hst.out HTpe.out (by have := Hlt.out; have := Hab.out; have := Hcb.out; omega))
            have HFpez := Lib.hid (row_kept Hst.out HFpe.out (by have := Hlt.out; have := Hab.out; have := Hcb.out; omega))
            have HUpez := Lib.hid (row_kept Hst.out HUpe.out (by have := Hlt.out; have := Hab.out; have := Hcb.out; omega))
            have HApez := Lib.hid (row_kept Hst.out HApe.out (by have := Hlt.out; have := Hab.out; have := Hcb.out; omega))
            have Hspez := Lib.hid (Hspe.out.keep Hst.out fun y hy e => by have h1 : wpmx.heap.size ≤ y := hy.1; have h2 : y = cb := e; have h3 := lt_of_block HCpmz.out; omega)
            clear Hst
            have c0 := var1 HCpez.out
            have u0 := var1 HUpez.out
            have HSm := Lib.hid (rsame_any _ _ _ _ _ _ _ _ _ _ wpex Huw.out.1 Huw.out.1 Hspez.out (Hu.out wpex Hcpez.out))
            simp only [decide_true] at HSm
            rw [← Hn'.out] at Hnpe
            have hnn := Hnpe.out
            subst hnn
            go_wp2_with fail
            refine HSm.out.mono ?_
            rintro e wz ⟨rfl, hce⟩
            have Hcz := Lib.hid (Hcpez.out.trans hce)
            clear c0 u0 hce HSm
            go_wp2_with fail
            go_ret
            exact ⟨rfl, Hcz.out⟩
          · have hyb : (ym != 0) = true := by rw [bne_iff_ne]; exact hym
            clear hym
            go_wp2_with fail
            go_ret
            exact ⟨rfl, Hcpmz.out⟩
        · have hgt : (0 : Int) < (npc : Int) := by omega
          clear hz
          go_wp2_with fail
          go_ret
          exact ⟨rfl, Hcpcy.out⟩
  · have hyb : (yp == 0) = false := by simpa using hyp
    clear hyp
    obtain ⟨f0, f0'⟩ := var2 HF9.out
    have t0 := var1 HT9.out
    have HPG := Lib.hid (tpgood_any f1 w9 (by have := Hf12.out.1; omega) (ml_keep Hml.out Hc9.out))
    obtain ⟨pgo, hpg_⟩ : ∃ g, g = Pth.goodL f1 := ⟨_, rfl⟩
    rw [← hpg_] at HPG
    have Hpg := Lib.hid hpg_
    clear hpg_
    cases pgo with
    | false =>
      go_wp2_with fail
      refine HPG.out.mono ?_
      rintro e wy ⟨rfl, hcy⟩
      have Hcy := Lib.hid (Hc9.out.trans hcy)
      clear hcy f0 f0' t0
      go_wp2_with fail
      go_ret
      exact ⟨rfl, Hcy.out⟩
    | true =>
    go_wp2_with fail
    refine HPG.out.mono ?_
    rintro e wo1 ⟨rfl, hcy⟩
    have Hco1 := Lib.hid (Hc9.out.trans hcy)
    have HTo1 := Lib.hid (row_kept hcy HT9.out id)
    have HFo1 := Lib.hid (row_kept hcy HF9.out id)
    have HUo1 := Lib.hid (row_kept hcy HU9.out id)
    have HAo1 := Lib.hid (row_kept hcy HA9.out id)
    clear hcy f0 f0' t0 HPG
    have t0 := var1 HTo1.out
    have HGT := Lib.hid (rgood_any l Hlw.out.1 Hlw.out.2 _ _ kb ko wo1 (Hs.out wo1 Hco1.out))
    obtain ⟨gto, hgt_⟩ : ∃ g, g = goodF l := ⟨_, rfl⟩
    rw [← hgt_] at HGT
    have Hgt := Lib.hid hgt_
    clear hgt_
    cases gto with
    | false =>
      go_wp2_with fail
      refine HGT.out.mono ?_
      rintro e wy ⟨rfl, hcy⟩
      have Hcy := Lib.hid (Hco1.out.trans hcy)
      clear hcy t0
      go_wp2_with fail
      go_ret
      exact ⟨rfl, Hcy.out⟩
    | true =>
    go_wp2_with fail
    refine HGT.out.mono ?_
    rintro e wo2 ⟨rfl, hcy⟩
    have Hco2 := Lib.hid (Hco1.out.trans hcy)
    have HTo2 := Lib.hid (row_kept hcy HTo1.out id)
    have HFo2 := Lib.hid (row_kept hcy HFo1.out id)
    have HUo2 := Lib.hid (row_kept hcy HUo1.out id)
    have HAo2 := Lib.hid (row_kept hcy HAo1.out id)
    clear hcy t0 HGT
    have HCT : Hid (∀ w', Chg NoB W w' → Calls _ _ _ w' (OutP (cutL f1 l) 0 w')) := Lib.hid (fun w' h => (tcut_any l f1 Hlw.out.1 Hlw.out.2 (by have := Hf12.out.1; omega) _ _ kb ko w' (ml_keep Hml.out h) (Hs.out w' h)).mono fun _ _ h => by rw [cutF_of Hgt.out.symm Hpg.out.symm] at h; exact h.out)
    obtain ⟨dc, hdc⟩ : ∃ d, d = cutL f1 l := ⟨_, rfl⟩
    rw [← hdc] at HCT
    have Hdc := Lib.hid hdc
    clear hdc
    have t0 := var1 HTo2.out
    obtain ⟨f0, f0'⟩ := var2 HFo2.out
    go_wp2_with fail
    refine (HCT.out wo2 Hco2.out).mono ?_
    intro e woc hp_
    obtain ⟨hc_, qoc, noc, coc, koc, ioc, hn_, rfl, hs_⟩ := hp_.val
    have Hnoc := Lib.hid hn_
    have Hsoc := Lib.hid hs_
    have Hccoc := Lib.hid hc_
    have Hcwoc := Lib.hid (Hco2.out.trans hc_)
    clear hc_ hn_ hs_ hp_
    have HToc := Lib.hid (row_kept Hccoc.out HTo2.out id)
    have HFoc := Lib.hid (row_kept Hccoc.out HFo2.out id)
    have HUoc := Lib.hid (row_kept Hccoc.out HUo2.out id)
    have HAoc := Lib.hid (row_kept Hccoc.out HAo2.out id)
    clear t0 f0 f0'
    have hal_ := (Chg.refl NoB woc).alloc (.cells #[.slice qoc noc coc] 26)
    have hb_ := heap_alloc_new woc (.cells #[.slice qoc noc coc] 26)
    obtain ⟨cb, hxb_⟩ : ∃ b, b = woc.heap.size := ⟨_, rfl⟩
    obtain ⟨wocx, hw_⟩ : ∃ w_, woc.alloc (.cells #[.slice qoc noc coc] 26) = w_ := ⟨_, rfl⟩
    have hz_ : wocx.heap.size = cb + 1 := by rw [← hw_, hxb_]; exact alloc_size _ _
    rw [hw_] at hal_ hb_
    rw [← hxb_] at hb_
    have Hwocx := Lib.hid hw_
    have Hxocx := Lib.hid hxb_
    have Haocx := Lib.hid hal_
    have Hbocx := Lib.hid hb_
    have Hzocx := Lib.hid hz_
    clear hal_ hb_ hxb_ hw_ hz_
    go_upto_region 20 with fail
    rw [Hwocx.out, ← Hxocx.out]
    have HTocy := Lib.hid (row_kept Haocx.out HToc.out id)
    have HFocy := Lib.hid (row_kept Haocx.out HFoc.out id)
    have HUocy := Lib.hid (row_kept Haocx.out HUoc.out id)
    have HAocy := Lib.hid (row_kept Haocx.out HAoc.out id)
    have Hcocy := Lib.hid (Hcwoc.out.trans Haocx.out)
    have HCocy := Lib.hid Hbocx.out
    have Hcb := Lib.hid (show W.heap.size ≤ cb ∧ ab < cb ∧ tb < cb ∧ fb < cb ∧ sb < cb by have h1 := Hcwoc.out.size; have := Hxocx.out; have h2 := lt_of_block HAoc.out; have h3 := lt_of_block HToc.out; have h4 := lt_of_block HFoc.out; have h5 := lt_of_block HUoc.out; omega)
    have c0 := var1 HCocy.out
    by_cases hz : noc = 0
    · subst hz
      have Hdn : Hid (dc = []) := Lib.hid (List.eq_nil_of_length_eq_zero Hnoc.out.symm)
      have hM := fun w' (h : Chg NoB W w') => tmount_any l u f1 Hlw.out.1 Hlw.out.2 Huw.out.1 Huw.out.2 (by have := Hf12.out.1; omega) _ _ kb ko _ _ jb jo w' (ml_keep Hml.out h) (Hs.out w' h) (Hu.out w' h)
      obtain ⟨dm, ym, HM, Hm0⟩ : ∃ d y, Hid (∀ w', Chg NoB W w' → Calls _ _ _ w' (OutP d y w')) ∧ Hid (y = 0 → mountF l f1 u = .ok d) :=
        ⟨outL (mountF l f1 u), outE (mountF l f1 u), Lib.hid (fun w' h => (hM w' h).mono fun _ _ h => h.out), Lib.hid mount_zero⟩
      clear hM
      have t0 := var1 HTocy.out
      have u0 := var1 HUocy.out
      obtain ⟨f0, f0'⟩ := var2 HFocy.out
      go_wp2_with fail
      refine (HM.out wocx Hcocy.out).mono ?_
      intro e wom hp_
      obtain ⟨hc_, qom, nom, com, kom, iom, hn_, rfl, hs_⟩ := hp_.val
      have Hnom := Lib.hid hn_
      have Hsom := Lib.hid hs_
      have Hccom := Lib.hid hc_
      have Hcwom := Lib.hid (Hcocy.out.trans hc_)
      clear hc_ hn_ hs_ hp_
      have HTom := Lib.hid (row_kept Hccom.out HTocy.out id)
      have HFom := Lib.hid (row_kept Hccom.out HFocy.out id)
      have HUom := Lib.hid (row_kept Hccom.out HUocy.out id)
      have HAom := Lib.hid (row_kept Hccom.out HAocy.out id)
      have HCom := Lib.hid (row_kept Hccom.out HCocy.out id)
      clear t0 u0 f0 f0' c0
      have a0_ := var1 HAom.out
      have af_ := row_free HAom.out
      go_upto_region 23 with fail
      clear a0_ af_
      have Hst := Lib.hid (show Chg (fun y => y = ab) wom (wom.setCell ⟨ab, 0, none⟩ (.slice qom nom com)) from (Chg.refl (fun y => y = ab) wom).setCell (p := ⟨ab, 0, none⟩) (.inl rfl) _)
      have HAomz := Lib.hid (show (wom.setCell ⟨ab, 0, none⟩ (.slice qom nom com)).heap[ab]? = some (.cells #[.slice qom nom com] 26 (0, 0)) from heap_set HAom.out (i := 0) _)
      have Hcomz := Lib.hid (Hcwom.out.setCell (p := ⟨ab, 0, none⟩) (.inr Hab.out.1) (.slice qom nom com))
      generalize wom.setCell ⟨ab, 0, none⟩ (.slice qom nom com) = womx at *
      have HTomz := Lib.hid (row_kept Hst.out HTom.out (by have := Hlt.out; have := Hab.out; have := Hcb.out; omega))
      have HFomz := Lib.hid (row_kept Hst.out HFom.out (by have := Hlt.out; have := Hab.out; have := Hcb.out; omega))
      have HUomz := Lib.hid (row_kept Hst.out HUom.out (by have := Hlt.out; have := Hab.out; have := Hcb.out; omega))
      have HComz := Lib.hid (row_kept Hst.out HCom.out (by have := Hlt.out; have := Hab.out; have := Hcb.out; omega))
      have Hsomz := Lib.hid (Hsom.out.keep Hst.out fun y hy e => by have h1 : wocx.heap.size ≤ y := hy.1; have h2 : y = ab := e; have h3 := lt_of_block HAocy.out; omega)
      clear Hst
      by_cases hym : ym = 0
      · obtain hmk := Hm0.out hym
        subst hym
        have hmg := good_sizes (mount_good hmk)
        have HC2 : Hid (∀ w', Chg NoB W w' → ∀ S' v' kb' ko', InpS w' S' v' dm kb' ko' → Calls _ _ _ w' (OutP u 0 w')) := Lib.hid (fun w' h S' v' kb' ko' hi => (tcut_any dm f1 (by omega) (fun x hx => by have := hmg.2 x hx; omega) (by have := Hf12.out.1; omega) S' v' kb' ko' w' (ml_keep Hml.out h) hi).mono fun _ _ h => by rw [mount_cut hmk (by rw [← Hdc.out]; exact Hdn.out)] at h; exact h.out)
        clear hmk hmg
        have a0 := var1 HAomz.out
        obtain ⟨f0, f0'⟩ := var2 HFomz.out
        have HC4 := Lib.hid (HC2.out womx Hcomz.out _ _ _ _ Hsomz.out)
        go_wp2_with fail
        refine HC4.out.mono ?_
        intro e woe hp_
        obtain ⟨hc_, qoe, noe, coe, koe, ioe, hn_, rfl, hs_⟩ := hp_.val
        have Hnoe := Lib.hid hn_
        have Hsoe := Lib.hid hs_
        have Hcwoe := Lib.hid (Hcomz.out.trans hc_)
        have HToe := Lib.hid (row_kept hc_ HTomz.out id)
        have HFoe := Lib.hid (row_kept hc_ HFomz.out id)
        have HUoe := Lib.hid (row_kept hc_ HUomz.out id)
        have HAoe := Lib.hid (row_kept hc_ HAomz.out id)
        have HCoe := Lib.hid (row_kept hc_ HComz.out id)
        clear hc_ hn_ hs_ hp_ a0 f0 f0' HC2 HC4
        have a0_ := var1 HCoe.out
        have af_ := row_free HCoe.out
        go_upto_region 26 with fail
        clear a0_ af_
        have Hst := Lib.hid (show Chg (fun y => y = cb) woe (woe.setCell ⟨cb, 0, none⟩ (.slice qoe noe coe)) from (Chg.refl (fun y => y = cb) woe).setCell (p := ⟨cb, 0, none⟩) (.inl rfl) _)
        have HCoez := Lib.hid (show (woe.setCell ⟨cb, 0, none⟩ (.slice qoe noe coe)).heap[cb]? = some (.cells #[.slice qoe noe coe] 26 (0, 0)) from heap_set HCoe.out (i := 0) _)
        have Hcoez := Lib.hid (Hcwoe.out.setCell (p := ⟨cb, 0, none⟩) (.inr Hcb.out.1) (.slice qoe noe coe))
        generalize woe.setCell ⟨cb, 0, none⟩ (.slice qoe noe coe) = woex at *
        have HToez := Lib.hid (row_kept Hst.out HToe.out (by have := Hlt.out; have := Hab.out; have := Hcb.out; omega))
        have HFoez := Lib.hid (row_kept Hst.out HFoe.out (by have := Hlt.out; have := Hab.out; have := Hcb.out; omega))
        have HUoez := Lib.hid (row_kept Hst.out HUoe.out (by have := Hlt.out; have := Hab.out; have := Hcb.out; omega))
        have HAoez := Lib.hid (row_kept Hst.out HAoe.out (by have := Hlt.out; have := Hab.out; have := Hcb.out; omega))
        have Hsoez := Lib.hid (Hsoe.out.keep Hst.out fun y hy e => by have h1 : womx.heap.size ≤ y := hy.1; have h2 : y = cb := e; have h3 := lt_of_block HComz.out; omega)
        clear Hst
        have c0 := var1 HCoez.out
        have u0 := var1 HUoez.out
        have HSm := Lib.hid (rsame_any _ _ _ _ _ _ _ _ _ _ woex Huw.out.1 Huw.out.1 Hsoez.out (Hu.out woex Hcoez.out))
        simp only [decide_true] at HSm
        rw [← Hn'.out] at Hnoe
        have hnn := Hnoe.out
        subst hnn
        go_wp2_with fail
        refine HSm.out.mono ?_
        rintro e wz ⟨rfl, hce⟩
        have Hcz := Lib.hid (Hcoez.out.trans hce)
        clear c0 u0 hce HSm
        go_wp2_with fail
        go_ret
        exact ⟨rfl, Hcz.out⟩
      · have hyb : (ym != 0) = true := by rw [bne_iff_ne]; exact hym
        clear hym
        go_wp2_with fail
        go_ret
        exact ⟨rfl, Hcomz.out⟩
    · have hgt : (0 : Int) < (noc : Int) := by omega
      clear hz
      go_wp2_with fail
      go_ret
      exact ⟨rfl, Hcocy.out⟩
/-FRAME-/
set_option maxRecDepth 100000 in
theorem treeBack_lifted (os : Os) (started : os.Started) (H : Type) (enc : TypeId × Value → H) :
    ReturnsInHanded {} Tryz.checked os 7 .any (fun w args => (Rows.treeBackSpec.pre enc Tryz.prog Tryz.f7 [] false w args ∧ laidMetH Tryz.prog Rows.treeBackRow.laid w) ∧ sizedMet enc Tryz.prog Tryz.f7 (OpenSpec.ofChange Rows.treeBackSpec) false w args)
      (Rows.treeBackSpec.post enc Tryz.prog Tryz.f7 false true false false) := by
  refine returns_both (C := Tryz.checked) (X := fun w _ => laidMetH Tryz.prog Rows.treeBackRow.laid w) (fun _ _ _ hh h => h.of_heap hh) Tryz.own started (by kernel_rfl) Tryz.func7
    (ChangeSpec.witness_shaped (enc := enc) (C := Tryz.checked) (os := os) (X := fun w _ => laidMetH Tryz.prog Rows.treeBackRow.laid w) false (World.laidAll Tryz.prog os Rows.treeBackRow.laid) #[.agg #[.slice none 0 0], .agg #[.string ByteArray.empty, .string ByteArray.empty], .agg #[.slice none 0 0]] 8 (World.laidAll_os _ _ _)
      (World.shaped_of_ZipB (by kernel_rfl) (by kernel_rfl)) (by kernel_rfl) (by kernel_rfl) (by kernel_rfl)
      (by rw [MakeChecks.laidMetH_plain _ _ _ (by kernel_rfl)]; exact laidMet_laidAll _ (by kernel_rfl) (by kernel_rfl))) ?_
  intro W base args ds gs before hval0 hW _ hsz hL hsh _
  have hval : ∀ (j : Nat) t v, Tryz.f7.params[j]? = some t → args[j]? = some v → Value.okWide Tryz.prog W .any base t v := hval0
  have hW' := hW
  obtain ⟨p, q, hA0, hV, rfl, _, _⟩ := hW
  have hA : DataW.TrodAll enc Tryz.prog W 0 (fun _ => true) true Tryz.f7.params.toList args.toList ds p := hA0
  have hsz1 : (DataW.weightsEach Tryz.prog (Tryz.f7.params.toList ++ Rows.treeBackSpec.plain.varTypes Tryz.prog) (ds ++ gs)).all (· ≤ reachBytes) = true := hsz
  rw [Tryz.params7] at hA hval hsz1
  obtain ⟨v0, v1, v2, d0, d1, d2, p0, p1, p2, rfl, rfl, rfl, h0, h1, h2⟩ := trodAll_three hA
  obtain ⟨rfl, rfl⟩ := trodVars_none hV
  obtain ⟨l0, c0, kb0, ko0, rfl, hn0, hr0⟩ := open_tree (hval 0 26 v0 rfl rfl) h0 (fun m hm => of_decide_eq_true (List.all_eq_true.1 hsz1 m (DataW.weights_mem_each (j := 0) (t := 26) (d := d0) rfl rfl m hm)))
  obtain ⟨f1, rfl, hr1⟩ := open_file (hval 1 33 v1 rfl rfl) h1 (fun m hm => of_decide_eq_true (List.all_eq_true.1 hsz1 m (DataW.weights_mem_each (j := 1) (t := 33) (d := d1) rfl rfl m hm)))
  obtain ⟨l2, c2, kb2, ko2, rfl, hn2, hr2⟩ := open_tree (hval 2 26 v2 rfl rfl) h2 (fun m hm => of_decide_eq_true (List.all_eq_true.1 hsz1 m (DataW.weights_mem_each (j := 2) (t := 26) (d := d2) rfl rfl m hm)))
  simp only [List.append_nil] at hW'
  rw [MakeChecks.laidMetH_plain _ _ _ (by kernel_rfl)] at hL
  have hL' : laidMet Tryz.prog [("math/bits.deBruijn32tab", Rows.laid_math_bits_deBruijn32tab), ("math/bits.deBruijn64tab", Rows.laid_math_bits_deBruijn64tab), ("internal/strconv.uint64pow10", Rows.laid_internal_strconv_uint64pow10), ("unicode/utf8.acceptRanges", Rows.laid_unicode_utf8_acceptRanges), ("unicode/utf8.first", Rows.laid_unicode_utf8_first)] W := hL
  have hlb : Lw W.heap.size W := lw_of hL' (.tail _ (.tail _ (.head _)))
  have hml : Pth.Ml W := wml_of hsh
  clear hA0 hval0
  refine (treeBack_all l0 _ kb0 ko0 f1 l2 _ kb2 ko2 W hn0 hr0 hr1 hn2 hr2 hlb hml).mono fun e W' ⟨he, hb⟩ => ?_
  subst he
  exact ⟨_, rfl, _, _, _, [], _, [], hW', trodAll_mk1 (shut_bool Tryz.underlying4 _), (trodAll_cons_mk (tree_stays h0 hb.below) (trodAll_cons_mk (file_stays h1 hb.below) (trodAll_cons_mk (tree_stays h2 hb.below) trodAll_mk0))), rfl, hb.below.frame _, fun h => by cases h⟩
theorem treeBack_holds : Rows.TreeBackSaid :=
  OpenClaim.holds_of_wide 7 Tryz.f7 rfl rfl rfl rfl rfl rfl rfl ⟨rfl, rfl, rfl, rfl, rfl⟩ rfl rfl rfl rfl rfl (by kernel_rfl) Tryz.func7 (by kernel_rfl)
    (of_decide_eq_true (by kernel_rfl)) (by unfold Func.isWrapper; first | (rw [if_pos (by decide +kernel)]; kernel_rfl) | (rw [if_neg (by decide +kernel)]; exact ⟨rfl, rfl⟩))
    (fun os started H enc _ => treeBack_lifted os started H enc)
theorem treeBack_card : Rows.TreeBackCardSaid :=
  Claim7.holds_tied_plain_at .later [] [.data, .data, .data, .data, .pinned] true (true, "ae40126c67c6ca9ad63bc136dd30ebf461b3d4ff067546d356e722ee9505be06") true treeBack_holds (fun _ h => by cases h) (by kernel_rfl) (fun _ h => by cases h) treeBack_row_tie rfl ⟨rfl, rfl⟩ (by kernel_rfl) rfl
    (fun f fn hf hfn => by
      obtain rfl : f = 7 := Option.some.inj ((show Tryz.prog.funcNamed "sapling/saplinglaw05.TreeBack" = some 7 by kernel_rfl).symm.trans hf) |>.symm
      obtain rfl : fn = Tryz.f7 := (Option.some.inj (Tryz.func7.symm.trans hfn)).symm
      exact ⟨by kernel_rfl, fun j t ht => by
        rw [Tryz.params7] at ht
        have hm : t ∈ [26, 33, 26] := by simpa using Array.mem_of_getElem? ht
        have hall : ([26, 33, 26].all fun u => !Tryz.prog.wantsStandIn u) = true := by kernel_rfl
        exact (show Tryz.prog.wantsStandIn t = false by simpa using List.all_eq_true.1 hall t hm)⟩)
    (by kernel_rfl)
#print axioms treeBack_card
end Go.Proofs.YtilkcjcmcnlfnaaGreatDoor
