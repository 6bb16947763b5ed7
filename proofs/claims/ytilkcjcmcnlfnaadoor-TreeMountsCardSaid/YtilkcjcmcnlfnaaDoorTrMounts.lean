/- Proved: the statement TreeMounts holds for every two trees and texts. Conditions: the listed package variables read as the program's text lays them (the card ties them); nothing else. -/
import Derived.Test.YtilkcjcmcnlfnaaDoorTrKit
import Derived.Test.YtilkcjcmcnlfnaaDoorTrMount
namespace Go.Proofs.YtilkcjcmcnlfnaaDoor
set_option linter.unusedVariables false
open Go.ChangeShapes Go.WideShapes Go.ChangeAt Go.RowKit
open Go.ChangeMaps (open_string shut_string)
set_option maxHeartbeats 16000000 in
set_option maxRecDepth 20000 in
theorem treeMounts_all (l : List FileL) (v : Value) (kb ko : Nat) (u : List FileL) (v' : Value) (jb jo : Nat) (x y : ByteArray) (W : World) (hs : InpS W (OldB W) v l kb ko) (hr : Reach l) (hu : InpS W (OldB W) v' u jb jo) (hru : Reach u) (wx : x.size ≤ maxLen) (wy : y.size ≤ maxLen) (hlb : Lw W.heap.size W) (hml : Pth.Ml W) :
    Calls Tryd.prog 4 #[.agg #[v], .agg #[v'], .string x, .string y] W fun e w' => e = .returned (.bool true) ∧ Chg NoB W w' := by
  obtain ⟨s, rfl⟩ : ∃ s, x = tx s := ⟨_, (tx_back x).symm⟩
  obtain ⟨r, rfl⟩ : ∃ r, y = tx r := ⟨_, (tx_back y).symm⟩
  have hss : (tx s).size = s.length := tx_size s
  have hrs : (tx r).size = r.length := tx_size r
  obtain ⟨sl, hsl⟩ : ∃ n, n = s.length := ⟨_, rfl⟩
  obtain ⟨rl, hrl⟩ : ∃ n, n = r.length := ⟨_, rfl⟩
  rw [← hsl] at hss
  rw [← hrl] at hrs
  rw [hss] at wx
  rw [hrs] at wy
  unfold maxLen at wx wy
  have Hsl := Lib.hid hsl
  have Hrl := Lib.hid hrl
  have Hs := Lib.hid (fun w' (h : Chg NoB W w') => hs.keep h fun _ _ => id)
  have Hu := Lib.hid (fun w' (h : Chg NoB W w') => hu.keep h fun _ _ => id)
  obtain ⟨⟨q, c, rfl, -, -, -⟩, -⟩ := hs
  obtain ⟨⟨q', c', rfl, -, -, -⟩, -⟩ := hu
  obtain ⟨n, hn⟩ : ∃ n, n = l.length := ⟨_, rfl⟩
  obtain ⟨n', hn'⟩ : ∃ n, n = u.length := ⟨_, rfl⟩
  rw [← hn] at Hs ⊢
  rw [← hn'] at Hu ⊢
  have Hr := Lib.hid hr
  have Hru := Lib.hid hru
  have Hlb := Lib.hid hlb
  have Hml := Lib.hid hml
  clear hn hn' hr hru hlb hml hsl hrl
  have hal_ := (Chg.refl NoB W).alloc (.cells #[.slice q n c] 28)
  have hb_ := heap_alloc_new W (.cells #[.slice q n c] 28)
  obtain ⟨tb, hxb_⟩ : ∃ b, b = W.heap.size := ⟨_, rfl⟩
  obtain ⟨w1, hw_⟩ : ∃ w_, W.alloc (.cells #[.slice q n c] 28) = w_ := ⟨_, rfl⟩
  have hz_ : w1.heap.size = tb + 1 := by rw [← hw_, hxb_]; exact alloc_size _ _
  rw [hw_] at hal_ hb_
  rw [← hxb_] at hb_
  have Hw1 := Lib.hid hw_
  have Hx1 := Lib.hid hxb_
  have Ha1 := Lib.hid hal_
  have Hb1 := Lib.hid hb_
  have Hz1 := Lib.hid hz_
  clear hal_ hb_ hxb_ hw_ hz_
  have hal_ := (Chg.refl NoB w1).alloc (.cells #[.slice q' n' c'] 28)
  have hb_ := heap_alloc_new w1 (.cells #[.slice q' n' c'] 28)
  obtain ⟨ub, hxb_⟩ : ∃ b, b = w1.heap.size := ⟨_, rfl⟩
  obtain ⟨w2, hw_⟩ : ∃ w_, w1.alloc (.cells #[.slice q' n' c'] 28) = w_ := ⟨_, rfl⟩
  have hz_ : w2.heap.size = ub + 1 := by rw [← hw_, hxb_]; exact alloc_size _ _
  rw [hw_] at hal_ hb_
  rw [← hxb_] at hb_
  have Hw2 := Lib.hid hw_
  have Hx2 := Lib.hid hxb_
  have Ha2 := Lib.hid hal_
  have Hb2 := Lib.hid hb_
  have Hz2 := Lib.hid hz_
  clear hal_ hb_ hxb_ hw_ hz_
  have hx2 : tb + 1 = ub := by rw [Hx2.out, Hz1.out]
  have Hc3 := Lib.hid (Ha1.out.trans Ha2.out)
  have HT3 := Lib.hid (row_kept Ha2.out Hb1.out id)
  have HU3 := Lib.hid Hb2.out
  go_enter Tryd.func4, Tryd.ntmps4
  go_upto_region 1 with fail
  rw [Hw1.out, Hw2.out, ← Hx1.out]
  rw [hx2]
  clear hx2
  go_wp2_with fail
  refine (talive_any W.heap.size w2 ((Hlb.out.keep Hc3.out)) (ml_keep Hml.out Hc3.out)).mono ?_
  rintro e w4 ⟨rfl, hc4⟩
  have Hc4 := Lib.hid (Hc3.out.trans hc4)
  have HT4 := Lib.hid (row_kept hc4 HT3.out id)
  have HU4 := Lib.hid (row_kept hc4 HU3.out id)
  clear hc4
  have t0 := var1 HT4.out
  have Hgr_ := Lib.hid ((fun h => tgreat_any l Hr.out.1 Hr.out.2 _ _ kb ko w4 h) (Hs.out w4 Hc4.out))
  obtain ⟨g1, hg_⟩ : ∃ g, g = greatF l := ⟨_, rfl⟩
  rw [← hg_] at Hgr_
  have Hg1 := Lib.hid hg_
  clear hg_
  cases g1 with
  | true =>
    go_wp2_with fail
    refine Hgr_.out.mono ?_
    rintro e wx ⟨rfl, hcx⟩
    have Hcx := Lib.hid (Hc4.out.trans hcx)
    clear hcx t0
    go_wp2_with fail
    go_ret
    exact ⟨rfl, Hcx.out⟩
  | false =>
  go_wp2_with fail
  refine Hgr_.out.mono ?_
  rintro e w5 ⟨rfl, hcx⟩
  have Hc5 := Lib.hid (Hc4.out.trans hcx)
  have HT5 := Lib.hid (row_kept hcx HT4.out id)
  have HU5 := Lib.hid (row_kept hcx HU4.out id)
  clear hcx Hgr_ t0
  have u0 := var1 HU5.out
  have Hgr_ := Lib.hid ((fun h => tgreat_any u Hru.out.1 Hru.out.2 _ _ jb jo w5 h) (Hu.out w5 Hc5.out))
  obtain ⟨g2, hg_⟩ : ∃ g, g = greatF u := ⟨_, rfl⟩
  rw [← hg_] at Hgr_
  have Hg2 := Lib.hid hg_
  clear hg_
  cases g2 with
  | true =>
    go_wp2_with fail
    refine Hgr_.out.mono ?_
    rintro e wx ⟨rfl, hcx⟩
    have Hcx := Lib.hid (Hc5.out.trans hcx)
    clear hcx u0
    go_wp2_with fail
    go_ret
    exact ⟨rfl, Hcx.out⟩
  | false =>
  go_wp2_with fail
  refine Hgr_.out.mono ?_
  rintro e w6 ⟨rfl, hcx⟩
  have Hc6 := Lib.hid (Hc5.out.trans hcx)
  have HT6 := Lib.hid (row_kept hcx HT5.out id)
  have HU6 := Lib.hid (row_kept hcx HU5.out id)
  clear hcx Hgr_ u0
  by_cases hbs : 1024 < sl
  · go_wp2_with fail
    go_ret
    exact ⟨rfl, Hc6.out⟩
  by_cases hbr : 1024 < rl
  · go_wp2_with fail
    go_ret
    exact ⟨rfl, Hc6.out⟩
  obtain ⟨hl, hw⟩ := great_sizes Hg1.out.symm
  obtain ⟨hl2, hw2⟩ := great_sizes Hg2.out.symm
  have hs2 : s.length ≤ 262144 := by have := Hsl.out; omega
  have hr2 : r.length ≤ 262144 := by have := Hrl.out; omega
  have Hlw := Lib.hid (And.intro hl hw)
  have Huw := Lib.hid (And.intro hl2 hw2)
  have Hsr := Lib.hid (And.intro hs2 hr2)
  have HU1 := Lib.hid (fun w' (h : Chg NoB W w') => tunder_any s r w' hs2 hr2 (ml_keep Hml.out h))
  have HU2 := Lib.hid (fun w' (h : Chg NoB W w') => tunder_any r s w' hr2 hs2 (ml_keep Hml.out h))
  obtain ⟨a1, a2, ha⟩ : ∃ a1 a2, undL s r = (a1, a2) := ⟨_, _, rfl⟩
  obtain ⟨b1, b2, hb⟩ : ∃ b1 b2, undL r s = (b1, b2) := ⟨_, _, rfl⟩
  rw [ha] at HU1
  rw [hb] at HU2
  have Hua := Lib.hid (show a2 = false → Pth.underL s r = none by intro h; have h2 := undL_some (d := s) (s := r); rw [ha] at h2; change a2 = _ at h2; rw [h] at h2; cases hc : Pth.underL s r with | none => rfl | some z => rw [hc] at h2; cases h2)
  have Hub := Lib.hid (show b2 = false → Pth.underL r s = none by intro h; have h2 := undL_some (d := r) (s := s); rw [hb] at h2; change b2 = _ at h2; rw [h] at h2; cases hc : Pth.underL r s with | none => rfl | some z => rw [hc] at h2; cases h2)
  clear ha hb hl hw hl2 hw2 hs2 hr2 Hg1 Hg2
  go_wp2_with fail
  refine (HU1.out _ Hc6.out).mono ?_
  rintro e w7 ⟨hc7, rfl⟩
  have Hc7 := Lib.hid (Hc6.out.trans hc7)
  have HT7 := Lib.hid (row_kept hc7 HT6.out id)
  have HU7 := Lib.hid (row_kept hc7 HU6.out id)
  clear hc7
  go_wp2_with fail
  refine (HU2.out _ Hc7.out).mono ?_
  rintro e w8 ⟨hc8, rfl⟩
  have Hc8 := Lib.hid (Hc7.out.trans hc8)
  have HT8 := Lib.hid (row_kept hc8 HT7.out id)
  have HU8 := Lib.hid (row_kept hc8 HU7.out id)
  clear hc8 HU1 HU2 hbs hbr
  have hr := tx_beq s r
  obtain ⟨d1, hd1⟩ : ∃ b, b = decide (s = r) := ⟨_, rfl⟩
  rw [← hd1] at hr
  have Hd1 := Lib.hid hd1
  clear hd1
  cases d1 with
  | true =>
    go_wp2_with fail
    go_ret
    exact ⟨rfl, Hc8.out⟩
  | false =>
  cases a2 with
  | true =>
    go_wp2_with fail
    go_ret
    exact ⟨rfl, Hc8.out⟩
  | false =>
  cases b2 with
  | true =>
    go_wp2_with fail
    go_ret
    exact ⟨rfl, Hc8.out⟩
  | false =>
  have Hap := Lib.hid (show s ≠ r from of_decide_eq_false Hd1.out.symm)
  obtain ⟨dx, yx, HX, Hx0⟩ : ∃ d y, Hid (∀ w', Chg NoB W w' → Calls _ _ _ w' (OutP d y w')) ∧ Hid (y = 0 → mountF [] s l = .ok d) :=
    ⟨outL (mountF [] s l), outE (mountF [] s l), Lib.hid (fun w' h => (tmount_any [] l s (by decide) (fun x hx => by cases hx) Hlw.out.1 Hlw.out.2 Hsr.out.1 NoB (.slice none 0 0) 0 0 _ _ kb ko w' (ml_keep Hml.out h) (InpS.nil _ _) (Hs.out w' h)).mono fun _ _ h => h.out), Lib.hid mount_zero⟩
  obtain ⟨dy, yy, HY, Hy0⟩ : ∃ d y, Hid (∀ w', Chg NoB W w' → Calls _ _ _ w' (OutP d y w')) ∧ Hid (y = 0 → mountF [] r u = .ok d) :=
    ⟨outL (mountF [] r u), outE (mountF [] r u), Lib.hid (fun w' h => (tmount_any [] u r (by decide) (fun x hx => by cases hx) Huw.out.1 Huw.out.2 Hsr.out.2 NoB (.slice none 0 0) 0 0 _ _ jb jo w' (ml_keep Hml.out h) (InpS.nil _ _) (Hu.out w' h)).mono fun _ _ h => h.out), Lib.hid mount_zero⟩
  have t0 := var1 HT8.out
  go_wp2_with fail
  refine (HX.out w8 Hc8.out).mono ?_
  intro e wa hp_
  obtain ⟨hc_, qa, na, ca, ka, ia, hn_, rfl, hs_⟩ := hp_.val
  have Hna := Lib.hid hn_
  have Hsa := Lib.hid hs_
  have Hcca := Lib.hid hc_
  have Hcwa := Lib.hid (Hc8.out.trans hc_)
  clear hc_ hn_ hs_ hp_
  have HTa := Lib.hid (row_kept Hcca.out HT8.out id)
  have HUa := Lib.hid (row_kept Hcca.out HU8.out id)
  clear t0 hr
  have hal_ := (Chg.refl NoB wa).alloc (.cells #[.slice qa na ca] 28)
  have hb_ := heap_alloc_new wa (.cells #[.slice qa na ca] 28)
  obtain ⟨xb, hxb_⟩ : ∃ b, b = wa.heap.size := ⟨_, rfl⟩
  obtain ⟨wb, hw_⟩ : ∃ w_, wa.alloc (.cells #[.slice qa na ca] 28) = w_ := ⟨_, rfl⟩
  have hz_ : wb.heap.size = xb + 1 := by rw [← hw_, hxb_]; exact alloc_size _ _
  rw [hw_] at hal_ hb_
  rw [← hxb_] at hb_
  have Hwax := Lib.hid hw_
  have Hxax := Lib.hid hxb_
  have Haax := Lib.hid hal_
  have Hbax := Lib.hid hb_
  have Hzax := Lib.hid hz_
  clear hal_ hb_ hxb_ hw_ hz_
  go_upto_region 10 with fail
  rw [Hwax.out, ← Hxax.out]
  have HTb := Lib.hid (row_kept Haax.out HTa.out id)
  have HUb := Lib.hid (row_kept Haax.out HUa.out id)
  have HXb := Lib.hid Hbax.out
  have Hcb := Lib.hid (Hcwa.out.trans Haax.out)
  have Hxb := Lib.hid (show W.heap.size ≤ xb ∧ tb < xb ∧ ub < xb by have h1 := Hcwa.out.size; have := Hxax.out; have h3 := lt_of_block HTa.out; have h4 := lt_of_block HUa.out; omega)
  have u0 := var1 HUb.out
  go_wp2_with fail
  refine (HY.out wb Hcb.out).mono ?_
  intro e wc hp_
  obtain ⟨hc_, qc, nc, cc, kc, ic, hn_, rfl, hs_⟩ := hp_.val
  have Hnc := Lib.hid hn_
  have Hsc := Lib.hid hs_
  have Hccc := Lib.hid hc_
  have Hcwc := Lib.hid (Hcb.out.trans hc_)
  clear hc_ hn_ hs_ hp_
  have HTc := Lib.hid (row_kept Hccc.out HTb.out id)
  have HUc := Lib.hid (row_kept Hccc.out HUb.out id)
  have HXc := Lib.hid (row_kept Hccc.out HXb.out id)
  clear u0
  have hal_ := (Chg.refl NoB wc).alloc (.cells #[.slice qc nc cc] 28)
  have hb_ := heap_alloc_new wc (.cells #[.slice qc nc cc] 28)
  obtain ⟨yb, hxb_⟩ : ∃ b, b = wc.heap.size := ⟨_, rfl⟩
  obtain ⟨wd, hw_⟩ : ∃ w_, wc.alloc (.cells #[.slice qc nc cc] 28) = w_ := ⟨_, rfl⟩
  have hz_ : wd.heap.size = yb + 1 := by rw [← hw_, hxb_]; exact alloc_size _ _
  rw [hw_] at hal_ hb_
  rw [← hxb_] at hb_
  have Hwcx := Lib.hid hw_
  have Hxcx := Lib.hid hxb_
  have Hacx := Lib.hid hal_
  have Hbcx := Lib.hid hb_
  have Hzcx := Lib.hid hz_
  clear hal_ hb_ hxb_ hw_ hz_
  go_upto_region 11 with fail
  rw [Hwcx.out, ← Hxcx.out]
  have HTd := Lib.hid (row_kept Hacx.out HTc.out id)
  have HUd := Lib.hid (row_kept Hacx.out HUc.out id)
  have HXd := Lib.hid (row_kept Hacx.out HXc.out id)
  have HYd := Lib.hid Hbcx.out
  have Hcd := Lib.hid (Hcwc.out.trans Hacx.out)
  have Hyb := Lib.hid (show W.heap.size ≤ yb ∧ tb < yb ∧ ub < yb ∧ xb < yb by have h1 := Hcwc.out.size; have := Hxcx.out; have h3 := lt_of_block HTc.out; have h4 := lt_of_block HUc.out; have h5 := lt_of_block HXc.out; omega)
  have HsX := Lib.hid (fun w' (h : Chg NoB wa w') => Hsa.out.keep h fun _ _ => id)
  have HcaD := Lib.hid (Haax.out.trans (Hccc.out.trans Hacx.out))
  by_cases hyx : yx = 0
  · have hkx := Hx0.out hyx
    subst hyx
    by_cases hyy : yy = 0
    · have hky := Hy0.out hyy
      subst hyy
      obtain ⟨hsw, hzz⟩ := mounts_swap Hap.out (Hua.out (by first | rfl | trivial)) (Hub.out (by first | rfl | trivial)) hkx hky
      have hgx := good_sizes (mount_good hkx)
      have hgy := good_sizes (mount_good hky)
      have HZ1 := Lib.hid (fun w' (h : Chg NoB W w') S' v' kb' ko' (hi : InpS w' S' v' dx kb' ko') => (tmount_any dx u r (by omega) (fun x hx => by have := hgx.2 x hx; omega) Huw.out.1 Huw.out.2 Hsr.out.2 S' v' kb' ko' _ _ jb jo w' (ml_keep Hml.out h) hi (Hu.out w' h)).mono fun _ _ h => h.out)
      have HZ2 := Lib.hid (fun w' (h : Chg NoB W w') S' v' kb' ko' (hi : InpS w' S' v' dy kb' ko') => (tmount_any dy l s (by omega) (fun x hx => by have := hgy.2 x hx; omega) Hlw.out.1 Hlw.out.2 Hsr.out.1 S' v' kb' ko' _ _ kb ko w' (ml_keep Hml.out h) hi (Hs.out w' h)).mono fun _ _ h => h.out)
      rw [← hsw] at HZ2
      have hzl : (outL (mountF dx r u)).length ≤ 1048576 := mount_out
      obtain ⟨rz, hrz⟩ : ∃ z, z = mountF dx r u := ⟨_, rfl⟩
      rw [← hrz] at HZ1 HZ2 hzz hzl
      have hz0 : outE rz = 0 ∨ outE rz = 13 := by
        rcases hzz with ⟨z, hz⟩ | hz
        · left; rw [hz]; rfl
        · right; rw [hz]; rfl
      obtain ⟨dz, hdz⟩ : ∃ d, d = outL rz := ⟨_, rfl⟩
      obtain ⟨yz, hyz⟩ : ∃ y, y = outE rz := ⟨_, rfl⟩
      rw [← hdz, ← hyz] at HZ1 HZ2
      rw [← hyz] at hz0
      rw [← hdz] at hzl
      have Hz0 := Lib.hid hz0
      have Hzl := Lib.hid hzl
      clear hrz hdz hyz hz0 hzl
      clear hkx hky hsw hzz hgx hgy
      have HZ1' := Lib.hid (HZ1.out wd Hcd.out _ _ _ _ (HsX.out wd HcaD.out))
      have x0 := var1 HXd.out
      have u0 := var1 HUd.out
      go_wp2_with fail
      refine HZ1'.out.mono ?_
      intro e we hp_
      obtain ⟨hc_, qe, ne, ce, ke, ie, hn_, rfl, hs_⟩ := hp_.val
      have Hne := Lib.hid hn_
      have Hse := Lib.hid hs_
      have Hcce := Lib.hid hc_
      have Hcwe := Lib.hid (Hcd.out.trans hc_)
      have HTe := Lib.hid (row_kept hc_ HTd.out id)
      have HUe := Lib.hid (row_kept hc_ HUd.out id)
      have HXe := Lib.hid (row_kept hc_ HXd.out id)
      have HYe := Lib.hid (row_kept hc_ HYd.out id)
      clear hc_ hn_ hs_ hp_ x0 u0 HZ1 HZ1'
      have a0_ := var1 HXe.out
      have af_ := row_free HXe.out
      go_upto_region 14 with fail
      clear a0_ af_
      have Hst := Lib.hid (show Chg (fun y => y = xb) we (we.setCell ⟨xb, 0, none⟩ (.slice qe ne ce)) from (Chg.refl (fun y => y = xb) we).setCell (p := ⟨xb, 0, none⟩) (.inl rfl) _)
      have HXez := Lib.hid (show (we.setCell ⟨xb, 0, none⟩ (.slice qe ne ce)).heap[xb]? = some (.cells #[.slice qe ne ce] 28 (0, 0)) from heap_set HXe.out (i := 0) _)
      have Hcez := Lib.hid (Hcwe.out.setCell (p := ⟨xb, 0, none⟩) (.inr Hxb.out.1) (.slice qe ne ce))
      generalize we.setCell ⟨xb, 0, none⟩ (.slice qe ne ce) = wf at *
      have HTez := Lib.hid (row_kept Hst.out HTe.out (by have := Hxb.out; have := Hyb.out; omega))
      have HUez := Lib.hid (row_kept Hst.out HUe.out (by have := Hxb.out; have := Hyb.out; omega))
      have HYez := Lib.hid (row_kept Hst.out HYe.out (by have := Hxb.out; have := Hyb.out; omega))
      have Hsez := Lib.hid (Hse.out.keep Hst.out fun y hy e => by have h1 : wd.heap.size ≤ y := hy.1; have h2 : y = xb := e; have h3 := lt_of_block HXd.out; omega)
      have HST := Hst.out
      have HST_ := Lib.hid HST
      clear Hst HST
      have HsY := Lib.hid (Hsc.out.keep (Hacx.out.trans Hcce.out) fun _ _ => id)
      have HsY2 := Lib.hid (HsY.out.keep (show Chg (fun y => y = xb) we wf from HST_.out) fun y hy e => by have h1 : wb.heap.size ≤ y := hy.1; have h2 : y = xb := e; have h3 := lt_of_block HXb.out; omega)
      have HZ2' := Lib.hid (HZ2.out wf Hcez.out _ _ _ _ HsY2.out)
      have y0 := var1 HYez.out
      have t0 := var1 HTez.out
      go_wp2_with fail
      refine HZ2'.out.mono ?_
      intro e wg hp_
      obtain ⟨hc_, qg, ng, cg, kg, ig, hn_, rfl, hs_⟩ := hp_.val
      have Hng := Lib.hid hn_
      have Hsg := Lib.hid hs_
      have Hccg := Lib.hid hc_
      have Hcwg := Lib.hid (Hcez.out.trans hc_)
      have HTg := Lib.hid (row_kept hc_ HTez.out id)
      have HUg := Lib.hid (row_kept hc_ HUez.out id)
      have HXg := Lib.hid (row_kept hc_ HXez.out id)
      have HYg := Lib.hid (row_kept hc_ HYez.out id)
      clear hc_ hn_ hs_ hp_ y0 t0 HZ2 HZ2'
      have a0_ := var1 HYg.out
      have af_ := row_free HYg.out
      go_upto_region 15 with fail
      clear a0_ af_
      have Hst := Lib.hid (show Chg (fun y => y = yb) wg (wg.setCell ⟨yb, 0, none⟩ (.slice qg ng cg)) from (Chg.refl (fun y => y = yb) wg).setCell (p := ⟨yb, 0, none⟩) (.inl rfl) _)
      have HYgz := Lib.hid (show (wg.setCell ⟨yb, 0, none⟩ (.slice qg ng cg)).heap[yb]? = some (.cells #[.slice qg ng cg] 28 (0, 0)) from heap_set HYg.out (i := 0) _)
      have Hcgz := Lib.hid (Hcwg.out.setCell (p := ⟨yb, 0, none⟩) (.inr Hyb.out.1) (.slice qg ng cg))
      generalize wg.setCell ⟨yb, 0, none⟩ (.slice qg ng cg) = wh at *
      have HTgz := Lib.hid (row_kept Hst.out HTg.out (by have := Hxb.out; have := Hyb.out; omega))
      have HUgz := Lib.hid (row_kept Hst.out HUg.out (by have := Hxb.out; have := Hyb.out; omega))
      have HXgz := Lib.hid (row_kept Hst.out HXg.out (by have := Hxb.out; have := Hyb.out; omega))
      have Hsgz := Lib.hid (Hsg.out.keep Hst.out fun y hy e => by have h1 : wf.heap.size ≤ y := hy.1; have h2 : y = yb := e; have h3 := lt_of_block HYez.out; omega)
      have HST2_ := Hst
      clear Hst
      have HsA := Lib.hid (Hsez.out.keep Hccg.out fun _ _ => id)
      have HsA2 := Lib.hid (HsA.out.keep (show Chg (fun y => y = yb) wg wh from HST2_.out) fun y hy e => by have h1 : wd.heap.size ≤ y := hy.1; have h2 : y = yb := e; have h3 := lt_of_block HYd.out; omega)
      have a0 := var1 HXgz.out
      have b0 := var1 HYgz.out
      have HSm := Lib.hid (rsame_any _ _ _ _ _ _ _ _ _ _ wh Hzl.out Hzl.out HsA2.out Hsgz.out)
      simp only [decide_true] at HSm
      rcases Hz0.out with rfl | rfl
      · go_wp2_with fail
        refine HSm.out.mono ?_
        rintro e wz ⟨rfl, hce⟩
        have Hcz := Lib.hid (Hcgz.out.trans hce)
        clear a0 b0 hce HSm
        go_wp2_with fail
        go_ret
        exact ⟨rfl, Hcz.out⟩
      · go_wp2_with fail
        refine HSm.out.mono ?_
        rintro e wz ⟨rfl, hce⟩
        have Hcz := Lib.hid (Hcgz.out.trans hce)
        clear a0 b0 hce HSm
        go_wp2_with fail
        go_ret
        exact ⟨rfl, Hcz.out⟩
    · have hyb : (yy != 0) = true := by rw [bne_iff_ne]; exact hyy
      clear hyy hkx
      go_wp2_with fail
      go_ret
      exact ⟨rfl, Hcd.out⟩
  · have hyb : (yx != 0) = true := by rw [bne_iff_ne]; exact hyx
    clear hyx
    go_wp2_with fail
    go_ret
    exact ⟨rfl, Hcd.out⟩
/-FRAME-/
set_option maxRecDepth 100000 in
theorem treeMounts_lifted (os : Os) (started : os.Started) (H : Type) (enc : TypeId × Value → H) :
    ReturnsInHanded {} Tryd.checked os 4 .any (fun w args => (Rows.treeMountsSpec.pre enc Tryd.prog Tryd.f4 [] false w args ∧ laidMetH Tryd.prog Rows.treeMountsRow.laid w) ∧ sizedMet enc Tryd.prog Tryd.f4 (OpenSpec.ofChange Rows.treeMountsSpec) false w args)
      (Rows.treeMountsSpec.post enc Tryd.prog Tryd.f4 false true false false) := by
  refine returns_both (C := Tryd.checked) (X := fun w _ => laidMetH Tryd.prog Rows.treeMountsRow.laid w) (fun _ _ _ hh h => h.of_heap hh) Tryd.own started (by kernel_rfl) Tryd.func4
    (ChangeSpec.witness_shaped (enc := enc) (C := Tryd.checked) (os := os) (X := fun w _ => laidMetH Tryd.prog Rows.treeMountsRow.laid w) false (World.laidAll Tryd.prog os Rows.treeMountsRow.laid) #[.agg #[.slice none 0 0], .agg #[.slice none 0 0], .string ByteArray.empty, .string ByteArray.empty] 8 (World.laidAll_os _ _ _)
      (World.shaped_of_ZipB (by kernel_rfl) (by kernel_rfl)) (by kernel_rfl) (by kernel_rfl) (by kernel_rfl)
      (by rw [MakeChecks.laidMetH_plain _ _ _ (by kernel_rfl)]; exact laidMet_laidAll _ (by kernel_rfl) (by kernel_rfl))) ?_
  intro W base args ds gs before hval0 hW _ hsz hL hsh _
  have hval : ∀ (j : Nat) t v, Tryd.f4.params[j]? = some t → args[j]? = some v → Value.okWide Tryd.prog W .any base t v := hval0
  have hW' := hW
  obtain ⟨p, q, hA0, hV, rfl, _, _⟩ := hW
  have hA : DataW.TrodAll enc Tryd.prog W 0 (fun _ => true) true Tryd.f4.params.toList args.toList ds p := hA0
  have hsz1 : (DataW.weightsEach Tryd.prog (Tryd.f4.params.toList ++ Rows.treeMountsSpec.plain.varTypes Tryd.prog) (ds ++ gs)).all (· ≤ reachBytes) = true := hsz
  rw [Tryd.params4] at hA hval hsz1
  obtain ⟨v0, v1, v2, v3, d0, d1, d2, d3, p0, p1, p2, p3, rfl, rfl, rfl, h0, h1, h2, h3⟩ := trodAll_four hA
  obtain ⟨rfl, rfl⟩ := trodVars_none hV
  obtain ⟨l0, c0, kb0, ko0, rfl, hn0, hr0⟩ := open_tree (hval 0 28 v0 rfl rfl) h0 (fun m hm => of_decide_eq_true (List.all_eq_true.1 hsz1 m (DataW.weights_mem_each (j := 0) (t := 28) (d := d0) rfl rfl m hm)))
  obtain ⟨l1, c1, kb1, ko1, rfl, hn1, hr1⟩ := open_tree (hval 1 28 v1 rfl rfl) h1 (fun m hm => of_decide_eq_true (List.all_eq_true.1 hsz1 m (DataW.weights_mem_each (j := 1) (t := 28) (d := d1) rfl rfl m hm)))
  obtain ⟨x2, rfl, rfl, rfl, wx2⟩ := open_string Tryd.underlying9 (hval 2 9 v2 rfl rfl) h2
  obtain ⟨x3, rfl, rfl, rfl, wx3⟩ := open_string Tryd.underlying9 (hval 3 9 v3 rfl rfl) h3
  simp only [List.append_nil] at hW'
  rw [MakeChecks.laidMetH_plain _ _ _ (by kernel_rfl)] at hL
  have hL' : laidMet Tryd.prog [("math/bits.deBruijn32tab", Rows.laid_math_bits_deBruijn32tab), ("math/bits.deBruijn64tab", Rows.laid_math_bits_deBruijn64tab), ("internal/strconv.uint64pow10", Rows.laid_internal_strconv_uint64pow10), ("unicode/utf8.acceptRanges", Rows.laid_unicode_utf8_acceptRanges), ("unicode/utf8.first", Rows.laid_unicode_utf8_first)] W := hL
  have hlb : Lw W.heap.size W := lw_of hL' (.tail _ (.tail _ (.head _)))
  have hml : Pth.Ml W := wml_of hsh
  clear hA0 hval0
  refine (treeMounts_all l0 _ kb0 ko0 l1 _ kb1 ko1 x2 x3 W hn0 hr0 hn1 hr1 wx2 wx3 hlb hml).mono fun e W' ⟨he, hb⟩ => ?_
  subst he
  exact ⟨_, rfl, _, _, _, [], _, [], hW', trodAll_mk1 (shut_bool Tryd.underlying4 _), (trodAll_cons_mk (tree_stays h0 hb.below) (trodAll_cons_mk (tree_stays h1 hb.below) (trodAll_cons_mk (shut_string Tryd.underlying9 wx2) (trodAll_cons_mk (shut_string Tryd.underlying9 wx3) trodAll_mk0)))), rfl, hb.below.frame _, fun h => by cases h⟩
theorem treeMounts_holds : Rows.TreeMountsSaid :=
  OpenClaim.holds_of_wide 4 Tryd.f4 rfl rfl rfl rfl rfl rfl rfl ⟨rfl, rfl, rfl, rfl, rfl⟩ rfl rfl rfl rfl rfl (by kernel_rfl) Tryd.func4 (by kernel_rfl)
    (of_decide_eq_true (by kernel_rfl)) (by unfold Func.isWrapper; first | (rw [if_pos (by decide +kernel)]; kernel_rfl) | (rw [if_neg (by decide +kernel)]; exact ⟨rfl, rfl⟩))
    (fun os started H enc _ => treeMounts_lifted os started H enc)
theorem treeMounts_card : Rows.TreeMountsCardSaid :=
  Claim7.holds_tied_plain_at .later [] [.data, .data, .data, .data, .pinned] true (true, "cbee21be2c2894f033b1d23d06768d056e4ff80436066a5319d37677786e6df4") false treeMounts_holds (fun _ h => by cases h) (by kernel_rfl) (fun _ h => by cases h) treeMounts_row_tie rfl ⟨rfl, rfl⟩ (by kernel_rfl) rfl
    (fun f fn hf hfn => by
      obtain rfl : f = 4 := Option.some.inj ((show Tryd.prog.funcNamed "sapling/saplinglaw05.TreeMounts" = some 4 by kernel_rfl).symm.trans hf) |>.symm
      obtain rfl : fn = Tryd.f4 := (Option.some.inj (Tryd.func4.symm.trans hfn)).symm
      exact ⟨by kernel_rfl, fun j t ht => by
        rw [Tryd.params4] at ht
        have hm : t ∈ [28, 28, 9, 9] := by simpa using Array.mem_of_getElem? ht
        have hall : ([28, 28, 9, 9].all fun u => !Tryd.prog.wantsStandIn u) = true := by kernel_rfl
        exact (show Tryd.prog.wantsStandIn t = false by simpa using List.all_eq_true.1 hall t hm)⟩)
    (by kernel_rfl)
#print axioms treeMounts_card
end Go.Proofs.YtilkcjcmcnlfnaaDoor
