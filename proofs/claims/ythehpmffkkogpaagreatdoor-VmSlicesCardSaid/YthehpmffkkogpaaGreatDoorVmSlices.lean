/- Proved: the statement VmSlices holds for every program, tree and slices. Conditions: the listed package variables read as the program's text lays them (the card ties them); nothing else. -/
import Derived.Test.YthehpmffkkogpaaGreatDoorVqH
import Derived.Test.YthehpmffkkogpaaGreatDoorVmSliceL


namespace Go.Proofs.YthehpmffkkogpaaGreatDoor
set_option linter.unusedVariables false
open Go.ChangeShapes Go.WideShapes Go.ChangeAt Go.RowKit
open Go.ChangeMaps (open_string shut_string)
set_option maxHeartbeats 8000000 in
set_option maxRecDepth 20000 in
theorem vmSlices_all (l0 : List InsL) (v0 : Value) (kb0 ko0 : Nat) (l1 : List FileL) (u1 : Value) (kb1 ko1 : Nat) (l2 : List Int) (v2 : Value) (kb2 ko2 : Nat) (W : World) (hn0 : InsS W (OldB W) v0 l0 kb0 ko0) (hn1 : InpS W (OldB W) u1 l1 kb1 ko1) (hr1 : Reach l1) (hn2 : NumS W (OldB W) v2 l2 kb2 ko2) (hml : Pth.Ml W) (hlb : Lb W.heap.size W) (hwd : Wd W.heap.size W) :
    Calls Tryz.prog 4 #[v0, .agg #[u1], v2] W fun e w' => e = .returned (.bool true) ∧ Chg NoB W w' := by
  have hp0_ := hn0
  have hv0_ := hn1
  obtain ⟨⟨pq, pc, rfl, p1_, p2_, -⟩, -⟩ := hn0
  obtain ⟨⟨q, c, rfl, -, -, -⟩, -⟩ := hn1
  obtain ⟨m, hm_⟩ : ∃ m, m = l0.length := ⟨_, rfl⟩
  obtain ⟨n, hn_⟩ : ∃ n, n = l1.length := ⟨_, rfl⟩
  rw [← hm_] at hp0_ p1_ ⊢
  rw [← hn_] at hv0_ ⊢
  have Hpm := Lib.hid hm_
  have Hvn := Lib.hid hn_
  have Hpc := Lib.hid (And.intro p1_ p2_)
  have Hp := Lib.hid hp0_
  have Hv := Lib.hid hv0_
  have Hrc := Lib.hid hr1
  have Hwd := Lib.hid hwd
  have Hlb := Lib.hid hlb
  have Hml := Lib.hid hml
  have HRun := Lib.hid (fun (w' : World) (h : Chg NoB W w') (sm : SmallG l0 l1) => run_any l0 l1 _ _ _ _ kb0 ko0 kb1 ko1 W.heap.size w' (hwd.keep h) (hlb.keep h) (ml_keep hml h) (by have := sm.plen; omega) (by have := sm.vlen; omega) (fun x hx => by have := sm.files x hx; omega) (hp0_.keep h fun _ _ => id) (hv0_.keep h fun _ _ => id))
  have Hwf := Lib.hid hp0_.wfs
  clear hm_ hn_ hp0_ hv0_ p1_ p2_ hr1 hwd hlb hml
  obtain ⟨⟨sq, sc, rfl, s1, s2, s3⟩, sat⟩ := hn2
  obtain ⟨sl, hsl⟩ : ∃ z, z = l2.length := ⟨_, rfl⟩
  rw [← hsl] at s1 ⊢
  have Hsl := Lib.hid hsl
  have Hs3 := Lib.hid s3
  have Hsat := Lib.hid sat
  unfold maxLen at s2
  clear hsl s3 sat
  have hal_ := (Chg.refl NoB W).alloc (.cells #[.slice q n c] 25)
  have hb_ := heap_alloc_new W (.cells #[.slice q n c] 25)
  obtain ⟨vb, hxb_⟩ : ∃ b, b = W.heap.size := ⟨_, rfl⟩
  obtain ⟨w1, hw_⟩ : ∃ w_, W.alloc (.cells #[.slice q n c] 25) = w_ := ⟨_, rfl⟩
  have hz_ : w1.heap.size = vb + 1 := by rw [← hw_, hxb_]; exact alloc_size _ _
  rw [hw_] at hal_ hb_
  rw [← hxb_] at hb_
  have Hw1 := Lib.hid hw_
  have Hx1 := Lib.hid hxb_
  have Ha1 := Lib.hid hal_
  have Hb1 := Lib.hid hb_
  have Hz1 := Lib.hid hz_
  clear hal_ hb_ hxb_ hw_ hz_
  go_enter Tryz.func4, Tryz.ntmps4
  go_upto_region 1 with fail
  rw [Hw1.out, ← Hx1.out]
  go_wp2_with fail
  refine (malive_any W.heap.size w1 (Hwd.out.keep Ha1.out) (Hlb.out.keep Ha1.out) (ml_keep Hml.out Ha1.out)).mono ?_
  rintro e w2 ⟨rfl, hc2⟩
  have Hc2 := Lib.hid (Ha1.out.trans hc2)
  have HG := Lib.hid (mgreat_any l0 l1 Hrc.out _ _ _ _ kb0 ko0 kb1 ko1 w2 (Hp.out.keep Hc2.out fun _ _ => id) (Hv.out.keep Hc2.out fun _ _ => id))
  have Hd2 := Lib.hid hc2
  have v0 := var1 (row_kept hc2 Hb1.out id)
  clear hc2
  go_wp2_with fail
  refine HG.out.mono ?_
  rintro e w3 ⟨hc3, g, rfl, hg⟩
  have Hc3 := Lib.hid (Hc2.out.trans hc3)
  have Hd3 := Lib.hid (Hd2.out.trans hc3)
  have Hg := Lib.hid hg
  clear hc3 hg v0 HG
  cases g with
  | true =>
    go_wp2_with fail
    go_ret
    exact ⟨rfl, Hc3.out⟩
  | false =>
  by_cases h200 : 200 < sl
  · go_wp2_with fail
    go_ret
    exact ⟨rfl, Hc3.out⟩
  have hsl200 : sl ≤ 200 := by omega
  have h200b : (200 < (sl : Int)) = False := eq_false (by omega)
  clear h200
  have Hsm := Lib.hid (Hg.out rfl)
  have v0 := var1 (row_kept Hd3.out Hb1.out id)
  have HR3 := Lib.hid (HRun.out w3 Hc3.out Hsm.out)
  have HN := Lib.hid (fun (w' : World) (h : Chg NoB W w') => vnew_any l0 l1 _ _ _ _ kb0 ko0 kb1 ko1 W.heap.size w' (Hwd.out.keep h) (ml_keep Hml.out h) (by have := Hsm.out.plen; omega) (by have := Hsm.out.vlen; omega) (fun x hx => by have := Hsm.out.files x hx; omega) (Hp.out.keep h fun _ _ => id) (Hv.out.keep h fun _ _ => id))
  go_wp2_with fail
  refine HR3.out.mono ?_
  intro e w4 hr
  obtain ⟨hc4, q4, k4, c4, kb4, ko4, hk4, rfl, hs4⟩ := hr.val
  have Hc4 := Lib.hid (Hc3.out.trans hc4)
  have Hd4 := Lib.hid (Hd3.out.trans hc4)
  have Hs4 := Lib.hid hs4
  have Hk4 := Lib.hid hk4
  obtain ⟨sn, hsn⟩ : ∃ z, z = runN l0 l1 := ⟨_, rfl⟩
  obtain ⟨sy, hsy⟩ : ∃ z, z = runE l0 l1 := ⟨_, rfl⟩
  obtain ⟨ny, hny⟩ : ∃ z, z = newF l0 l1 := ⟨_, rfl⟩
  rw [← hsn, ← hsy]
  have hsn4 : sn ≤ 4096 := by rw [hsn]; exact (run_facts Hwf.out).2.1
  have Hsn := Lib.hid hsn
  have Hsy := Lib.hid hsy
  have Hny := Lib.hid hny
  clear hc4 hs4 hk4 hr HR3 v0 hsn hsy
  have hal_ := (Chg.refl NoB w4).alloc (.cells #[.slice q4 k4 c4] 25)
  have hb_ := heap_alloc_new w4 (.cells #[.slice q4 k4 c4] 25)
  obtain ⟨tb, hxb_⟩ : ∃ b, b = w4.heap.size := ⟨_, rfl⟩
  obtain ⟨w5, hw_⟩ : ∃ w_, w4.alloc (.cells #[.slice q4 k4 c4] 25) = w_ := ⟨_, rfl⟩
  have hz_ : w5.heap.size = tb + 1 := by rw [← hw_, hxb_]; exact alloc_size _ _
  rw [hw_] at hal_ hb_
  rw [← hxb_] at hb_
  have Hw5 := Lib.hid hw_
  have Hx5 := Lib.hid hxb_
  have Ha5 := Lib.hid hal_
  have Hb5 := Lib.hid hb_
  have Hz5 := Lib.hid hz_
  clear hal_ hb_ hxb_ hw_ hz_
  have Hc5 := Lib.hid (Hc4.out.trans Ha5.out)
  have Hd5 := Lib.hid (Hd4.out.trans Ha5.out)
  have HN5 := Lib.hid (HN.out w5 Hc5.out)
  rw [← hny] at HN5
  have v0 := var1 (row_kept Hd5.out Hb1.out id)
  clear hny HN
  go_upto_region 6 with fail
  rw [Hw5.out, ← Hx5.out]
  go_wp2_with fail
  refine HN5.out.mono ?_
  rintro e w6 ⟨hc6, h6⟩
  clear v0
  by_cases hz : ny = 0
  case neg =>
    rw [if_neg hz] at h6
    subst h6
    have hz2 : (ny != 0) = true := by rw [bne_iff_ne]; exact hz
    have e1 : sn = 0 := by rw [Hsn.out]; unfold runN; rw [if_neg (by rw [← Hny.out]; exact hz)]
    have e2 : sy = ny := by rw [Hsy.out, Hny.out]; unfold runE; rw [if_neg (by rw [← Hny.out]; exact hz)]
    subst e1 e2
    have Hc6 := Lib.hid (Hc5.out.trans hc6)
    clear hc6 hz
    go_wp2_with fail
    go_ret
    exact ⟨rfl, Hc6.out⟩
  rw [if_pos hz] at h6
  obtain ⟨mb, mq, mc, vq, vc, jb, lb, rfl, hmb, hm6, hp6, hv6⟩ := h6
  have hnew : newF l0 l1 = 0 := by rw [← Hny.out]; exact hz
  obtain ⟨hck, hgv⟩ := newF_ok hnew
  obtain ⟨hp1, hp2, hpw⟩ := check_wfi Hwf.out hck
  have HCut := Lib.hid (fun j => run_cut Hwf.out hnew j)
  have HEnd := Lib.hid (cut_end Hwf.out hnew)
  rw [← Hsn.out] at HEnd
  have HWf := Lib.hid (fun j => cut_wf Hwf.out hnew j)
  have Hc6 := Lib.hid (Hc5.out.trans hc6)
  have Hd6 := Lib.hid hc6
  have Hmb := Lib.hid hmb
  have HStep := Lib.hid (fun (w' : World) (F : Value × Value) (j : Nat) (most : Int) (hs : MStep mb (.slice none 0 0, .slice none 0 0) F w6 w') (hm : Mach w' (mb + 1) mb (.slice mq l0.length mc) (.slice vq l1.length vc) (goF l0 l1 j mm0).s (goF l0 l1 j mm0).steps (goF l0 l1 j mm0).fault F) =>
    steps_any (m0 := goF l0 l1 j mm0) most hm (cut_wf Hwf.out hnew j) ((hp6.mono fun k hk => hk.2).keep hs.chg fun k hk e => by rcases e with e | e; exact absurd e (by omega); rcases e with e | e <;> cases e) hpw hp2 ((hv6.mono fun k hk => hk.2).keep hs.chg fun k hk e => by rcases e with e | e; exact absurd e (by omega); rcases e with e | e <;> cases e) hgv W.heap.size ((Hlb.out.keep Hc6.out).chg hs.chg fun k e => by
      rcases e with e | e
      · have := Hc5.out.size; omega
      · rcases e with e | e <;> cases e) (by have := Hc5.out.size; omega))
  have HK := Lib.hid (fun (w' : World) (F : Value × Value) (h : MStep mb (.slice none 0 0, .slice none 0 0) F w6 w') => (Hc5.out.trans hc6).transR h.chg fun k hk e => by
      rcases e with e | e
      · have := Hc5.out.size; omega
      · rcases e with e | e <;> cases e)
  have HK5 := Lib.hid (fun (w' : World) (F : Value × Value) (h : MStep mb (.slice none 0 0, .slice none 0 0) F w6 w') => hc6.transR h.chg fun k hk e => by
      rcases e with e | e
      · omega
      · rcases e with e | e <;> cases e)
  have Hm6 := Lib.hid hm6
  have HD6 := Lib.hid (done_any hm6)
  have HN6 := Lib.hid (nsteps_any hm6)
  have HR6 := Lib.hid (result_any (m := mm0) hm6 (by decide))
  have e80 : resF mm0 = ([], 80) := rfl
  rw [e80] at HR6
  have ed : mm0.s.done = false := rfl
  have es : mm0.steps = 0 := rfl
  rw [ed] at HD6
  rw [es] at HN6
  subst hz
  clear hm6 hp6 hv6 hnew hck hgv hp1 hp2 hpw hc6 hmb e80 ed es HN5
  go_wp2_with fail
  refine HD6.out.mono ?_
  rintro e w7 ⟨rfl, rfl⟩
  go_wp2_with fail
  refine HN6.out.mono ?_
  rintro e w7 ⟨rfl, rfl⟩
  go_wp2_with fail
  refine HR6.out.mono ?_
  rintro e w7 ⟨hc7, v7, rfl, -⟩
  have HS7 := Lib.hid (MStep.of_chg (mb := mb) (F := (.slice none 0 0, .slice none 0 0)) hc7)
  have HM7 := Lib.hid (Hm6.out.keep hc7)
  clear hc7 HD6 HN6 HR6 Hm6
  have HStep2 := Lib.hid (show ∀ (w' : World) (F : Value × Value) (dn : Nat) (x : Int), dn ≤ sn → MStep mb (.slice none 0 0, .slice none 0 0) F w6 w' → Mach w' (mb + 1) mb (.slice mq l0.length mc) (.slice vq l1.length vc) (goF l0 l1 dn mm0).s (goF l0 l1 dn mm0).steps (goF l0 l1 dn mm0).fault F →
      Calls Tryz.prog 22 #[.pointer (some ⟨mb, 0, none⟩), .int .i64 x] w' fun e w'' => e = .returned (.int .i64 ((min (dn + x.toNat) sn - dn : Nat) : Int)) ∧ ∃ F', MStep mb (.slice none 0 0, .slice none 0 0) F' w6 w'' ∧ Mach w'' (mb + 1) mb (.slice mq l0.length mc) (.slice vq l1.length vc) (goF l0 l1 (min (dn + x.toNat) sn) mm0).s (min (dn + x.toNat) sn) (goF l0 l1 (min (dn + x.toNat) sn) mm0).fault F' from fun w' F dn x hdn hs hm => by
    refine (HStep.out w' F dn x hs hm).mono ?_
    rintro e w'' ⟨rfl, F', hs', hm'⟩
    have h1 := HCut.out dn
    have h2 := HCut.out (dn + x.toNat)
    have e1 : (goF l0 l1 dn mm0).steps = dn := by rw [h1.steps, ← Hsn.out]; omega
    rw [cut_on, h2.same] at hm'
    rw [cut_on, h2.steps, e1]
    rw [← Hsn.out] at hm' ⊢
    have h3 := HCut.out (min (dn + x.toNat) sn)
    have e2 : (goF l0 l1 (min (dn + x.toNat) sn) mm0).steps = min (dn + x.toNat) sn := by rw [h3.steps, ← Hsn.out]; omega
    rw [e2] at hm'
    exact ⟨rfl, F', hs.trans hs', hm'⟩)
  have HDn := Lib.hid (show ∀ dn : Nat, (goF l0 l1 dn mm0).s.done = decide (sn ≤ dn) from fun dn => by rw [(HCut.out dn).done, ← Hsn.out])
  have HSt := Lib.hid (show ∀ dn : Nat, dn ≤ sn → (goF l0 l1 dn mm0).steps = dn from fun dn h => by rw [(HCut.out dn).steps, ← Hsn.out]; omega)
  clear HStep
  go_wp2_with fail
  go_loopw [12, 72] (fun d i wr => ∃ j dn : Nat, j ≤ sl ∧ i = .int .i64 j ∧ dn ≤ sn ∧ d = .int .i64 dn ∧ ∃ F, MStep mb (.slice none 0 0, .slice none 0 0) F w6 wr ∧ Mach wr (mb + 1) mb (.slice mq l0.length mc) (.slice vq l1.length vc) (goF l0 l1 dn mm0).s (goF l0 l1 dn mm0).steps (goF l0 l1 dn mm0).fault F) (fun _ i _ => sl - (intOf i).toNat)
  case atStart => exact ⟨0, 0, Nat.zero_le _, rfl, Nat.zero_le _, rfl, (.slice none 0 0, .slice none 0 0), HS7.out, HM7.out⟩
  case round =>
    obtain ⟨j, dn, hj, rfl, hdn, rfl, F, hs, hm⟩ := hrel
    have Hs := Lib.hid hs
    have Hm := Lib.hid hm
    clear hs hm
    by_cases hlt : j < sl
    · have hlt' : j < l2.length := by rw [← Hsl.out]; exact hlt
      obtain ⟨rfl, -⟩ := Hs3.out (by intro e; rw [e] at hlt'; simp at hlt')
      obtain ⟨c0, hx1, hx2⟩ := Hsat.out j hlt'
      have c0 := (HK.out wr F Hs.out).keep c0
      generalize l2[j] = x at *
      have HT := Lib.hid (HStep2.out wr F dn x hdn Hs.out Hm.out)
      obtain ⟨dm, hdm⟩ : ∃ z, z = min (dn + x.toNat) sn := ⟨_, rfl⟩
      rw [← hdm] at HT
      have Hdm := Lib.hid (show dn ≤ dm ∧ dm ≤ sn by omega)
      obtain ⟨wt, hwt⟩ : ∃ z : Int, z = ((dm - dn : Nat) : Int) := ⟨_, rfl⟩
      rw [← hwt] at HT
      have hw2 : min (max x 0) ((sn : Int) - dn) = wt := by omega
      have hadd : (dn : Int) + wt = (dm : Int) := by omega
      obtain ⟨b, hb⟩ : ∃ z, z = decide (sn ≤ dm) := ⟨_, rfl⟩
      have hdd : ((dm : Int) == (sn : Int)) = b := by
        rw [hb]
        by_cases h : sn ≤ dm
        · rw [decide_eq_true h, beq_iff_eq]; omega
        · rw [decide_eq_false h, beq_eq_false_iff_ne]; omega
      have hdm4 : dm ≤ 4096 := by have := Hdm.out; omega
      have Hwt := Lib.hid hwt
      have Hdm2 := Lib.hid hdm
      have Hb := Lib.hid hb
      clear hwt hdm hb hlt'
      go_wp2_with fail
      refine HT.out.mono ?_
      rintro e w8 ⟨rfl, F8, hs8, hm8⟩
      have Hs8 := Lib.hid hs8
      have Hm8 := Lib.hid hm8
      have HNs := Lib.hid (nsteps_any hm8)
      have HDs := Lib.hid (done_any hm8)
      rw [HDn.out, ← Hb.out] at HDs
      clear hs8 hm8 HT c0 hw2
      go_upto_region 22 with fail
      clear hadd
      go_wp2_with fail
      refine HNs.out.mono ?_
      rintro e w9 ⟨rfl, rfl⟩
      have Hdd := Lib.hid hdd
      clear hdd
      go_wp2_with fail
      refine HDs.out.mono ?_
      rintro e w9 ⟨rfl, rfl⟩
      have hdd := Hdd.out
      clear HNs HDs
      go_wp2_with fail
      go_roundw
      case rel => exact ⟨j + 1, dm, by omega, by go_num, Hdm.out.2, rfl, F8, Hs8.out, by rw [HSt.out dm Hdm.out.2]; exact Hm8.out⟩
      case measure => simp [intOf]; omega
    · obtain rfl : j = sl := by omega
      clear hlt hj
      obtain ⟨w8, rfl⟩ : ∃ z, z = wr := ⟨_, rfl⟩
      have h5 : min (dn + (5000 : Int).toNat) sn = sn := by have : (5000 : Int).toNat = 5000 := rfl; omega
      have HT := Lib.hid (HStep2.out w8 F dn 5000 hdn Hs.out Hm.out)
      rw [h5] at HT
      obtain ⟨wt, hwt⟩ : ∃ z : Int, z = ((sn - dn : Nat) : Int) := ⟨_, rfl⟩
      rw [← hwt] at HT
      have hw2 : (sn : Int) - dn = wt := by omega
      clear h5 hwt
      go_wp2_with fail
      refine HT.out.mono ?_
      rintro e w9 ⟨rfl, F9, hs9, hm9⟩
      have Hs9 := Lib.hid hs9
      have Hm9 := Lib.hid (show Mach w9 (mb + 1) mb (.slice mq l0.length mc) (.slice vq l1.length vc) (goF l0 l1 sn mm0).s (goF l0 l1 sn mm0).steps (goF l0 l1 sn mm0).fault F9 by rw [HSt.out sn (Nat.le_refl _)]; exact hm9)
      have HDs := Lib.hid (done_any Hm9.out)
      have HNs := Lib.hid (nsteps_any Hm9.out)
      rw [HDn.out, decide_eq_true (Nat.le_refl _)] at HDs
      rw [HSt.out sn (Nat.le_refl _)] at HNs
      have HT3 := Lib.hid (HStep2.out w9 F9 sn 3 (Nat.le_refl _) Hs9.out Hm9.out)
      have h3 : min (sn + (3 : Int).toNat) sn = sn := by omega
      rw [h3, Nat.sub_self] at HT3
      clear hs9 hm9 HT h3
      go_wp2_with fail
      refine HDs.out.mono ?_
      rintro e w10 ⟨rfl, rfl⟩
      go_wp2_with fail
      refine HNs.out.mono ?_
      rintro e w10 ⟨rfl, rfl⟩
      go_wp2_with fail
      refine HT3.out.mono ?_
      rintro e w10 ⟨rfl, F10, hs10, hm10⟩
      have hm11 : Mach w10 (mb + 1) mb (.slice mq l0.length mc) (.slice vq l1.length vc) (runM l0 l1).s (runM l0 l1).steps (runM l0 l1).fault F10 := by
        rw [HEnd.out.1] at hm10
        rw [HEnd.out.2.2.2]
        exact hm10
      have Hs10 := Lib.hid hs10
      have HR := Lib.hid (result_any (m := runM l0 l1) hm11 (by have h := HWf.out sn; rw [HEnd.out.1] at h; have := (good_sizes h.s.out).1; omega))
      rw [HEnd.out.2.1, ← Hsy.out] at HR
      obtain ⟨d, hd⟩ : ∃ z, z = runL l0 l1 := ⟨_, rfl⟩
      have hgd : goodF d = true := by rw [hd]; exact (run_facts Hwf.out).1
      rw [← hd] at HR Hs4 Hk4
      have Hgd := Lib.hid hgd
      clear hs10 hm10 hm11 HDs HNs HT3 hd hgd hw2
      go_wp2_with fail
      refine HR.out.mono ?_
      rintro e w11 ⟨hc11, v11, rfl, hr11⟩
      obtain ⟨q11, c11, rfl, -, -⟩ := row_shape hr11
      obtain ⟨ib, hib⟩ := InpS.of_row hr11
      have Hib := Lib.hid hib
      have Hc11 := Lib.hid hc11
      obtain ⟨n11, hn11⟩ : ∃ z, z = d.length := ⟨_, rfl⟩
      rw [← hn11] at Hib ⊢
      clear hc11 hr11 hib HR hn11
      have hal_ := (Chg.refl NoB w11).alloc (.cells #[.slice q11 n11 c11] 25)
      have hb_ := heap_alloc_new w11 (.cells #[.slice q11 n11 c11] 25)
      obtain ⟨ub, hxb_⟩ : ∃ b, b = w11.heap.size := ⟨_, rfl⟩
      obtain ⟨w12, hw_⟩ : ∃ w_, w11.alloc (.cells #[.slice q11 n11 c11] 25) = w_ := ⟨_, rfl⟩
      have hz_ : w12.heap.size = ub + 1 := by rw [← hw_, hxb_]; exact alloc_size _ _
      rw [hw_] at hal_ hb_
      rw [← hxb_] at hb_
      have Hw12 := Lib.hid hw_
      have Hx12 := Lib.hid hxb_
      have Ha12 := Lib.hid hal_
      have Hb12 := Lib.hid hb_
      have Hz12 := Lib.hid hz_
      clear hal_ hb_ hxb_ hw_ hz_
      have HRn := Lib.hid (resultn_any w12)
      go_upto_region 29 with fail
      rw [Hw12.out, ← Hx12.out]
      go_wp2_with fail
      refine HRn.out.mono ?_
      rintro e w13 ⟨hc13, v13, rfl, hr13⟩
      obtain ⟨q13, c13, rfl, -, -⟩ := row_shape hr13
      have Hc13 := Lib.hid hc13
      clear hc13 hr13 HRn
      have hal_ := (Chg.refl NoB w13).alloc (.cells #[.slice q13 0 c13] 25)
      have hb_ := heap_alloc_new w13 (.cells #[.slice q13 0 c13] 25)
      obtain ⟨zb, hxb_⟩ : ∃ b, b = w13.heap.size := ⟨_, rfl⟩
      obtain ⟨w14, hw_⟩ : ∃ w_, w13.alloc (.cells #[.slice q13 0 c13] 25) = w_ := ⟨_, rfl⟩
      have hz_ : w14.heap.size = zb + 1 := by rw [← hw_, hxb_]; exact alloc_size _ _
      rw [hw_] at hal_ hb_
      rw [← hxb_] at hb_
      have Hw14 := Lib.hid hw_
      have Hx14 := Lib.hid hxb_
      have Ha14 := Lib.hid hal_
      have Hb14 := Lib.hid hb_
      have Hz14 := Lib.hid hz_
      clear hal_ hb_ hxb_ hw_ hz_
      have Hk11 := Lib.hid (Hc11.out.trans (Ha12.out.trans (Hc13.out.trans Ha14.out)))
      have t0 := var1 (row_kept Hk11.out (row_kept (HK5.out w10 F10 Hs10.out) Hb5.out id) id)
      have u0 := var1 (row_kept (Hc13.out.trans Ha14.out) Hb12.out id)
      have hgz := good_sizes Hgd.out
      have HS := Lib.hid (rsame_any d d _ _ _ _ _ _ _ _ w14 (by omega) (by omega) (Hs4.out.keep (Ha5.out.trans ((HK5.out w10 F10 Hs10.out).trans Hk11.out)) fun _ _ => id) (Hib.out.keep (Ha12.out.trans (Hc13.out.trans Ha14.out)) fun _ _ => id))
      rw [decide_eq_true rfl] at HS
      have Hc14 := Lib.hid ((HK.out w10 F10 Hs10.out).trans Hk11.out)
      clear hgz
      go_upto_region 30 with fail
      rw [Hw14.out, ← Hx14.out]
      go_wp2_with fail
      refine HS.out.mono ?_
      rintro e w15 ⟨rfl, hc15⟩
      have Hc15 := Lib.hid (Hc14.out.trans hc15)
      clear hc15 t0 u0 HS
      go_wp2_with fail
      refine (stepn_any 1 w15).mono ?_
      rintro e w16 ⟨rfl, rfl⟩
      go_wp2_with fail
      refine (donen_any w15).mono ?_
      rintro e w16 ⟨rfl, rfl⟩
      go_wp2_with fail
      refine (nstepsn_any w15).mono ?_
      rintro e w16 ⟨rfl, rfl⟩
      go_wp2_with fail
      go_ret
      exact ⟨rfl, Hc15.out⟩
/-FRAME-/
set_option maxRecDepth 100000 in
theorem vmSlices_lifted (os : Os) (started : os.Started) (H : Type) (enc : TypeId × Value → H) :
    ReturnsInHanded {} Tryz.checked os 4 .any (fun w args => (Rows.vmSlicesSpec.pre enc Tryz.prog Tryz.f4 [] false w args ∧ laidMetH Tryz.prog Rows.vmSlicesRow.laid w) ∧ sizedMet enc Tryz.prog Tryz.f4 (OpenSpec.ofChange Rows.vmSlicesSpec) false w args)
      (Rows.vmSlicesSpec.post enc Tryz.prog Tryz.f4 false true false false) := by
  refine returns_both (C := Tryz.checked) (X := fun w _ => laidMetH Tryz.prog Rows.vmSlicesRow.laid w) (fun _ _ _ hh h => h.of_heap hh) Tryz.own started (by kernel_rfl) Tryz.func4
    (ChangeSpec.witness_shaped (enc := enc) (C := Tryz.checked) (os := os) (X := fun w _ => laidMetH Tryz.prog Rows.vmSlicesRow.laid w) false (World.laidAll Tryz.prog os Rows.vmSlicesRow.laid) #[.slice none 0 0, .agg #[.slice none 0 0], .slice none 0 0] 8 (World.laidAll_os _ _ _)
      (World.shaped_of_ZipB (by kernel_rfl) (by kernel_rfl)) (by kernel_rfl) (by kernel_rfl) (by kernel_rfl)
      (by rw [MakeChecks.laidMetH_plain _ _ _ (by kernel_rfl)]; exact laidMet_laidAll _ (by kernel_rfl) (by kernel_rfl))) ?_
  intro W base args ds gs before hval0 hW _ hsz hL hsh _
  have hval : ∀ (j : Nat) t v, Tryz.f4.params[j]? = some t → args[j]? = some v → Value.okWide Tryz.prog W .any base t v := hval0
  have hW' := hW
  obtain ⟨p, q, hA0, hV, rfl, _, _⟩ := hW
  have hA : DataW.TrodAll enc Tryz.prog W 0 (fun _ => true) true Tryz.f4.params.toList args.toList ds p := hA0
  have hsz1 : (DataW.weightsEach Tryz.prog (Tryz.f4.params.toList ++ Rows.vmSlicesSpec.plain.varTypes Tryz.prog) (ds ++ gs)).all (· ≤ reachBytes) = true := hsz
  rw [Tryz.params4] at hA hval hsz1
  obtain ⟨v0, v1, v2, d0, d1, d2, p0, p1, p2, rfl, rfl, rfl, h0, h1, h2⟩ := trodAll_three hA
  obtain ⟨rfl, rfl⟩ := trodVars_none hV
  obtain ⟨l0, kb0, ko0, hn0⟩ := open_inss (hval 0 22 v0 rfl rfl) h0 (fun m hm => of_decide_eq_true (List.all_eq_true.1 hsz1 m (DataW.weights_mem_each (j := 0) (t := 22) (d := d0) rfl rfl m hm)))
  obtain ⟨l1, c1, kb1, ko1, rfl, hn1, hr1⟩ := open_tree (hval 1 25 v1 rfl rfl) h1 (fun m hm => of_decide_eq_true (List.all_eq_true.1 hsz1 m (DataW.weights_mem_each (j := 1) (t := 25) (d := d1) rfl rfl m hm)))
  obtain ⟨l2, kb2, ko2, hn2⟩ := open_ints (hval 2 32 v2 rfl rfl) h2 (fun m hm => of_decide_eq_true (List.all_eq_true.1 hsz1 m (DataW.weights_mem_each (j := 2) (t := 32) (d := d2) rfl rfl m hm)))
  simp only [List.append_nil] at hW'
  rw [MakeChecks.laidMetH_plain _ _ _ (by kernel_rfl)] at hL
  have hml : Pth.Ml W := wml_of hsh
  obtain ⟨hlb, hwd⟩ := lb8_of hL hsh
  clear hA0 hval0
  refine (vmSlices_all l0 _ kb0 ko0 l1 _ kb1 ko1 l2 _ kb2 ko2 W hn0 hn1 hr1 hn2 hml hlb hwd).mono fun e W' ⟨he, hb⟩ => ?_
  subst he
  exact ⟨_, rfl, _, _, _, [], _, [], hW', trodAll_mk1 (shut_bool Tryz.underlying4 _), (trodAll_cons_mk (inss_stay h0 hb.below) (trodAll_cons_mk (tree_stays h1 hb.below) (trodAll_cons_mk (ints_stay h2 hb.below) trodAll_mk0))), rfl, hb.below.frame _, fun h => by cases h⟩
theorem vmSlices_holds : Rows.VmSlicesSaid :=
  OpenClaim.holds_of_wide 4 Tryz.f4 rfl rfl rfl rfl rfl rfl rfl ⟨rfl, rfl, rfl, rfl, rfl⟩ rfl rfl rfl rfl rfl (by kernel_rfl) Tryz.func4 (by kernel_rfl)
    (of_decide_eq_true (by kernel_rfl)) (by unfold Func.isWrapper; first | (rw [if_pos (by decide +kernel)]; kernel_rfl) | (rw [if_neg (by decide +kernel)]; exact ⟨rfl, rfl⟩))
    (fun os started H enc _ => vmSlices_lifted os started H enc)
theorem vmSlices_card : Rows.VmSlicesCardSaid :=
  Claim7.holds_tied_plain_at .later [] [.data, .data, .data, .data, .sentinel, .sentinel, .widerDeep, .pinned] true (true, "ec86cb7f90a952613a297ea1a1848055ebca9cdb2e48697e77ccb43f8b788bff") true vmSlices_holds (fun _ h => by cases h) (by kernel_rfl) (fun _ h => by cases h) vmSlices_row_tie rfl ⟨rfl, rfl⟩ (by kernel_rfl) rfl
    (fun f fn hf hfn => by
      obtain rfl : f = 4 := Option.some.inj ((show Tryz.prog.funcNamed "sapling/saplinglaw10.VmSlices" = some 4 by kernel_rfl).symm.trans hf) |>.symm
      obtain rfl : fn = Tryz.f4 := (Option.some.inj (Tryz.func4.symm.trans hfn)).symm
      exact ⟨by kernel_rfl, fun j t ht => by
        rw [Tryz.params4] at ht
        have hm : t ∈ [22, 25, 32] := by simpa using Array.mem_of_getElem? ht
        have hall : ([22, 25, 32].all fun u => !Tryz.prog.wantsStandIn u) = true := by kernel_rfl
        exact (show Tryz.prog.wantsStandIn t = false by simpa using List.all_eq_true.1 hall t hm)⟩)
    (by kernel_rfl)
#print axioms vmSlices_card
end Go.Proofs.YthehpmffkkogpaaGreatDoor
