/- The contract of view.Build. Condition: at most 2^20 mounts, texts of at most 2^18 bytes; the library's own variable holds some number. -/
import Derived.Test.YtnbdjficoficcaaDoorVwMem
import Derived.Test.YtnbdjficoficcaaDoorTrKit
namespace Go.Proofs.YtnbdjficoficcaaDoor
set_option linter.unusedVariables false
open Go.ChangeShapes Go.WideShapes Go.ChangeAt Go.RowKit
set_option maxHeartbeats 8000000 in
set_option maxRecDepth 20000 in
theorem vbuild_any (l : List MntL) (hl : l.length ≤ 1048576) (hw : ∀ m ∈ l, m.1.length ≤ 262144 ∧ m.2.length ≤ 1048576 ∧ ∀ x ∈ m.2, x.1.length ≤ 1048576 ∧ x.2.length ≤ 1048576)
    (S : Nat → Prop) (v : Value) (kb ko : Nat) (w : World) (hm : Pth.Ml w) (hs : MntS w S v l kb ko) :
    Calls Tryd.prog 10 #[v] w (OutP (outL (buildF l)) (outE (buildF l)) w) := by
  have Hs := Lib.hid hs
  obtain ⟨⟨q, c, rfl, h1, h2, h3⟩, hat⟩ := hs
  have Hat := Lib.hid hat
  have H3 := Lib.hid h3
  unfold maxLen at h2
  have Hm := Lib.hid hm
  have Hl := Lib.hid hl
  have Hw := Lib.hid hw
  obtain ⟨n, hn⟩ : ∃ n, n = l.length := ⟨_, rfl⟩
  rw [← hn] at Hs h1 hl ⊢
  have Hn := Lib.hid hn
  obtain ⟨R, hR⟩ : ∃ R, R = outL (buildF l) := ⟨_, rfl⟩
  obtain ⟨Y, hY⟩ : ∃ Y, Y = outE (buildF l) := ⟨_, rfl⟩
  rw [← hR, ← hY]
  have HR := Lib.hid hR
  have HY := Lib.hid hY
  have hal_ := (Chg.refl NoB w).alloc (.cells #[.slice none 0 0] 27)
  have hb_ := heap_alloc_new w (.cells #[.slice none 0 0] 27)
  obtain ⟨rb, hxb_⟩ : ∃ b, b = w.heap.size := ⟨_, rfl⟩
  obtain ⟨w1, hw_⟩ : ∃ w_, w.alloc (.cells #[.slice none 0 0] 27) = w_ := ⟨_, rfl⟩
  have hz_ : w1.heap.size = rb + 1 := by rw [← hw_, hxb_]; exact alloc_size _ _
  rw [hw_] at hal_ hb_
  rw [← hxb_] at hb_
  have Hw1 := Lib.hid hw_
  have Hx1 := Lib.hid hxb_
  have Ha1 := Lib.hid hal_
  have Hb1 := Lib.hid hb_
  have Hz1 := Lib.hid hz_
  clear hal_ hb_ hxb_ hw_ hz_
  have Hwr := Lib.hid (show w.heap.size ≤ rb by rw [Hx1.out]; exact Nat.le_refl _)
  clear hm hw hn hR hY h3 hat
  go_enter Tryd.func10, Tryd.ntmps10
  go_upto_region 1 with fail
  rw [Hw1.out, ← Hx1.out]
  go_wp2_with fail
  go_loopw [14] (fun i wr => ∃ k : Nat, k ≤ n ∧ i = .int .i64 k ∧ chkF [] (l.take k) = none ∧ wr.heap[rb]? = some (.cells #[.slice none 0 0] 27 (0, 0)) ∧ Chg NoB w wr) (fun i _ => n - (intOf i).toNat)
  case atStart => exact ⟨0, Nat.zero_le _, rfl, by rw [List.take_zero]; rfl, Hb1.out, Ha1.out⟩
  case round =>
    obtain ⟨k, hk, rfl, hck, hrr, hcw⟩ := hrel
    have Hck := Lib.hid hck
    have Hrr := Lib.hid hrr
    have Hcw := Lib.hid hcw
    clear hck hrr hcw
    by_cases hlt : k < n
    · have hlt' : k < l.length := by rw [← Hn.out]; exact hlt
      obtain ⟨rfl, -⟩ := H3.out (by intro e; rw [e] at hlt'; simp at hlt')
      obtain ⟨hc0, q', n', c', jb, jo, -, hc1, -⟩ := Hat.out k hlt'
      have c0 := Hcw.out.keep hc0
      have c1 := Hcw.out.keep hc1
      have Hxm := Lib.hid (List.getElem_mem hlt')
      have Hca := Lib.hid (chk_at hlt' Hck.out)
      have Hcn := Lib.hid (chk_next hlt' Hck.out)
      obtain ⟨rs, hrm, hrl, hrc⟩ := Hs.out.rows
      have Hnm := Lib.hid (near_map l[k] rs l k hrm)
      have Hrc := Lib.hid hrc
      have Hrm := Lib.hid hrm
      have Hrl := Lib.hid hrl
      generalize l[k] = x at *
      obtain ⟨x1, x2⟩ := x
      simp only at c0
      have hx1 : x1.length ≤ 262144 := (Hw.out _ Hxm.out).1
      clear hc0 hc1 hrc hrm hrl
      have HG := Lib.hid (fun w' (h : Chg NoB w w') => tpgood_any x1 w' (by omega) (ml_keep Hm.out h))
      obtain ⟨gd, hgd⟩ : ∃ g, g = Pth.goodL x1 := ⟨_, rfl⟩
      rw [← hgd] at HG
      have Hgd := Lib.hid hgd
      have Hx := Lib.hid hx1
      clear hgd hlt' hx1
      have hal_ := (Chg.refl NoB wr).alloc (.cells #[.string (tx x1), .slice q' n' c'] 35)
      have hb_ := heap_alloc_new wr (.cells #[.string (tx x1), .slice q' n' c'] 35)
      obtain ⟨fb, hxb_⟩ : ∃ b, b = wr.heap.size := ⟨_, rfl⟩
      obtain ⟨w3, hw_⟩ : ∃ w_, wr.alloc (.cells #[.string (tx x1), .slice q' n' c'] 35) = w_ := ⟨_, rfl⟩
      have hz_ : w3.heap.size = fb + 1 := by rw [← hw_, hxb_]; exact alloc_size _ _
      rw [hw_] at hal_ hb_
      rw [← hxb_] at hb_
      have Hw3 := Lib.hid hw_
      have Hx3 := Lib.hid hxb_
      have Ha3 := Lib.hid hal_
      have Hb3 := Lib.hid hb_
      have Hz3 := Lib.hid hz_
      clear hal_ hb_ hxb_ hw_ hz_
      go_upto_region 4 with fail
      rw [Hw3.out, ← Hx3.out]
      clear c0 c1
      have f0 := (var2 Hb3.out).1
      have Hc3 := Lib.hid (Hcw.out.trans Ha3.out)
      go_wp2_with fail
      refine (HG.out _ Hc3.out).mono ?_
      rintro e w4 ⟨rfl, hc4⟩
      have Hc4 := Lib.hid (Hc3.out.trans hc4)
      have Hr4 := Lib.hid (row_kept (Ha3.out.trans hc4) Hrr.out id)
      have Hf4 := Lib.hid (row_kept hc4 Hb3.out id)
      clear hc4 f0
      cases gd with
      | false =>
        have Hres : Hid (buildF l = .error 10) := Lib.hid (build_chk (by rw [Hca.out, if_neg (by show ¬ Pth.goodL x1 = true; rw [← Hgd.out]; decide)]))
        have r0 := var1 Hr4.out
        have rf := row_free Hr4.out
        go_wp2_with fail
        have e0 := var1 (heap_set Hr4.out (i := 0) (.slice none 0 0))
        have hfin := Hc4.out.setCell (p := ⟨rb, 0, none⟩) (.inr Hwr.out) (.slice none 0 0)
        generalize w4.setCell ⟨rb, 0, none⟩ (.slice none 0 0) = wf at *
        refine bodyPost_ret (v := .tuple #[.agg #[.slice none 0 0], .int .i64 10]) (by simp [results, Tryd.results10, go_sem, e0]) rfl ?_
        rw [HR.out, HY.out, Hres.out]
        exact OutP.err hfin
      | true =>
      have hrw : ∀ y ∈ rs, y.1.length ≤ 262144 := fun y hy => by
        have h : y.1 ∈ l.map (·.1) := by rw [← Hrm.out]; exact List.mem_map_of_mem hy
        obtain ⟨m, hm, he⟩ := List.mem_map.1 h
        rw [← he]
        exact (Hw.out m hm).1
      have hkb : kb < w.heap.size := by
        have h0 : 0 < rs.length := by rw [Hrl.out, ← Hn.out]; omega
        exact World.block_lt_of_cell? w _ (Hrc.out 0 h0).1
      have HA := Lib.hid (aheadM_any (x1, x2) rs k c kb ko fb w4 (ml_keep Hm.out Hc4.out) Hx.out hrw (by rw [Hrl.out, ← Hn.out]; omega) (by rw [Hrl.out]; exact Hl.out) (Nat.lt_of_lt_of_le hkb Hc4.out.size)
        (fun i hi => ⟨Hc4.out.keep (Hrc.out i hi).1, Hc4.out.keep (Hrc.out i hi).2⟩) (var2 Hf4.out).1)
      rw [Hnm.out] at HA
      obtain ⟨nr, hnr⟩ : ∃ g, g = (l.take k).any (nearM (x1, x2)) := ⟨_, rfl⟩
      rw [← hnr] at HA
      have Hnr := Lib.hid hnr
      have hkc : (k : Int) ≤ (c : Int) := by omega
      clear hnr hrw hkb
      go_wp2_with fail
      refine HA.out.mono ?_
      rintro e w5 ⟨rfl, hc5⟩
      have Hc5 := Lib.hid (Hc4.out.trans hc5)
      have Hr5 := Lib.hid (row_kept hc5 Hr4.out id)
      clear hc5 hkc
      cases nr with
      | true =>
        have Hres : Hid (buildF l = .error 12) := Lib.hid (build_chk (by rw [Hca.out, if_pos (by show Pth.goodL x1 = true; rw [← Hgd.out]), if_pos Hnr.out.symm]))
        have r0 := var1 Hr5.out
        have rf := row_free Hr5.out
        go_wp2_with fail
        have e0 := var1 (heap_set Hr5.out (i := 0) (.slice none 0 0))
        have hfin := Hc5.out.setCell (p := ⟨rb, 0, none⟩) (.inr Hwr.out) (.slice none 0 0)
        generalize w5.setCell ⟨rb, 0, none⟩ (.slice none 0 0) = wf at *
        refine bodyPost_ret (v := .tuple #[.agg #[.slice none 0 0], .int .i64 12]) (by simp [results, Tryd.results10, go_sem, e0]) rfl ?_
        rw [HR.out, HY.out, Hres.out]
        exact OutP.err hfin
      | false =>
      go_wp2_with fail
      go_roundw
      case rel => exact ⟨k + 1, by omega, by go_num, Hcn.out Hgd.out.symm Hnr.out.symm, Hr5.out, Hc5.out⟩
      case measure => simp [intOf]; omega
    · obtain rfl : k = n := by omega
      have hck : chkF [] l = none := by have h := Hck.out; rwa [Hn.out, List.take_of_length_le (Nat.le_refl _)] at h
      have HB := Lib.hid (build_mnt hck)
      clear hck hlt
      obtain ⟨w0, rfl⟩ : ∃ w0, w0 = wr := ⟨_, rfl⟩
      have hrl := lt_of_block Hrr.out
      have hal_ := (Chg.refl NoB w0).alloc (.cells #[.slice none 0 0] 27)
      have hb_ := heap_alloc_new w0 (.cells #[.slice none 0 0] 27)
      obtain ⟨ab, hxb_⟩ : ∃ b, b = w0.heap.size := ⟨_, rfl⟩
      obtain ⟨w6, hw_⟩ : ∃ w_, w0.alloc (.cells #[.slice none 0 0] 27) = w_ := ⟨_, rfl⟩
      have hz_ : w6.heap.size = ab + 1 := by rw [← hw_, hxb_]; exact alloc_size _ _
      rw [hw_] at hal_ hb_
      rw [← hxb_] at hb_
      have Hw6 := Lib.hid hw_
      have Hx6 := Lib.hid hxb_
      have Ha6 := Lib.hid hal_
      have Hb6 := Lib.hid hb_
      have Hz6 := Lib.hid hz_
      clear hal_ hb_ hxb_ hw_ hz_
      have Hr6 := Lib.hid (row_kept Ha6.out Hrr.out id)
      have Hc6 := Lib.hid (Hcw.out.trans Ha6.out)
      have Hord := Lib.hid (show w.heap.size ≤ rb ∧ rb < ab ∧ w.heap.size ≤ ab by have := Hwr.out; have := Hx6.out; omega)
      clear hrl
      go_upto_region 11 with fail
      rw [Hw6.out, ← Hx6.out]
      go_wp2_with fail
      go_loopw [34] (fun i wr => ∃ (j : Nat) (t : List FileL) (tq : Option Addr) (tn tc tb tz : Nat), j ≤ k ∧ i = .int .i64 j ∧ mntsF [] (l.take j) = .ok t ∧ (t.length ≤ 1048576 ∧ ∀ x ∈ t, x.1.length ≤ 1048576 ∧ x.2.length ≤ 1048576) ∧ tn = t.length ∧ InpS wr (fun y => w.heap.size ≤ y ∧ y ≠ ab ∧ y ≠ rb ∧ y < wr.heap.size) (.slice tq tn tc) t tb tz ∧ wr.heap[ab]? = some (.cells #[.slice tq tn tc] 27 (0, 0)) ∧ wr.heap[rb]? = some (.cells #[.slice none 0 0] 27 (0, 0)) ∧ Chg NoB w wr) (fun i _ => k - (intOf i).toNat)
      case atStart => exact ⟨0, [], none, 0, 0, 0, 0, Nat.zero_le _, rfl, by rw [List.take_zero]; rfl, ⟨Nat.zero_le _, fun x hx => nomatch hx⟩, rfl, InpS.nil _ _, Hb6.out, Hr6.out, Hc6.out⟩
      case round =>
        obtain ⟨j, t, tq, tn, tc, tb, tz, hj, rfl, hmt, ⟨htl, htw⟩, htn, hts, hab, hrr, hcw⟩ := hrel
        have Hmt := Lib.hid hmt
        have Htl := Lib.hid htl
        have Htw := Lib.hid htw
        have Htn := Lib.hid htn
        have Hts := Lib.hid hts
        have Hab := Lib.hid hab
        have Hrr := Lib.hid hrr
        have Hcr := Lib.hid hcw
        clear hmt htl htw htn hts hab hrr hcw
        by_cases hlt : j < k
        · have hlt' : j < l.length := by rw [← Hn.out]; exact hlt
          obtain ⟨rfl, -⟩ := H3.out (by intro e; rw [e] at hlt'; simp at hlt')
          obtain ⟨hc0, q', n', c', jb, jo, hn', hc1, hsx⟩ := Hat.out j hlt'
          have c0 := Hcr.out.keep hc0
          have c1 := Hcr.out.keep hc1
          have Hxm := Lib.hid (List.getElem_mem hlt')
          have Hma := Lib.hid (fun y => mnts_at (y := y) hlt' Hmt.out)
          have Hmn := Lib.hid (fun u => mnts_next (u := u) hlt' Hmt.out)
          have Hsx := Lib.hid hsx
          generalize l[j] = x at *
          obtain ⟨x1, x2⟩ := x
          simp only at c0
          have hx := Hw.out _ Hxm.out
          change x1.length ≤ _ ∧ x2.length ≤ _ ∧ _ at hx
          clear hc0 hc1 hsx hlt'
          have hrl := lt_of_block Hab.out
          have hrl2 := lt_of_block Hrr.out
          have HM := Lib.hid (fun w' (h : Chg NoB wr w') => (tmount_any t x2 x1 Htl.out Htw.out hx.2.1 hx.2.2 hx.1 _ _ _ _ _ _ _ _ w' (ml_keep Hm.out (Hcr.out.trans h)) (Hts.out.keep h fun _ _ => id) (Hsx.out.keep (Hcr.out.trans h) fun _ _ => id)))
          have Hmg := Lib.hid (fun u (h : mountF t x1 x2 = .ok u) => good_sizes (mount_good h))
          have Hme := Lib.hid (fun y (h : mountF t x1 x2 = .error y) => mount_err h)
          change Hid (∀ y, mountF t x1 x2 = .error y → _) at Hma
          change Hid (∀ u, mountF t x1 x2 = .ok u → _) at Hmn
          clear hx hn'
          have hal_ := (Chg.refl NoB wr).alloc (.cells #[.string (tx x1), .slice q' n' c'] 35)
          have hb_ := heap_alloc_new wr (.cells #[.string (tx x1), .slice q' n' c'] 35)
          obtain ⟨fb, hxb_⟩ : ∃ b, b = wr.heap.size := ⟨_, rfl⟩
          obtain ⟨w7, hw_⟩ : ∃ w_, wr.alloc (.cells #[.string (tx x1), .slice q' n' c'] 35) = w_ := ⟨_, rfl⟩
          have hz_ : w7.heap.size = fb + 1 := by rw [← hw_, hxb_]; exact alloc_size _ _
          rw [hw_] at hal_ hb_
          rw [← hxb_] at hb_
          have Hw7 := Lib.hid hw_
          have Hx7 := Lib.hid hxb_
          have Ha7 := Lib.hid hal_
          have Hb7 := Lib.hid hb_
          have Hz7 := Lib.hid hz_
          clear hal_ hb_ hxb_ hw_ hz_
          have Hlt7 := Lib.hid (show rb < fb ∧ ab < fb by rw [Hx7.out]; exact ⟨hrl2, hrl⟩)
          have Ht7 := Lib.hid (row_kept Ha7.out Hab.out id)
          have Hr7 := Lib.hid (row_kept Ha7.out Hrr.out id)
          have Hc7 := Lib.hid (Hcr.out.trans Ha7.out)
          clear hrl hrl2
          go_upto_region 14 with fail
          rw [Hw7.out, ← Hx7.out]
          clear c0 c1
          have f0 := var2 Hb7.out
          have t0 := var1 Ht7.out
          obtain ⟨f0, f1⟩ := f0
          obtain ⟨r, hr⟩ : ∃ r, r = mountF t x1 x2 := ⟨_, rfl⟩
          rw [← hr] at HM Hmg Hme Hma Hmn
          clear hr
          have HM7 := Lib.hid (HM.out w7 Ha7.out)
          clear HM
          cases r with
          | error y =>
            have hy : (y == 0) = false := by rw [beq_eq_false_iff_ne]; exact Hme.out y rfl
            have hy2 : (y != 0) = true := by simp [bne, hy]
            have Hres : Hid (buildF l = .error y) := Lib.hid (by rw [HB.out]; exact Hma.out y rfl)
            go_wp2_with fail
            refine HM7.out.mono ?_
            rintro e w8 ⟨hc8, rfl⟩
            have Hc8 := Lib.hid (Hc7.out.trans hc8)
            have Hr8 := Lib.hid (row_kept hc8 Hr7.out id)
            clear hc8 f0 f1 t0
            have hal_ := (Chg.refl NoB w8).alloc (.cells #[.slice none 0 0] 27)
            have hb_ := heap_alloc_new w8 (.cells #[.slice none 0 0] 27)
            obtain ⟨gb, hxb_⟩ : ∃ b, b = w8.heap.size := ⟨_, rfl⟩
            obtain ⟨w9, hw_⟩ : ∃ w_, w8.alloc (.cells #[.slice none 0 0] 27) = w_ := ⟨_, rfl⟩
            have hz_ : w9.heap.size = gb + 1 := by rw [← hw_, hxb_]; exact alloc_size _ _
            rw [hw_] at hal_ hb_
            rw [← hxb_] at hb_
            have Hw9 := Lib.hid hw_
            have Hx9 := Lib.hid hxb_
            have Ha9 := Lib.hid hal_
            have Hb9 := Lib.hid hb_
            have Hz9 := Lib.hid hz_
            clear hal_ hb_ hxb_ hw_ hz_
            have Hc9 := Lib.hid (Hc8.out.trans Ha9.out)
            have Hr9 := Lib.hid (row_kept Ha9.out Hr8.out id)
            have g0 := var1 Hb9.out
            go_upto_region 15 with fail
            rw [Hw9.out, ← Hx9.out]
            have r0 := var1 Hr9.out
            have rf := row_free Hr9.out
            go_wp2_with fail
            have e0 := var1 (heap_set Hr9.out (i := 0) (.slice none 0 0))
            have hfin := Hc9.out.setCell (p := ⟨rb, 0, none⟩) (.inr Hwr.out) (.slice none 0 0)
            generalize w9.setCell ⟨rb, 0, none⟩ (.slice none 0 0) = wf at *
            refine bodyPost_ret (v := .tuple #[.agg #[.slice none 0 0], .int .i64 y]) (by simp [results, Tryd.results10, go_sem, e0]) rfl ?_
            rw [HR.out, HY.out, Hres.out]
            exact OutP.err hfin
          | ok u =>
            go_wp2_with fail
            refine HM7.out.mono ?_
            intro e w8 hp8
            obtain ⟨hc8, uq, un, uc, ub, uz, hun, rfl, hus⟩ := hp8.out
            change un = u.length at hun
            change InpS w8 _ _ u _ _ at hus
            have Hun := Lib.hid hun
            have Hc8 := Lib.hid (Hc7.out.trans hc8)
            have Hr8 := Lib.hid (row_kept hc8 Hr7.out id)
            have Ht8 := Lib.hid (row_kept hc8 Ht7.out id)
            have Hus := Lib.hid (hus.mono (T := fun y => fb < y ∧ y < w8.heap.size) fun y hy => ⟨by have := hy.1; have := Hz7.out; omega, hy.2⟩)
            have hl8 : fb < w8.heap.size := by have := hc8.size; have := Hz7.out; omega
            clear hc8 hp8 hun hus f0 f1 t0
            have hal_ := (Chg.refl NoB w8).alloc (.cells #[.slice uq un uc] 27)
            have hb_ := heap_alloc_new w8 (.cells #[.slice uq un uc] 27)
            obtain ⟨gb, hxb_⟩ : ∃ b, b = w8.heap.size := ⟨_, rfl⟩
            obtain ⟨w9, hw_⟩ : ∃ w_, w8.alloc (.cells #[.slice uq un uc] 27) = w_ := ⟨_, rfl⟩
            have hz_ : w9.heap.size = gb + 1 := by rw [← hw_, hxb_]; exact alloc_size _ _
            rw [hw_] at hal_ hb_
            rw [← hxb_] at hb_
            have Hw9 := Lib.hid hw_
            have Hx9 := Lib.hid hxb_
            have Ha9 := Lib.hid hal_
            have Hb9 := Lib.hid hb_
            have Hz9 := Lib.hid hz_
            clear hal_ hb_ hxb_ hw_ hz_
            have Hc9 := Lib.hid (Hc8.out.trans Ha9.out)
            have Hr9 := Lib.hid (row_kept Ha9.out Hr8.out id)
            have Ht9 := Lib.hid (row_kept Ha9.out Ht8.out id)
            have g0 := var1 Hb9.out
            have t0 := var1 Ht9.out
            have tf := row_free Ht9.out
            go_upto_region 15 with fail
            rw [Hw9.out, ← Hx9.out]
            go_wp2_with fail
            have hst : Chg (fun y => y = ab) w9 (w9.setCell ⟨ab, 0, none⟩ (.slice uq un uc)) := (Chg.refl (fun y => y = ab) w9).setCell (p := ⟨ab, 0, none⟩) (.inl rfl) _
            have hch := Hc9.out.setCell (p := ⟨ab, 0, none⟩) (.inr Hord.out.2.2) (.slice uq un uc)
            have hta := heap_set Ht9.out (i := 0) (.slice uq un uc)
            have hra := row_kept hst Hr9.out (by have := Hord.out; show ¬ rb = ab; omega)
            have hus := (Hus.out.keep Ha9.out fun _ _ => id).keep hst (fun y hy e => by have h1 := hy.1; have h2 := Hlt7.out.2; have : y = ab := e; omega)
            have hsz := hst.size
            have hs9 := Ha9.out.size
            go_roundw
            case rel => exact ⟨j + 1, u, uq, un, uc, ub, uz, by omega, by go_num, Hmn.out u rfl, by have h := Hmg.out u rfl; exact ⟨by omega, fun x hx => by have := h.2 x hx; omega⟩, Hun.out, hus.mono fun y hy => (by have h1 := Hord.out; have h2 := Hlt7.out; exact ⟨by omega, by omega, by omega, by omega⟩), hta, hra, hch⟩
            case measure => simp [intOf]; omega
        · obtain rfl : j = k := by omega
          have Hres : Hid (buildF l = .ok t) := Lib.hid (by have h := Hmt.out; rw [Hn.out, List.take_of_length_le (Nat.le_refl _)] at h; rw [HB.out]; exact h)
          have t0 := var1 Hab.out
          have hr1 : ab ≠ rb := by have := Hord.out; omega
          clear hlt
          have r0 := var1 Hrr.out
          have rf := row_free Hrr.out
          go_wp2_with fail
          have e0 := var1 (heap_set Hrr.out (i := 0) (.slice tq tn tc))
          have hfin := Hcr.out.setCell (p := ⟨rb, 0, none⟩) (.inr Hwr.out) (.slice tq tn tc)
          have hst : Chg (fun y => y = rb) wr (wr.setCell ⟨rb, 0, none⟩ (.slice tq tn tc)) := (Chg.refl (fun y => y = rb) wr).setCell (p := ⟨rb, 0, none⟩) (.inl rfl) _
          have his := Hts.out.keep hst fun y hy e => hy.2.2.1 e
          have hsz := hst.size
          generalize wr.setCell ⟨rb, 0, none⟩ (.slice tq tn tc) = wf at *
          refine bodyPost_ret (v := .tuple #[.agg #[.slice tq tn tc], .int .i64 0]) (by simp [results, Tryd.results10, go_sem, e0]) rfl ?_
          rw [HR.out, HY.out, Hres.out]
          exact ⟨hfin, tq, tn, tc, tb, tz, Htn.out, rfl, his.mono fun y hy => ⟨hy.1, Nat.lt_of_lt_of_le hy.2.2.2 hsz⟩⟩
end Go.Proofs.YtnbdjficoficcaaDoor
namespace Go.Proofs.YtnbdjficoficcaaDoor
set_option linter.unusedVariables false
open Go.ChangeShapes Go.WideShapes Go.ChangeAt Go.RowKit
theorem near_one {l : List MntL} {k : Nat} (hk : k < l.length) (m : MntL) : (l.take (k + 1)).any (nearM m) = ((l.take k).any (nearM m) || nearM m l[k]) := by
  rw [take_at hk, List.any_append, List.any_cons, List.any_nil, Bool.or_false]
theorem near_any' {l : List MntL} {i k : Nat} (hk : k < l.length) (hki : k < i) (m : MntL) (h : nearM m l[k] = true) : (l.take i).any (nearM m) = true := by
  rw [List.any_eq_true]
  exact ⟨l[k], List.mem_take_iff_getElem.2 ⟨k, by omega, rfl⟩, h⟩
theorem near_of (m a : MntL) : nearM m a = (decide (a.1 = m.1) || ((undL a.1 m.1).2 || (undL m.1 a.1).2)) := rfl
set_option maxHeartbeats 8000000 in
set_option maxRecDepth 20000 in
theorem rvbuild_any (l : List MntL) (hl : l.length ≤ 1048576) (hw : ∀ m ∈ l, m.1.length ≤ 262144 ∧ m.2.length ≤ 1048576 ∧ ∀ x ∈ m.2, x.1.length ≤ 1048576 ∧ x.2.length ≤ 1048576)
    (S : Nat → Prop) (v : Value) (kb ko : Nat) (w : World) (hm : Pth.Ml w) (hs : MntS w S v l kb ko) :
    Calls Tryd.prog 11 #[v] w (OutP (outL (buildF l)) (outE (buildF l)) w) := by
  have Hs := Lib.hid hs
  obtain ⟨⟨q, c, rfl, h1, h2, h3⟩, hat⟩ := hs
  have Hat := Lib.hid hat
  have H3 := Lib.hid h3
  unfold maxLen at h2
  have Hm := Lib.hid hm
  have Hl := Lib.hid hl
  have Hw := Lib.hid hw
  obtain ⟨n, hn⟩ : ∃ n, n = l.length := ⟨_, rfl⟩
  rw [← hn] at Hs h1 hl ⊢
  have Hn := Lib.hid hn
  obtain ⟨R, hR⟩ : ∃ R, R = outL (buildF l) := ⟨_, rfl⟩
  obtain ⟨Y, hY⟩ : ∃ Y, Y = outE (buildF l) := ⟨_, rfl⟩
  rw [← hR, ← hY]
  have HR := Lib.hid hR
  have HY := Lib.hid hY
  have hal_ := (Chg.refl NoB w).alloc (.cells #[.slice none 0 0] 27)
  have hb_ := heap_alloc_new w (.cells #[.slice none 0 0] 27)
  obtain ⟨rb, hxb_⟩ : ∃ b, b = w.heap.size := ⟨_, rfl⟩
  obtain ⟨w1, hw_⟩ : ∃ w_, w.alloc (.cells #[.slice none 0 0] 27) = w_ := ⟨_, rfl⟩
  have hz_ : w1.heap.size = rb + 1 := by rw [← hw_, hxb_]; exact alloc_size _ _
  rw [hw_] at hal_ hb_
  rw [← hxb_] at hb_
  have Hw1 := Lib.hid hw_
  have Hx1 := Lib.hid hxb_
  have Ha1 := Lib.hid hal_
  have Hb1 := Lib.hid hb_
  have Hz1 := Lib.hid hz_
  clear hal_ hb_ hxb_ hw_ hz_
  have Hwr := Lib.hid (show w.heap.size ≤ rb by rw [Hx1.out]; exact Nat.le_refl _)
  clear hm hw hn hR hY h3 hat
  go_enter Tryd.func11, Tryd.ntmps11
  go_upto_region 1 with fail
  rw [Hw1.out, ← Hx1.out]
  go_wp2_with fail
  go_loopw [19] (fun i wr => ∃ k : Nat, k ≤ n ∧ i = .int .i64 k ∧ chkF [] (l.take k) = none ∧ wr.heap[rb]? = some (.cells #[.slice none 0 0] 27 (0, 0)) ∧ Chg NoB w wr) (fun i _ => n - (intOf i).toNat)
  case atStart => exact ⟨0, Nat.zero_le _, rfl, by rw [List.take_zero]; rfl, Hb1.out, Ha1.out⟩
  case round =>
    obtain ⟨k, hk, rfl, hck, hrr, hcw⟩ := hrel
    have Hck := Lib.hid hck
    have Hrr := Lib.hid hrr
    have Hcw := Lib.hid hcw
    clear hck hrr hcw
    by_cases hlt : k < n
    · have hlt' : k < l.length := by rw [← Hn.out]; exact hlt
      obtain ⟨rfl, -⟩ := H3.out (by intro e; rw [e] at hlt'; simp at hlt')
      obtain ⟨hc0, -⟩ := Hat.out k hlt'
      have c0 := Hcw.out.keep hc0
      have Hxm := Lib.hid (List.getElem_mem hlt')
      have Hca := Lib.hid (chk_at hlt' Hck.out)
      have Hcn := Lib.hid (chk_next hlt' Hck.out)
      generalize l[k] = x at *
      obtain ⟨x1, x2⟩ := x
      simp only at c0 hc0
      have hx1 : x1.length ≤ 262144 := (Hw.out _ Hxm.out).1
      have Hc0 := Lib.hid hc0
      clear hc0
      have HG := Lib.hid (fun w' (h : Chg NoB w w') => rpgood_any x1 w' (by omega))
      obtain ⟨gd, hgd⟩ : ∃ g, g = Pth.goodL x1 := ⟨_, rfl⟩
      rw [← hgd] at HG
      have Hgd := Lib.hid hgd
      have Hx := Lib.hid hx1
      clear hgd hx1
      go_wp2_with fail
      refine (HG.out _ Hcw.out).mono ?_
      rintro e w4 ⟨rfl, hc4⟩
      have Hc4 := Lib.hid (Hcw.out.trans hc4)
      have Hr4 := Lib.hid (row_kept hc4 Hrr.out id)
      clear hc4 c0
      cases gd with
      | false =>
        have Hres : Hid (buildF l = .error 10) := Lib.hid (build_chk (by rw [Hca.out, if_neg (by show ¬ Pth.goodL x1 = true; rw [← Hgd.out]; decide)]))
        clear hlt'
        have r0 := var1 Hr4.out
        have rf := row_free Hr4.out
        go_wp2_with fail
        have e0 := var1 (heap_set Hr4.out (i := 0) (.slice none 0 0))
        have hfin := Hc4.out.setCell (p := ⟨rb, 0, none⟩) (.inr Hwr.out) (.slice none 0 0)
        generalize w4.setCell ⟨rb, 0, none⟩ (.slice none 0 0) = wf at *
        refine bodyPost_ret (v := .tuple #[.agg #[.slice none 0 0], .int .i64 10]) (by simp [results, Tryd.results11, go_sem, e0]) rfl ?_
        rw [HR.out, HY.out, Hres.out]
        exact OutP.err hfin
      | true =>
      clear hlt'
      go_wp2_with fail
      go_loopw [5] (fun i w5 => ∃ j : Nat, j ≤ k ∧ i = .int .i64 j ∧ (l.take j).any (nearM (x1, x2)) = false ∧ w5.heap[rb]? = some (.cells #[.slice none 0 0] 27 (0, 0)) ∧ Chg NoB w w5) (fun i _ => k - (intOf i).toNat)
      case atStart => exact ⟨0, Nat.zero_le _, rfl, by rw [List.take_zero]; rfl, Hr4.out, Hc4.out⟩
      case round =>
        obtain ⟨j, hj, rfl, hnr, hrr, hcw⟩ := hrel
        have Hnr := Lib.hid hnr
        have Hrj := Lib.hid hrr
        have Hcj := Lib.hid hcw
        clear hnr hrr hcw
        by_cases hjk : j < k
        · have hjl : j < l.length := by rw [← Hn.out]; omega
          obtain ⟨ha0, -⟩ := Hat.out j hjl
          have a0 := Hcj.out.keep ha0
          have b0 := Hcj.out.keep Hc0.out
          have Hyl := Lib.hid (List.getElem_mem hjl)
          have Hn1 := Lib.hid (near_one hjl (x1, x2))
          have Hn2 := Lib.hid (near_any' hjl hjk (x1, x2))
          generalize l[j] = y at *
          obtain ⟨y1, y2⟩ := y
          simp only at a0 ha0
          have hy1 : y1.length ≤ 262144 := (Hw.out _ Hyl.out).1
          have HU := Lib.hid (fun w' (h : Chg NoB w w') => runder_any y1 x1 w' hy1 Hx.out (ml_keep Hm.out h))
          have HV := Lib.hid (fun w' (h : Chg NoB w w') => runder_any x1 y1 w' Hx.out hy1 (ml_keep Hm.out h))
          have hr := tx_beq y1 x1
          obtain ⟨r, hrr⟩ : ∃ r, r = nearM (x1, x2) (y1, y2) := ⟨_, rfl⟩
          rw [← hrr] at Hn1 Hn2
          rw [near_of] at hrr
          simp only at hrr
          generalize (undL y1 x1).1 = u1 at *
          generalize (undL x1 y1).1 = v1 at *
          generalize (undL y1 x1).2 = u2 at *
          generalize (undL x1 y1).2 = v2 at *
          generalize decide (y1 = x1) = b1 at *
          have Hrr := Lib.hid hrr
          have Hr0 := Lib.hid hr
          clear hrr ha0 hjl hy1
          go_wp2_with fail
          go_quiet (fail)
          clear a0 b0 hr
          go_wp2_with fail
          refine (HU.out _ (Hcj.out.drewN _)).mono ?_
          rintro e w6 ⟨hc6, rfl⟩
          have Hc6 := Lib.hid ((Hcj.out.drewN _).trans hc6)
          have Hr6 := Lib.hid (row_kept (((Chg.refl NoB _).drewN _).trans hc6) Hrj.out id)
          clear hc6
          go_wp2_with fail
          refine (HV.out _ Hc6.out).mono ?_
          rintro e w7 ⟨hc7, rfl⟩
          have Hc7 := Lib.hid (Hc6.out.trans hc7)
          have Hr7 := Lib.hid (row_kept hc7 Hr6.out id)
          have hr := Hr0.out
          have Hno : Hid (r = true → buildF l = .error 12) := Lib.hid fun h => build_chk (by rw [Hca.out, if_pos (by show Pth.goodL x1 = true; rw [← Hgd.out]), if_pos (Hn2.out h)])
          clear hc7
          cases b1 with
          | true =>
            have Hres := Lib.hid (Hno.out (by rw [Hrr.out]; rfl))
            have r0 := var1 Hr7.out
            have rf := row_free Hr7.out
            go_wp2_with fail
            have e0 := var1 (heap_set Hr7.out (i := 0) (.slice none 0 0))
            have hfin := Hc7.out.setCell (p := ⟨rb, 0, none⟩) (.inr Hwr.out) (.slice none 0 0)
            generalize w7.setCell ⟨rb, 0, none⟩ (.slice none 0 0) = wf at *
            refine bodyPost_ret (v := .tuple #[.agg #[.slice none 0 0], .int .i64 12]) (by simp [results, Tryd.results11, go_sem, e0]) rfl ?_
            rw [HR.out, HY.out, Hres.out]
            exact OutP.err hfin
          | false =>
            cases u2 with
            | true =>
              have Hres := Lib.hid (Hno.out (by rw [Hrr.out]; rfl))
              have r0 := var1 Hr7.out
              have rf := row_free Hr7.out
              go_wp2_with fail
              have e0 := var1 (heap_set Hr7.out (i := 0) (.slice none 0 0))
              have hfin := Hc7.out.setCell (p := ⟨rb, 0, none⟩) (.inr Hwr.out) (.slice none 0 0)
              generalize w7.setCell ⟨rb, 0, none⟩ (.slice none 0 0) = wf at *
              refine bodyPost_ret (v := .tuple #[.agg #[.slice none 0 0], .int .i64 12]) (by simp [results, Tryd.results11, go_sem, e0]) rfl ?_
              rw [HR.out, HY.out, Hres.out]
              exact OutP.err hfin
            | false =>
              cases v2 with
              | true =>
                have Hres := Lib.hid (Hno.out (by rw [Hrr.out]; rfl))
                have r0 := var1 Hr7.out
                have rf := row_free Hr7.out
                go_wp2_with fail
                have e0 := var1 (heap_set Hr7.out (i := 0) (.slice none 0 0))
                have hfin := Hc7.out.setCell (p := ⟨rb, 0, none⟩) (.inr Hwr.out) (.slice none 0 0)
                generalize w7.setCell ⟨rb, 0, none⟩ (.slice none 0 0) = wf at *
                refine bodyPost_ret (v := .tuple #[.agg #[.slice none 0 0], .int .i64 12]) (by simp [results, Tryd.results11, go_sem, e0]) rfl ?_
                rw [HR.out, HY.out, Hres.out]
                exact OutP.err hfin
              | false =>
                go_wp2_with fail
                go_roundw
                case rel => exact ⟨j + 1, by omega, by go_num, by rw [Hn1.out, Hnr.out, Hrr.out]; rfl, Hr7.out, Hc7.out⟩
                case measure => simp [intOf]; omega
        · obtain rfl : j = k := by omega
          have hkn := hlt
          go_wp2_with fail
          go_roundw
          case rel => exact ⟨j + 1, by omega, by go_num, Hcn.out Hgd.out.symm Hnr.out, Hrj.out, Hcj.out⟩
          case measure => simp [intOf]; omega
    · obtain rfl : k = n := by omega
      have hck : chkF [] l = none := by have h := Hck.out; rwa [Hn.out, List.take_of_length_le (Nat.le_refl _)] at h
      have HB := Lib.hid (build_mnt hck)
      clear hck hlt
      obtain ⟨w0, rfl⟩ : ∃ w0, w0 = wr := ⟨_, rfl⟩
      have hrl := lt_of_block Hrr.out
      have hal_ := (Chg.refl NoB w0).alloc (.cells #[.slice none 0 0] 27)
      have hb_ := heap_alloc_new w0 (.cells #[.slice none 0 0] 27)
      obtain ⟨ab, hxb_⟩ : ∃ b, b = w0.heap.size := ⟨_, rfl⟩
      obtain ⟨w6, hw_⟩ : ∃ w_, w0.alloc (.cells #[.slice none 0 0] 27) = w_ := ⟨_, rfl⟩
      have hz_ : w6.heap.size = ab + 1 := by rw [← hw_, hxb_]; exact alloc_size _ _
      rw [hw_] at hal_ hb_
      rw [← hxb_] at hb_
      have Hw6 := Lib.hid hw_
      have Hx6 := Lib.hid hxb_
      have Ha6 := Lib.hid hal_
      have Hb6 := Lib.hid hb_
      have Hz6 := Lib.hid hz_
      clear hal_ hb_ hxb_ hw_ hz_
      have Hr6 := Lib.hid (row_kept Ha6.out Hrr.out id)
      have Hc6 := Lib.hid (Hcw.out.trans Ha6.out)
      have Hord := Lib.hid (show w.heap.size ≤ rb ∧ rb < ab ∧ w.heap.size ≤ ab by have := Hwr.out; have := Hx6.out; omega)
      clear hrl
      go_upto_region 16 with fail
      rw [Hw6.out, ← Hx6.out]
      go_wp2_with fail
      go_loopw [71] (fun i wr => ∃ (j : Nat) (t : List FileL) (tq : Option Addr) (tn tc tb tz : Nat), j ≤ k ∧ i = .int .i64 j ∧ mntsF [] (l.take j) = .ok t ∧ (t.length ≤ 1048576 ∧ ∀ x ∈ t, x.1.length ≤ 1048576 ∧ x.2.length ≤ 1048576) ∧ tn = t.length ∧ InpS wr (fun y => w.heap.size ≤ y ∧ y ≠ ab ∧ y ≠ rb ∧ y < wr.heap.size) (.slice tq tn tc) t tb tz ∧ wr.heap[ab]? = some (.cells #[.slice tq tn tc] 27 (0, 0)) ∧ wr.heap[rb]? = some (.cells #[.slice none 0 0] 27 (0, 0)) ∧ Chg NoB w wr) (fun i _ => k - (intOf i).toNat)
      case atStart => exact ⟨0, [], none, 0, 0, 0, 0, Nat.zero_le _, rfl, by rw [List.take_zero]; rfl, ⟨Nat.zero_le _, fun x hx => nomatch hx⟩, rfl, InpS.nil _ _, Hb6.out, Hr6.out, Hc6.out⟩
      case round =>
        obtain ⟨j, t, tq, tn, tc, tb, tz, hj, rfl, hmt, ⟨htl, htw⟩, htn, hts, hab, hrr, hcw⟩ := hrel
        have Hmt := Lib.hid hmt
        have Htl := Lib.hid htl
        have Htw := Lib.hid htw
        have Htn := Lib.hid htn
        have Hts := Lib.hid hts
        have Hab := Lib.hid hab
        have Hrr := Lib.hid hrr
        have Hcr := Lib.hid hcw
        clear hmt htl htw htn hts hab hrr hcw
        by_cases hlt : j < k
        · have hlt' : j < l.length := by rw [← Hn.out]; exact hlt
          obtain ⟨rfl, -⟩ := H3.out (by intro e; rw [e] at hlt'; simp at hlt')
          obtain ⟨hc0, q', n', c', jb, jo, hn', hc1, hsx⟩ := Hat.out j hlt'
          have c0 := Hcr.out.keep hc0
          have c1 := Hcr.out.keep hc1
          have Hxm := Lib.hid (List.getElem_mem hlt')
          have Hma := Lib.hid (fun y => mnts_at (y := y) hlt' Hmt.out)
          have Hmn := Lib.hid (fun u => mnts_next (u := u) hlt' Hmt.out)
          have Hsx := Lib.hid hsx
          generalize l[j] = x at *
          obtain ⟨x1, x2⟩ := x
          simp only at c0
          have hx := Hw.out _ Hxm.out
          change x1.length ≤ _ ∧ x2.length ≤ _ ∧ _ at hx
          clear hc0 hc1 hsx hlt'
          have hrl := lt_of_block Hab.out
          have hrl2 := lt_of_block Hrr.out
          have HM := Lib.hid (fun w' (h : Chg NoB wr w') => (rmount_any t x2 x1 Htl.out Htw.out hx.2.1 hx.2.2 hx.1 _ _ _ _ _ _ _ _ w' (ml_keep Hm.out (Hcr.out.trans h)) (Hts.out.keep h fun _ _ => id) (Hsx.out.keep (Hcr.out.trans h) fun _ _ => id)))
          have Hmg := Lib.hid (fun u (h : mountF t x1 x2 = .ok u) => good_sizes (mount_good h))
          have Hme := Lib.hid (fun y (h : mountF t x1 x2 = .error y) => mount_err h)
          change Hid (∀ y, mountF t x1 x2 = .error y → _) at Hma
          change Hid (∀ u, mountF t x1 x2 = .ok u → _) at Hmn
          clear hx hn'
          have hal_ := (Chg.refl NoB wr).alloc (.cells #[.string (tx x1), .slice q' n' c'] 35)
          have hb_ := heap_alloc_new wr (.cells #[.string (tx x1), .slice q' n' c'] 35)
          obtain ⟨fb, hxb_⟩ : ∃ b, b = wr.heap.size := ⟨_, rfl⟩
          obtain ⟨w7, hw_⟩ : ∃ w_, wr.alloc (.cells #[.string (tx x1), .slice q' n' c'] 35) = w_ := ⟨_, rfl⟩
          have hz_ : w7.heap.size = fb + 1 := by rw [← hw_, hxb_]; exact alloc_size _ _
          rw [hw_] at hal_ hb_
          rw [← hxb_] at hb_
          have Hw7 := Lib.hid hw_
          have Hx7 := Lib.hid hxb_
          have Ha7 := Lib.hid hal_
          have Hb7 := Lib.hid hb_
          have Hz7 := Lib.hid hz_
          clear hal_ hb_ hxb_ hw_ hz_
          have Hlt7 := Lib.hid (show rb < fb ∧ ab < fb by rw [Hx7.out]; exact ⟨hrl2, hrl⟩)
          have Ht7 := Lib.hid (row_kept Ha7.out Hab.out id)
          have Hr7 := Lib.hid (row_kept Ha7.out Hrr.out id)
          have Hc7 := Lib.hid (Hcr.out.trans Ha7.out)
          clear hrl hrl2
          go_upto_region 19 with fail
          rw [Hw7.out, ← Hx7.out]
          clear c0 c1
          have f0 := var2 Hb7.out
          have t0 := var1 Ht7.out
          obtain ⟨f0, f1⟩ := f0
          obtain ⟨r, hr⟩ : ∃ r, r = mountF t x1 x2 := ⟨_, rfl⟩
          rw [← hr] at HM Hmg Hme Hma Hmn
          clear hr
          have HM7 := Lib.hid (HM.out w7 Ha7.out)
          clear HM
          cases r with
          | error y =>
            have hy : (y == 0) = false := by rw [beq_eq_false_iff_ne]; exact Hme.out y rfl
            have hy2 : (y != 0) = true := by simp [bne, hy]
            have Hres : Hid (buildF l = .error y) := Lib.hid (by rw [HB.out]; exact Hma.out y rfl)
            go_wp2_with fail
            refine HM7.out.mono ?_
            rintro e w8 ⟨hc8, rfl⟩
            have Hc8 := Lib.hid (Hc7.out.trans hc8)
            have Hr8 := Lib.hid (row_kept hc8 Hr7.out id)
            clear hc8 f0 f1 t0
            have hal_ := (Chg.refl NoB w8).alloc (.cells #[.slice none 0 0] 27)
            have hb_ := heap_alloc_new w8 (.cells #[.slice none 0 0] 27)
            obtain ⟨gb, hxb_⟩ : ∃ b, b = w8.heap.size := ⟨_, rfl⟩
            obtain ⟨w9, hw_⟩ : ∃ w_, w8.alloc (.cells #[.slice none 0 0] 27) = w_ := ⟨_, rfl⟩
            have hz_ : w9.heap.size = gb + 1 := by rw [← hw_, hxb_]; exact alloc_size _ _
            rw [hw_] at hal_ hb_
            rw [← hxb_] at hb_
            have Hw9 := Lib.hid hw_
            have Hx9 := Lib.hid hxb_
            have Ha9 := Lib.hid hal_
            have Hb9 := Lib.hid hb_
            have Hz9 := Lib.hid hz_
            clear hal_ hb_ hxb_ hw_ hz_
            have Hc9 := Lib.hid (Hc8.out.trans Ha9.out)
            have Hr9 := Lib.hid (row_kept Ha9.out Hr8.out id)
            have g0 := var1 Hb9.out
            go_upto_region 20 with fail
            rw [Hw9.out, ← Hx9.out]
            have r0 := var1 Hr9.out
            have rf := row_free Hr9.out
            go_wp2_with fail
            have e0 := var1 (heap_set Hr9.out (i := 0) (.slice none 0 0))
            have hfin := Hc9.out.setCell (p := ⟨rb, 0, none⟩) (.inr Hwr.out) (.slice none 0 0)
            generalize w9.setCell ⟨rb, 0, none⟩ (.slice none 0 0) = wf at *
            refine bodyPost_ret (v := .tuple #[.agg #[.slice none 0 0], .int .i64 y]) (by simp [results, Tryd.results11, go_sem, e0]) rfl ?_
            rw [HR.out, HY.out, Hres.out]
            exact OutP.err hfin
          | ok u =>
            go_wp2_with fail
            refine HM7.out.mono ?_
            intro e w8 hp8
            obtain ⟨hc8, uq, un, uc, ub, uz, hun, rfl, hus⟩ := hp8.out
            change un = u.length at hun
            change InpS w8 _ _ u _ _ at hus
            have Hun := Lib.hid hun
            have Hc8 := Lib.hid (Hc7.out.trans hc8)
            have Hr8 := Lib.hid (row_kept hc8 Hr7.out id)
            have Ht8 := Lib.hid (row_kept hc8 Ht7.out id)
            have Hus := Lib.hid (hus.mono (T := fun y => fb < y ∧ y < w8.heap.size) fun y hy => ⟨by have := hy.1; have := Hz7.out; omega, hy.2⟩)
            have hl8 : fb < w8.heap.size := by have := hc8.size; have := Hz7.out; omega
            clear hc8 hp8 hun hus f0 f1 t0
            have hal_ := (Chg.refl NoB w8).alloc (.cells #[.slice uq un uc] 27)
            have hb_ := heap_alloc_new w8 (.cells #[.slice uq un uc] 27)
            obtain ⟨gb, hxb_⟩ : ∃ b, b = w8.heap.size := ⟨_, rfl⟩
            obtain ⟨w9, hw_⟩ : ∃ w_, w8.alloc (.cells #[.slice uq un uc] 27) = w_ := ⟨_, rfl⟩
            have hz_ : w9.heap.size = gb + 1 := by rw [← hw_, hxb_]; exact alloc_size _ _
            rw [hw_] at hal_ hb_
            rw [← hxb_] at hb_
            have Hw9 := Lib.hid hw_
            have Hx9 := Lib.hid hxb_
            have Ha9 := Lib.hid hal_
            have Hb9 := Lib.hid hb_
            have Hz9 := Lib.hid hz_
            clear hal_ hb_ hxb_ hw_ hz_
            have Hc9 := Lib.hid (Hc8.out.trans Ha9.out)
            have Hr9 := Lib.hid (row_kept Ha9.out Hr8.out id)
            have Ht9 := Lib.hid (row_kept Ha9.out Ht8.out id)
            have g0 := var1 Hb9.out
            have t0 := var1 Ht9.out
            have tf := row_free Ht9.out
            go_upto_region 20 with fail
            rw [Hw9.out, ← Hx9.out]
            go_wp2_with fail
            have hst : Chg (fun y => y = ab) w9 (w9.setCell ⟨ab, 0, none⟩ (.slice uq un uc)) := (Chg.refl (fun y => y = ab) w9).setCell (p := ⟨ab, 0, none⟩) (.inl rfl) _
            have hch := Hc9.out.setCell (p := ⟨ab, 0, none⟩) (.inr Hord.out.2.2) (.slice uq un uc)
            have hta := heap_set Ht9.out (i := 0) (.slice uq un uc)
            have hra := row_kept hst Hr9.out (by have := Hord.out; show ¬ rb = ab; omega)
            have hus := (Hus.out.keep Ha9.out fun _ _ => id).keep hst (fun y hy e => by have h1 := hy.1; have h2 := Hlt7.out.2; have : y = ab := e; omega)
            have hsz := hst.size
            have hs9 := Ha9.out.size
            go_roundw
            case rel => exact ⟨j + 1, u, uq, un, uc, ub, uz, by omega, by go_num, Hmn.out u rfl, by have h := Hmg.out u rfl; exact ⟨by omega, fun x hx => by have := h.2 x hx; omega⟩, Hun.out, hus.mono fun y hy => (by have h1 := Hord.out; have h2 := Hlt7.out; exact ⟨by omega, by omega, by omega, by omega⟩), hta, hra, hch⟩
            case measure => simp [intOf]; omega
        · obtain rfl : j = k := by omega
          have Hres : Hid (buildF l = .ok t) := Lib.hid (by have h := Hmt.out; rw [Hn.out, List.take_of_length_le (Nat.le_refl _)] at h; rw [HB.out]; exact h)
          have t0 := var1 Hab.out
          have hr1 : ab ≠ rb := by have := Hord.out; omega
          clear hlt
          have r0 := var1 Hrr.out
          have rf := row_free Hrr.out
          go_wp2_with fail
          have e0 := var1 (heap_set Hrr.out (i := 0) (.slice tq tn tc))
          have hfin := Hcr.out.setCell (p := ⟨rb, 0, none⟩) (.inr Hwr.out) (.slice tq tn tc)
          have hst : Chg (fun y => y = rb) wr (wr.setCell ⟨rb, 0, none⟩ (.slice tq tn tc)) := (Chg.refl (fun y => y = rb) wr).setCell (p := ⟨rb, 0, none⟩) (.inl rfl) _
          have his := Hts.out.keep hst fun y hy e => hy.2.2.1 e
          have hsz := hst.size
          generalize wr.setCell ⟨rb, 0, none⟩ (.slice tq tn tc) = wf at *
          refine bodyPost_ret (v := .tuple #[.agg #[.slice tq tn tc], .int .i64 0]) (by simp [results, Tryd.results11, go_sem, e0]) rfl ?_
          rw [HR.out, HY.out, Hres.out]
          exact ⟨hfin, tq, tn, tc, tb, tz, Htn.out, rfl, his.mono fun y hy => ⟨hy.1, Nat.lt_of_lt_of_le hy.2.2.2 hsz⟩⟩
end Go.Proofs.YtnbdjficoficcaaDoor
