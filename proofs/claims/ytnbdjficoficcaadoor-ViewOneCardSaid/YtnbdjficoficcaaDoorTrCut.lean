/- The contracts of Cut: the program's and the document's. Condition: texts of at most 2^18 bytes, at most 2^20 files; the library's own variable holds some number. -/
import Derived.Test.YtnbdjficoficcaaDoorTrPut
import Derived.Test.YtnbdjficoficcaaDoorTrRg
namespace Go.Proofs.YtnbdjficoficcaaDoor
set_option linter.unusedVariables false
open Go.ChangeShapes Go.WideShapes Go.ChangeAt Go.RowKit
theorem cutF_no {t : List FileL} {d : List UInt8} (h : goodF t = false) : cutF t d = .error 1 := by unfold cutF; rw [if_neg (by rw [h]; decide)]
theorem cutF_bad {t : List FileL} {d : List UInt8} (h : goodF t = true) (h2 : Pth.placeL d = false) : cutF t d = .error 10 := by unfold cutF; rw [if_pos h, if_neg (by rw [h2]; decide)]
theorem cutF_ok {t : List FileL} {d : List UInt8} (h : goodF t = true) (h2 : Pth.placeL d = true) : cutF t d = .ok (cutL d t) := by unfold cutF; rw [if_pos h, if_pos h2]
set_option maxHeartbeats 8000000 in
set_option maxRecDepth 20000 in
theorem tcut_any (t : List FileL) (d : List UInt8) (hl : t.length ≤ 1048576) (hw : ∀ x ∈ t, x.1.length ≤ 1048576 ∧ x.2.length ≤ 1048576) (hd : d.length ≤ 262144) (S : Nat → Prop) (v : Value) (kb ko : Nat) (w : World) (hm : Pth.Ml w) (hs : InpS w S v t kb ko) :
    Calls Tryd.prog 14 #[.agg #[v], .string (tx d)] w (MakeP (cutF t d) w) := by
  have Hs := Lib.hid hs
  obtain ⟨⟨q, c, rfl, h1, h2, h3⟩, hat⟩ := hs
  have Hat := Lib.hid hat
  have H3 := Lib.hid h3
  unfold maxLen at h2
  have Hm := Lib.hid hm
  have HG := Lib.hid (fun w' (h : Chg NoB w w') => tgood_any t hl hw S _ kb ko w' (ml_keep hm h) (Hs.out.keep h fun _ _ => id))
  have HP := Lib.hid (fun w' (h : Chg NoB w w') => tplace_any d w' hd (ml_keep hm h))
  obtain ⟨gd, hgd⟩ : ∃ g, g = goodF t := ⟨_, rfl⟩
  rw [← hgd] at HG
  have Hgd := Lib.hid hgd
  obtain ⟨pd, hpd⟩ : ∃ g, g = Pth.placeL d := ⟨_, rfl⟩
  rw [← hpd] at HP
  have Hpd := Lib.hid hpd
  obtain ⟨n, hn⟩ : ∃ n, n = t.length := ⟨_, rfl⟩
  rw [← hn] at Hs HG h1 ⊢
  have Hn := Lib.hid hn
  obtain ⟨res, hres⟩ : ∃ r, r = cutF t d := ⟨_, rfl⟩
  rw [← hres]
  have Hres0 := Lib.hid hres
  have hal_ := (Chg.refl NoB w).alloc (.cells #[.slice q n c] 27)
  have hb_ := heap_alloc_new w (.cells #[.slice q n c] 27)
  obtain ⟨tb, hxb_⟩ : ∃ b, b = w.heap.size := ⟨_, rfl⟩
  obtain ⟨w1, hw_⟩ : ∃ w_, w.alloc (.cells #[.slice q n c] 27) = w_ := ⟨_, rfl⟩
  have hz_ : w1.heap.size = tb + 1 := by rw [← hw_, hxb_]; exact alloc_size _ _
  rw [hw_] at hal_ hb_
  rw [← hxb_] at hb_
  have Hw1 := Lib.hid hw_
  have Hx1 := Lib.hid hxb_
  have Ha1 := Lib.hid hal_
  have Hb1 := Lib.hid hb_
  have Hz1 := Lib.hid hz_
  clear hal_ hb_ hxb_ hw_ hz_
  have hal_ := (Chg.refl NoB w1).alloc (.cells #[.slice none 0 0] 27)
  have hb_ := heap_alloc_new w1 (.cells #[.slice none 0 0] 27)
  obtain ⟨rb, hxb_⟩ : ∃ b, b = w1.heap.size := ⟨_, rfl⟩
  obtain ⟨w2, hw_⟩ : ∃ w_, w1.alloc (.cells #[.slice none 0 0] 27) = w_ := ⟨_, rfl⟩
  have hz_ : w2.heap.size = rb + 1 := by rw [← hw_, hxb_]; exact alloc_size _ _
  rw [hw_] at hal_ hb_
  rw [← hxb_] at hb_
  have Hw2 := Lib.hid hw_
  have Hx2 := Lib.hid hxb_
  have Ha2 := Lib.hid hal_
  have Hb2 := Lib.hid hb_
  have Hz2 := Lib.hid hz_
  clear hal_ hb_ hxb_ hw_ hz_
  have Hwr := Lib.hid (show w.heap.size ≤ rb by have := Hx1.out; have := Hz1.out; have := Hx2.out; omega)
  have Hc2 := Lib.hid (Ha1.out.trans Ha2.out)
  have Ht2 := Lib.hid (row_kept Ha2.out Hb1.out id)
  have hx2 : tb + 1 = rb := by rw [Hx2.out, Hz1.out]
  obtain ⟨i0, hi, hz0, hz1, hz2⟩ := info_parts inpInfo
  have Hi := Lib.hid hi
  have Hz0 := Lib.hid hz0
  have Hzb1 := Lib.hid hz1
  have Hzb2 := Lib.hid hz2
  clear hm hl hw hgd hn hres hi hz0 hz1 hz2 h3 hat hpd
  have t0 := var1 Ht2.out
  go_enter Tryd.func14, Tryd.ntmps14
  go_upto_region 1 with fail
  rw [Hw1.out, Hw2.out, ← Hx1.out]
  rw [hx2]
  clear hx2
  go_wp2_with fail
  refine (HG.out _ Hc2.out).mono ?_
  rintro e w4 ⟨rfl, hc4⟩
  have Hc4 := Lib.hid (Hc2.out.trans hc4)
  have Hr4 := Lib.hid (row_kept hc4 Hb2.out id)
  have Ht4 := Lib.hid (row_kept hc4 Ht2.out id)
  clear hc4 t0 HG
  have t0 := var1 Ht4.out
  have r0 := var1 Hr4.out
  have rf := row_free Hr4.out
  cases gd with
  | false =>
    have Hres : Hid (res = .error 1) := Lib.hid (by rw [Hres0.out]; exact cutF_no Hgd.out.symm)
    go_wp2_with fail
    have e0 := var1 (heap_set Hr4.out (i := 0) (.slice none 0 0))
    have hfin := Hc4.out.setCell (p := ⟨rb, 0, none⟩) (.inr Hwr.out) (.slice none 0 0)
    generalize w4.setCell ⟨rb, 0, none⟩ (.slice none 0 0) = wf at *
    refine bodyPost_ret (v := .tuple #[.agg #[.slice none 0 0], .int .i64 1]) (by simp [results, Tryd.results14, go_sem, e0]) rfl ⟨hfin, ?_⟩
    rw [Hres.out]
  | true =>
    have hsz := good_sizes Hgd.out.symm
    have Hsz := Lib.hid hsz
    have hnb : n ≤ 32 := by rw [Hn.out]; exact hsz.1
    clear hsz r0 rf t0
    go_wp2_with fail
    refine (HP.out _ Hc4.out).mono ?_
    rintro e w5 ⟨rfl, hc5⟩
    have Hc5 := Lib.hid (Hc4.out.trans hc5)
    have Hr5 := Lib.hid (row_kept hc5 Hr4.out id)
    have Ht5 := Lib.hid (row_kept hc5 Ht4.out id)
    clear hc5 HP
    have r0 := var1 Hr5.out
    have rf := row_free Hr5.out
    cases pd with
    | false =>
      have Hres : Hid (res = .error 10) := Lib.hid (by rw [Hres0.out]; exact cutF_bad Hgd.out.symm Hpd.out.symm)
      go_wp2_with fail
      have e0 := var1 (heap_set Hr5.out (i := 0) (.slice none 0 0))
      have hfin := Hc5.out.setCell (p := ⟨rb, 0, none⟩) (.inr Hwr.out) (.slice none 0 0)
      generalize w5.setCell ⟨rb, 0, none⟩ (.slice none 0 0) = wf at *
      refine bodyPost_ret (v := .tuple #[.agg #[.slice none 0 0], .int .i64 10]) (by simp [results, Tryd.results14, go_sem, e0]) rfl ⟨hfin, ?_⟩
      rw [Hres.out]
    | true =>
      have Hres : Hid (res = .ok (cutL d t)) := Lib.hid (by rw [Hres0.out]; exact cutF_ok Hgd.out.symm Hpd.out.symm)
      clear r0 rf
      go_upto_region 6 with fail
      have hal_ := (Chg.refl NoB w5).alloc (.cells #[.slice none 0 0] 27)
      have hb_ := heap_alloc_new w5 (.cells #[.slice none 0 0] 27)
      obtain ⟨ob, hxb_⟩ : ∃ b, b = w5.heap.size := ⟨_, rfl⟩
      obtain ⟨w6, hw_⟩ : ∃ w_, w5.alloc (.cells #[.slice none 0 0] 27) = w_ := ⟨_, rfl⟩
      have hz_ : w6.heap.size = ob + 1 := by rw [← hw_, hxb_]; exact alloc_size _ _
      rw [hw_] at hal_ hb_
      rw [← hxb_] at hb_
      have Hw6 := Lib.hid hw_
      have Hx6 := Lib.hid hxb_
      have Ha6 := Lib.hid hal_
      have Hb6 := Lib.hid hb_
      have Hz6 := Lib.hid hz_
      clear hal_ hb_ hxb_ hw_ hz_
      have Hr6 := Lib.hid (row_kept Ha6.out Hr5.out id)
      have Hc6 := Lib.hid (Hc5.out.trans Ha6.out)
      have hrl := lt_of_block Hr5.out
      obtain ⟨lo, hlo⟩ : ∃ l, l = w6.heap.size := ⟨_, rfl⟩
      have Hord := Lib.hid (show w.heap.size ≤ rb ∧ rb < ob ∧ ob < lo by have := Hwr.out; have := Hz6.out; have := Hx6.out; omega)
      have Hlo := Lib.hid hlo
      have t0 := var1 (row_kept Ha6.out Ht5.out id)
      clear hlo hrl
      rw [Hw6.out, ← Hx6.out]
      go_wp2_with fail
      clear t0
      go_loopw [22] (fun i wr => ∃ (k : Nat) (lv : Value), k ≤ n ∧ i = .int .i64 k ∧ wr.heap[ob]? = some (.cells #[lv] 27 (0, 0)) ∧ wr.ownsRow lo 47 2 lv (cutL d (t.take k)).length (flatP (cutL d (t.take k))) ∧ Chg (fun y => y = ob) w6 wr) (fun i _ => n - (intOf i).toNat)
      case atStart => exact ⟨0, _, Nat.zero_le _, rfl, Hb6.out, World.ownsRow_nil _ _ _ _, Chg.refl _ _⟩
      case round =>
        obtain ⟨k, lv, hk, rfl, hob, hrow, hch⟩ := hrel
        have hml := cutL_len (d := d) (t.take k)
        rw [List.length_take] at hml
        obtain ⟨acc, hacc⟩ : ∃ a, a = cutL d (t.take k) := ⟨_, rfl⟩
        rw [← hacc] at hrow hml
        obtain ⟨m, hmm⟩ : ∃ m, m = acc.length := ⟨_, rfl⟩
        rw [← hmm] at hrow hml
        have Hacc := Lib.hid hacc
        have Hmm := Lib.hid hmm
        obtain ⟨lq, lc, rfl, hnc, hcm⟩ := row_shape hrow
        have hc6r : Chg NoB w wr := Hc5.out.trans (Ha6.out.above hch fun y hy => by have h : y = ob := hy; have := Hx6.out; omega)
        have Hcw := Lib.hid hc6r
        have Hch := Lib.hid hch
        have Hob := Lib.hid hob
        have Hrow := Lib.hid hrow
        have Hrr := Lib.hid (row_kept Hch.out Hr6.out (by have := Hord.out; omega))
        unfold maxLen at hcm
        clear hob hrow hch hc6r hacc hmm
        by_cases hlt : k < n
        · have hlt' : k < t.length := by rw [← Hn.out]; exact hlt
          obtain ⟨rfl, -⟩ := H3.out (by intro e; rw [e] at hlt'; simp at hlt')
          have c0 := Hcw.out.keep (Hat.out k hlt').1
          have c1 := Hcw.out.keep (Hat.out k hlt').2
          have Hxs := Lib.hid (Hsz.out.2 _ (List.getElem_mem hlt'))
          have htk : t.take (k + 1) = t.take k ++ [t[k]] := by rw [List.take_add_one, List.getElem?_eq_getElem hlt']; rfl
          have Htk := Lib.hid (show cutL d (t.take (k + 1)) = acc ++ (if (undL d t[k].1).2 = true then [((undL d t[k].1).1, t[k].2)] else []) by rw [htk, cutL_snoc, ← Hacc.out])
          generalize t[k] = x at *
          obtain ⟨x1, x2⟩ := x
          simp only at c0 c1 Htk
          have hx1 : x1.length ≤ 262144 := by have h := Hxs.out.1; change x1.length ≤ _ at h; omega
          have HU := Lib.hid (fun w' (h : Chg NoB w w') => tunder_any d x1 w' hd hx1 (ml_keep Hm.out h))
          obtain ⟨u1, hu1⟩ : ∃ u, u = (undL d x1).1 := ⟨_, rfl⟩
          obtain ⟨u2, hu2⟩ : ∃ u, u = (undL d x1).2 := ⟨_, rfl⟩
          rw [← hu1, ← hu2] at Htk HU
          clear hlt' htk hx1 hu1 hu2
          have hal_ := (Chg.refl NoB wr).alloc (.cells #[.string (tx x1), .string (tx x2)] 47)
          have hb_ := heap_alloc_new wr (.cells #[.string (tx x1), .string (tx x2)] 47)
          obtain ⟨fb, hxb_⟩ : ∃ b, b = wr.heap.size := ⟨_, rfl⟩
          obtain ⟨w7, hw_⟩ : ∃ w_, wr.alloc (.cells #[.string (tx x1), .string (tx x2)] 47) = w_ := ⟨_, rfl⟩
          have hz_ : w7.heap.size = fb + 1 := by rw [← hw_, hxb_]; exact alloc_size _ _
          rw [hw_] at hal_ hb_
          rw [← hxb_] at hb_
          have Hw7 := Lib.hid hw_
          have Hx7 := Lib.hid hxb_
          have Ha7 := Lib.hid hal_
          have Hb7 := Lib.hid hb_
          have Hz7 := Lib.hid hz_
          clear hal_ hb_ hxb_ hw_ hz_
          go_upto_region 9 with fail
          rw [Hw7.out, ← Hx7.out]
          clear c0 c1
          obtain ⟨f0, f1⟩ := var2 Hb7.out
          have Hc7 := Lib.hid (Hcw.out.trans Ha7.out)
          go_wp2_with fail
          refine (HU.out _ Hc7.out).mono ?_
          rintro e w8 ⟨hc8, rfl⟩
          have Hg8 := Lib.hid (Ha7.out.trans hc8)
          obtain ⟨g0, g1⟩ := var2 (row_kept hc8 Hb7.out id)
          have hob8 := row_kept Hg8.out Hob.out id
          have Hob8 := Lib.hid hob8
          have o0 := var1 hob8
          clear hc8 f0 f1 hob8
          cases u2 with
          | false =>
            have Htk' : Hid (cutL d (t.take (k + 1)) = acc) := Lib.hid (by rw [Htk.out]; simp)
            go_wp2_with fail
            go_roundw
            case rel => exact ⟨k + 1, .slice lq m lc, by omega, by go_num, Hob8.out, by rw [Htk'.out, ← Hmm.out]; exact ownsRow_chg Hrow.out Hg8.out fun _ _ => id, Hch.out.trans (Hg8.out.mono fun _ _ => False.elim)⟩
            case measure => simp [intOf]; omega
          | true =>
            have Htk' : Hid (cutL d (t.take (k + 1)) = acc ++ [(u1, x2)]) := Lib.hid (by rw [Htk.out, if_pos rfl])
            have HL := Lib.hid (show ∀ j, (Value.slice lq m lc).ownBlock = some j → lo ≤ j from fun j hj => (World.ownsRow.lt Hrow.out j hj).1)
            have hstep : ∀ (wz : World), Chg NoB w8 wz → ∀ (v9 : Value) (w9 : World), w9.ownsRow lo 47 2 v9 (m + 1) (flatP acc ++ [.string (tx u1), .string (tx x2)]) → wz.grownBy w9 (Value.slice lq m lc).ownBlock →
                Hid (w9.ownsRow lo 47 2 v9 (m + 1) (flatP (acc ++ [(u1, x2)]))) ∧ Hid (Chg (fun y => y = ob) w6 w9) ∧ Hid (w9.heap[ob]? = some (.cells #[.slice lq m lc] 27 (0, 0))) ∧ ∃ r9 s9 t9, v9 = .slice r9 s9 t9 := fun wz hcz v9 w9 hown9 hgr9 => by
              have hgc9 : Chg (fun j => (Value.slice lq m lc).ownBlock = some j) wz w9 := (Chg.refl _ _).grown hgr9 fun j hj => .inl hj
              have h69 : Chg (fun j => (Value.slice lq m lc).ownBlock = some j) w8 w9 := (hcz.mono fun _ _ x => x.elim).trans hgc9
              have hch9 : Chg (fun y => y = ob) w6 w9 := by
                have h1 : Chg (fun y => y = ob) w6 w8 := Hch.out.trans (Hg8.out.mono fun _ _ => False.elim)
                refine ⟨h69.os.trans h1.os, h69.tape.trans h1.tape, h69.output.trans h1.output, Nat.le_trans h1.size h69.size, fun y hy hne => ?_⟩
                rw [h69.block y (Nat.lt_of_lt_of_le hy h1.size) fun e => by have := HL.out y e; have := Hlo.out; omega]
                exact h1.block y hy hne
              obtain ⟨r9, s9, e9, -, -⟩ := row_shape hown9
              exact ⟨Lib.hid (by rw [flatP_app]; exact hown9), Lib.hid hch9, Lib.hid (row_kept h69 Hob8.out fun e => by have := HL.out ob e; have := Hord.out; omega), r9, m + 1, s9, e9⟩
            have Hstep := Lib.hid hstep
            have M1 := Lib.hid (show m + 1 ≤ maxLen by unfold maxLen; omega)
            have M2 := Lib.hid (show (m + 1) * 32 ≤ 140737488355328 by omega)
            have halA := (Chg.refl NoB w8).alloc (.cells #[.string (tx u1), .string (tx x2)] 47)
            have HalA := Lib.hid halA
            have HownA := Lib.hid (ownsRow_chg Hrow.out (Hg8.out.trans halA) fun _ _ => id)
            have HloA : Hid (lo ≤ (w8.alloc (.cells #[.string (tx u1), .string (tx x2)] 47)).heap.size) := Lib.hid (by have h1 := Hlo.out; have h2 := Hch.out.size; have h3 := Hg8.out.size; have h4 := halA.size; omega)
            clear hstep halA
            go_wp2_with (at_builtin; refine wpList_append_at _ rfl _ _ 25 rfl lo 47 i0 (.agg #[.string ⟨#[]⟩, .string ⟨#[]⟩]) 2 32 Tryd.underlying25 Hi.out Hz0.out Hzb1.out Hzb2.out rfl (by decide) _ m _ rfl HownA.out _ 1 1 [.string (tx u1), .string (tx x2)] rfl rfl (lit2 _ _ _ _) (one2 _ _) M1.out M2.out HloA.out ?_; intro v11 w11 hown11 hgr11 hpl11; obtain ⟨Hrow11, Hch11, Hob11, r11, s11, t11, e11⟩ := Hstep.out _ HalA.out v11 w11 hown11 hgr11; subst e11; have p5 := var1 Hob11.out; have pf := row_free Hob11.out; clear hown11 hgr11 hpl11)
            go_roundw
            case rel =>
              have hsc : Chg (fun y => y = ob) w11 (w11.setCell ⟨ob, 0, none⟩ (.slice r11 s11 t11)) := (Chg.refl (fun y => y = ob) w11).setCell (p := ⟨ob, 0, none⟩) (.inl rfl) (.slice r11 s11 t11)
              exact ⟨k + 1, .slice r11 s11 t11, by omega, by go_num, heap_set Hob11.out (i := 0) (.slice r11 s11 t11), by rw [Htk'.out, List.length_append, ← Hmm.out]; exact ownsRow_chg Hrow11.out hsc fun j hj e => by have h1 := (World.ownsRow.lt Hrow11.out j hj).1; have h2 : j = ob := e; have := Hord.out; omega, Hch11.out.trans hsc⟩
            case measure => simp [intOf]; omega
        · obtain rfl : k = n := by omega
          have htk : t.take k = t := by rw [Hn.out]; exact List.take_of_length_le (Nat.le_refl _)
          have hal : acc = cutL d t := by rw [Hacc.out, htk]
          have Hal := Lib.hid hal
          have o0 := var1 Hob.out
          have r0 := var1 Hrr.out
          have rf := row_free Hrr.out
          clear htk hal hlt
          go_wp2_with fail
          have e0 := var1 (heap_set Hrr.out (i := 0) (.slice lq m lc))
          have hfin := Hcw.out.setCell (p := ⟨rb, 0, none⟩) (.inr Hwr.out) (.slice lq m lc)
          have hst : Chg (fun y => y = rb) wr (wr.setCell ⟨rb, 0, none⟩ (.slice lq m lc)) := (Chg.refl (fun y => y = rb) wr).setCell (p := ⟨rb, 0, none⟩) (.inl rfl) _
          have hown := ownsRow_chg Hrow.out hst fun y hy e => by have h1 := (World.ownsRow.lt Hrow.out y hy).1; have h2 : y = rb := e; have := Hord.out; omega
          generalize wr.setCell ⟨rb, 0, none⟩ (.slice lq m lc) = wf at *
          refine bodyPost_ret (v := .tuple #[.agg #[.slice lq m lc], .int .i64 0]) (by simp [results, Tryd.results14, go_sem, e0]) rfl ⟨hfin, ?_⟩
          rw [Hres.out]
          refine ⟨_, rfl, ?_⟩
          rw [← Hal.out, ← Hmm.out]
          exact ownsRow_low (by have := Hord.out; omega) hown
end Go.Proofs.YtnbdjficoficcaaDoor
