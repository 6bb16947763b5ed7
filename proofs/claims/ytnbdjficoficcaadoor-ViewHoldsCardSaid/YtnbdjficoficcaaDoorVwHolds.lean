/- Proved: the statement ViewHolds holds for every list of mounts. Conditions: the listed package variables read as the program's text lays them (the card ties them); nothing else. -/
import Derived.Test.YtnbdjficoficcaaDoorVwOutside

namespace Go.Proofs.YtnbdjficoficcaaDoor
set_option linter.unusedVariables false
open Go.ChangeShapes Go.WideShapes Go.ChangeAt Go.RowKit Go.Shelf
open Go.ChangeMaps (open_string shut_string)
attribute [local go_sem] Oper.semAt_some
theorem sumL_le {l : List MntL} {k B : Nat} (h : ∀ m ∈ l, m.2.length ≤ B) : sumL (l.take k) ≤ k * B := by
  induction k with
  | zero => rw [List.take_zero]; simp [sumL]
  | succ k ih =>
    by_cases hk : k < l.length
    · rw [take_at hk, sumL_snoc]
      have := h _ (List.getElem_mem hk)
      rw [Nat.succ_mul]; omega
    · rw [List.take_of_length_le (by omega)] at ih ⊢
      rw [Nat.succ_mul]; omega
theorem outF_none {l : List MntL} {u : List FileL} (h : buildF l = .ok u) : outF (l.map (·.1)) u = [] := by
  unfold outF
  rw [List.map_eq_nil_iff, List.filter_eq_nil_iff]
  intro x hx
  have := (build_out h).1 x hx
  unfold insideF
  rw [List.any_map]
  have e : (l.any ((fun d => (undL d x.1).2) ∘ fun x => x.1)) = true := this
  rw [e]; decide
set_option maxHeartbeats 16000000 in
set_option maxRecDepth 100000 in
theorem viewHolds_all (l : List MntL) (v : Value) (kb ko : Nat) (W : World) (hs : MntS W (OldB W) v l kb ko) (hr : ReachM l) (hml : Pth.Ml W) :
    Calls Tryd.prog 4 #[v] W fun e w' => e = .returned (.bool true) ∧ Chg NoB W w' := by
  have Hs := Lib.hid (fun w' (h : Chg NoB W w') => hs.keep h fun _ _ => id)
  have Hs0 := Lib.hid hs.at'
  obtain ⟨⟨q, c, rfl, h1, h2, h3⟩, -⟩ := hs
  obtain ⟨n, hn⟩ : ∃ n, n = l.length := ⟨_, rfl⟩
  rw [← hn] at Hs h1 ⊢
  have Hn := Lib.hid hn
  have Hr := Lib.hid hr
  have Hml := Lib.hid hml
  have H3 := Lib.hid h3
  unfold maxLen at h2
  clear hn hr hml h3
  have hal_ := (Chg.refl NoB W).alloc (.cells #[.bool false] 4)
  have hb_ := heap_alloc_new W (.cells #[.bool false] 4)
  obtain ⟨rb, hxb_⟩ : ∃ b, b = W.heap.size := ⟨_, rfl⟩
  obtain ⟨w3, hw_⟩ : ∃ w_, W.alloc (.cells #[.bool false] 4) = w_ := ⟨_, rfl⟩
  have hz_ : w3.heap.size = rb + 1 := by rw [← hw_, hxb_]; exact alloc_size _ _
  rw [hw_] at hal_ hb_
  rw [← hxb_] at hb_
  have Hw3 := Lib.hid hw_
  have Hx3 := Lib.hid hxb_
  have Ha3 := Lib.hid hal_
  have Hb3 := Lib.hid hb_
  have Hz3 := Lib.hid hz_
  clear hal_ hb_ hxb_ hw_ hz_
  have Hrb := Lib.hid (show W.heap.size ≤ rb by have := Hx3.out; omega)
  refine (callsIn_wide (n := 4)).1 ?_
  refine callsIn_of_wp_marks Tryd.func4 rfl trivial ?_ rfl
  simp only [Tryd.ntmps4, List.size_toArray, List.length_cons, List.length_nil, Nat.reduceAdd, Nat.reduceSub, Array.replicate_succ, Array.replicate_zero, List.push_toArray, List.append_toArray, List.nil_append, List.cons_append]
  gi_wp2
  rw [Hw3.out, ← Hx3.out]
  refine ⟨trivial, ?_⟩
  refine ((callsIn_wide (n := _)).2 (valive_any w3 (ml_keep Hml.out Ha3.out))).mono ?_
  rintro e w4 ⟨rfl, hc4⟩
  have Hc4 := Lib.hid (Ha3.out.trans hc4)
  have HR4 := Lib.hid (row_kept hc4 Hb3.out id)
  clear hc4
  have Hgr := Lib.hid (vgreat_any l Hr.out _ _ kb ko w4 (Hs.out w4 Hc4.out))
  obtain ⟨g, hg⟩ : ∃ g, g = greatM l := ⟨_, rfl⟩
  rw [← hg] at Hgr
  have Hg := Lib.hid hg
  clear hg
  gi_wp2
  refine ⟨trivial, ?_⟩
  refine ((callsIn_wide (n := _)).2 Hgr.out).mono ?_
  rintro e w5 ⟨rfl, hc5⟩
  have Hc5 := Lib.hid (Hc4.out.trans hc5)
  have HR5 := Lib.hid (row_kept hc5 HR4.out id)
  clear hc5 Hgr
  cases g with
  | true =>
    have r0 := var1 HR5.out
    have rf := row_free HR5.out 0
    gi_wp2
    have e0 := var1 (heap_set HR5.out (i := 0) (.bool true))
    have hfin := Hc5.out.setCell (p := ⟨rb, 0, none⟩) (.inr Hrb.out) (.bool true)
    generalize w5.setCell ⟨rb, 0, none⟩ (.bool true) = wf at *
    exact ⟨.bool true, by simp [results, Tryd.f4, go_sem, e0], rfl, hfin⟩
  | false =>
  have hsm := small_w Hg.out.symm
  have hsz := great_small Hg.out.symm
  have hn40 : n ≤ 40 := by rw [Hn.out]; exact hsz.1
  have hgd := build_good l
  have hgw := good_w hgd
  have HA := Lib.hid (vbuild_any l hsm.1 hsm.2 _ _ kb ko w5 (ml_keep Hml.out Hc5.out) (Hs.out w5 Hc5.out))
  obtain ⟨r, hr⟩ : ∃ r, r = buildF l := ⟨_, rfl⟩
  rw [← hr] at HA hgw hgd
  have Hr1 := Lib.hid hr
  obtain ⟨yy, hyy⟩ : ∃ yy, yy = outE r := ⟨_, rfl⟩
  rw [← hyy] at HA
  have Hyy := Lib.hid hyy
  have Hsz := Lib.hid hsz.2
  have Hsm := Lib.hid hsm.2
  have Hgw := Lib.hid hgw
  have Hgd := Lib.hid hgd
  clear hsm hsz hgd hgw hr hyy
  gi_wp2
  refine ⟨trivial, ?_⟩
  refine ((callsIn_wide (n := _)).2 HA.out).mono ?_
  rintro e w6 ⟨hc6, q6, n6, c6, kb6, ko6, hn6, rfl, hs6⟩
  have Hn6 := Lib.hid hn6
  have Hs6 := Lib.hid (fun w' (h : Chg NoB w6 w') => hs6.keep h fun _ _ => id)
  have Hc6 := Lib.hid (Hc5.out.trans hc6)
  have HR6 := Lib.hid (row_kept hc6 HR5.out id)
  have Hl6 := Lib.hid hc6.size
  clear hn6 hs6 hc6
  have hal_ := (Chg.refl NoB w6).alloc (.cells #[.slice q6 n6 c6] 27)
  have hb_ := heap_alloc_new w6 (.cells #[.slice q6 n6 c6] 27)
  obtain ⟨tb, hxb_⟩ : ∃ b, b = w6.heap.size := ⟨_, rfl⟩
  obtain ⟨w7, hw_⟩ : ∃ w_, w6.alloc (.cells #[.slice q6 n6 c6] 27) = w_ := ⟨_, rfl⟩
  have hz_ : w7.heap.size = tb + 1 := by rw [← hw_, hxb_]; exact alloc_size _ _
  rw [hw_] at hal_ hb_
  rw [← hxb_] at hb_
  have Hw7 := Lib.hid hw_
  have Hx7 := Lib.hid hxb_
  have Ha7 := Lib.hid hal_
  have Hb7 := Lib.hid hb_
  have Hz7 := Lib.hid hz_
  clear hal_ hb_ hxb_ hw_ hz_
  have Hc7 := Lib.hid (Hc6.out.trans Ha7.out)
  have HR7 := Lib.hid (row_kept Ha7.out HR6.out id)
  cases r with
  | error y =>
    obtain rfl : yy = y := Hyy.out
    have hy : (yy == 0) = false := by rw [beq_eq_false_iff_ne]; exact build_err Hr1.out.symm
    have hy2 : (yy != 0) = true := by simp [bne, hy]
    have r0 := (Chg.refl NoB w6).alloc (.cells #[.slice q6 n6 c6] 27) |>.keep (var1 HR6.out)
    have rf : (w6.alloc (.cells #[.slice q6 n6 c6] 27)).frozen? ⟨rb, 0, none⟩ = false := by rw [Hw7.out]; exact row_free HR7.out 0
    gi_wp2
    rw [Hw7.out]
    have e0 := var1 (heap_set HR7.out (i := 0) (.bool true))
    have hfin := Hc7.out.setCell (p := ⟨rb, 0, none⟩) (.inr Hrb.out) (.bool true)
    generalize w7.setCell ⟨rb, 0, none⟩ (.bool true) = wf at *
    exact ⟨.bool true, by simp [results, Tryd.f4, go_sem, e0], rfl, hfin⟩
  | ok u =>
    obtain rfl : yy = 0 := Hyy.out
    change Hid (u.length ≤ 1048576 ∧ _) at Hgw
    change Hid (goodF u = true) at Hgd
    change Hid (n6 = u.length) at Hn6
    change Hid (∀ w', _ → InpS w' _ _ u _ _) at Hs6
    have Hcut := Lib.hid (fun m (hm : m ∈ l) => build_cut Hr1.out.symm hm)
    have Hout := Lib.hid (outF_none Hr1.out.symm)
    have Hcnt := Lib.hid (show n6 = sumL l by rw [Hn6.out]; exact (build_out Hr1.out.symm).2)
    obtain ⟨i0, hi, hz0, hz1, hz2⟩ := info_parts stringInfo
    have Hi := Lib.hid hi
    have Hz0 := Lib.hid hz0
    have Hzb1 := Lib.hid hz1
    have Hzb2 := Lib.hid hz2
    clear hi hz0 hz1 hz2 HA
    gi_wp2
    rw [Hw7.out, ← Hx7.out]
    gi_loopw [5, 6, 24] (fun dv nv i wr => ∃ (k s : Nat), k ≤ n ∧ i = .int .i64 k ∧ nv = .int .i64 s ∧ s = sumL (l.take k) ∧ wr.ownsRow w7.heap.size 9 1 dv k (txV ((l.take k).map (·.1))) ∧ Chg NoB w7 wr) (fun _ _ i _ => n - (intOf i).toNat)
    case atStart => exact ⟨0, 0, Nat.zero_le _, rfl, rfl, by rw [List.take_zero]; rfl, by rw [List.take_zero]; exact World.ownsRow_nil _ _ _ _, Chg.refl _ _⟩
    case round =>
      obtain ⟨k, s, hk, rfl, rfl, hsum, hrow, hcw⟩ := hrel
      obtain ⟨lq, lc, rfl, -, -⟩ := row_shape hrow
      have Hrow := Lib.hid hrow
      have Hcw := Lib.hid hcw
      have Hcc := Lib.hid (Hc7.out.trans hcw)
      have hsb : s ≤ k * 131072 := by rw [hsum]; exact sumL_le fun m hm => (Hsz.out m hm).2.1
      have hsb2 : k * 131072 ≤ 40 * 131072 := Nat.mul_le_mul_right _ (by omega)
      have Hsum := Lib.hid hsum
      have HTw := Lib.hid (row_kept hcw Hb7.out id)
      have HRw := Lib.hid (row_kept hcw HR7.out id)
      clear hrow hcw hsum
      by_cases hlt : k < n
      · have hlt' : k < l.length := by rw [← Hn.out]; exact hlt
        obtain ⟨rfl, -⟩ := H3.out (by intro e; rw [e] at hlt'; simp at hlt')
        obtain ⟨hc0, q', n', c', jb, jo, hn', hc1, hsx⟩ := Hs0.out k hlt'
        have hc0 := Hcc.out.keep hc0
        have hc1 := Hcc.out.keep hc1
        have Htk := Lib.hid (take_at hlt')
        have Hxm := Lib.hid (List.getElem_mem hlt')
        generalize l[k] = x at *
        obtain ⟨x1, x2⟩ := x
        simp only at hc0 hn'
        change InpS W _ _ x2 _ _ at hsx
        have hxs := Hsz.out _ Hxm.out
        change x1.length ≤ _ ∧ x2.length ≤ _ ∧ _ at hxs
        have hxn : n' ≤ 131072 := by rw [hn']; exact hxs.2.1
        have Hxs := Lib.hid hxs
        have Hn' := Lib.hid hn'
        have Hsx := Lib.hid (fun w' (h : Chg NoB W w') => hsx.keep h fun _ _ => id)
        clear hlt' hn' hsx hxs
        have hal_ := (Chg.refl NoB wr).alloc (.cells #[.string (tx x1), .slice q' n' c'] 35)
        have hb_ := heap_alloc_new wr (.cells #[.string (tx x1), .slice q' n' c'] 35)
        obtain ⟨mb, hxb_⟩ : ∃ b, b = wr.heap.size := ⟨_, rfl⟩
        obtain ⟨w8, hw_⟩ : ∃ w_, wr.alloc (.cells #[.string (tx x1), .slice q' n' c'] 35) = w_ := ⟨_, rfl⟩
        have hz_ : w8.heap.size = mb + 1 := by rw [← hw_, hxb_]; exact alloc_size _ _
        rw [hw_] at hal_ hb_
        rw [← hxb_] at hb_
        have Hw8 := Lib.hid hw_
        have Hx8 := Lib.hid hxb_
        have Ha8 := Lib.hid hal_
        have Hb8 := Lib.hid hb_
        have Hz8 := Lib.hid hz_
        clear hal_ hb_ hxb_ hw_ hz_
        have hal_ := (Chg.refl NoB w8).alloc (.cells #[.string (tx x1)] 9)
        have hb_ := heap_alloc_new w8 (.cells #[.string (tx x1)] 9)
        obtain ⟨sb, hxb_⟩ : ∃ b, b = w8.heap.size := ⟨_, rfl⟩
        obtain ⟨w9, hw_⟩ : ∃ w_, w8.alloc (.cells #[.string (tx x1)] 9) = w_ := ⟨_, rfl⟩
        have hz_ : w9.heap.size = sb + 1 := by rw [← hw_, hxb_]; exact alloc_size _ _
        rw [hw_] at hal_ hb_
        rw [← hxb_] at hb_
        have Hw9 := Lib.hid hw_
        have Hx9 := Lib.hid hxb_
        have Ha9 := Lib.hid hal_
        have Hb9 := Lib.hid hb_
        have Hz9 := Lib.hid hz_
        clear hal_ hb_ hxb_ hw_ hz_
        have Hx89 := Lib.hid (show mb + 1 = sb by rw [Hx9.out, Hz8.out])
        have HownA := Lib.hid (ownsRow_chg Hrow.out (Ha8.out.trans Ha9.out) fun _ _ => id)
        have HcA := Lib.hid (Hcw.out.trans (Ha8.out.trans Ha9.out))
        have M1 := Lib.hid (show k + 1 ≤ maxLen by unfold maxLen; omega)
        have M2 := Lib.hid (show (k + 1) * 16 ≤ 140737488355328 by omega)
        have HloA := Lib.hid (show w7.heap.size ≤ w9.heap.size from HcA.out.size)
        have Hlit := Lib.hid (show ∀ (i : Nat) (u : Value), [Value.string (tx x1)][i]? = some u → w9.cell? ((⟨sb, 0, none⟩ : Addr).add i) = some u from fun i u hi => by
          match i, hi with
          | 0, hi => cases hi; rw [add_zero_off]; exact var1 Hb9.out)
        have H1c := Lib.hid (txV_one [x1])
        have Hsb := Lib.hid (show s ≤ 5242880 by omega)
        clear hsb hsb2
        gi_wp2_with (gi_at_builtin; rw [Hw8.out, Hw9.out, ← Hx8.out, Hx89.out]; refine wpListIn_append_own _ rfl _ _ 33 rfl w7.heap.size 9 i0 (.string ⟨#[]⟩) 1 16 Tryd.underlying33 Hi.out Hz0.out Hzb1.out Hzb2.out rfl (by decide) _ k _ rfl HownA.out _ 1 1 [.string (tx x1)] rfl rfl Hlit.out H1c.out M1.out M2.out HloA.out ?_; intro vA wA hownA hgrA _; have hgc : Chg (fun j => (Value.slice lq k lc).ownBlock = some j) w9 wA := (Chg.refl _ _).grown hgrA fun j hj => .inl hj; have HmA := Lib.hid (row_kept hgc (row_kept Ha9.out Hb8.out id) (fun e => by have := (World.ownsRow.lt Hrow.out mb e).2; have := Hx8.out; omega)); have HTA := Lib.hid (row_kept hgc (row_kept (Ha8.out.trans Ha9.out) HTw.out id) (fun e => by have := (World.ownsRow.lt Hrow.out tb e).1; have := Hz7.out; omega)); have HRA := Lib.hid (row_kept hgc (row_kept (Ha8.out.trans Ha9.out) HRw.out id) (fun e => by have := (World.ownsRow.lt Hrow.out rb e).1; have := lt_of_block HR7.out; omega)); have HcA7 := Lib.hid (HcA.out.grown hgrA fun j hj => .inr (World.ownsRow.lt HownA.out j hj).1); have HowA := Lib.hid hownA; have hs2 := Hsb.out; obtain ⟨m0, m1⟩ := var2 HmA.out; have t0 := var1 HTA.out; clear hgc hownA hgrA)
        have hcc := Hc7.out.trans HcA7.out
        have hcu := (tcut_any u x1 Hgw.out.1 Hgw.out.2 (by have := Hxs.out.1; omega) _ _ _ _ wA (ml_keep Hml.out hcc) (Hs6.out wA (Ha7.out.trans HcA7.out)))
        rw [Hcut.out _ Hxm.out] at hcu
        have Hcu := Lib.hid hcu
        clear hcu hcc
        refine ⟨trivial, ?_⟩
        refine ((callsIn_wide (n := _)).2 Hcu.out).mono ?_
        intro e wB hpB
        obtain ⟨hcB, qB, nB, cB, kbB, koB, hnB, rfl, hsB⟩ := hpB.out
        change InpS wB _ _ x2 _ _ at hsB
        have HsB := Lib.hid hsB
        have HmB := Lib.hid (row_kept hcB HmA.out id)
        have HTB := Lib.hid (row_kept hcB HTA.out id)
        have HRB := Lib.hid (row_kept hcB HRA.out id)
        have HcB := Lib.hid (HcA7.out.trans hcB)
        have HoB := Lib.hid (ownsRow_chg HowA.out hcB fun _ _ => id)
        clear hcB hsB hpB hnB m0 m1 t0 hs2 Hcu
        have hal_ := (Chg.refl NoB wB).alloc (.cells #[.slice qB nB cB] 27)
        have hb_ := heap_alloc_new wB (.cells #[.slice qB nB cB] 27)
        obtain ⟨xb, hxb_⟩ : ∃ b, b = wB.heap.size := ⟨_, rfl⟩
        obtain ⟨wC, hw_⟩ : ∃ w_, wB.alloc (.cells #[.slice qB nB cB] 27) = w_ := ⟨_, rfl⟩
        have hz_ : wC.heap.size = xb + 1 := by rw [← hw_, hxb_]; exact alloc_size _ _
        rw [hw_] at hal_ hb_
        rw [← hxb_] at hb_
        have HwC := Lib.hid hw_
        have HxC := Lib.hid hxb_
        have HaC := Lib.hid hal_
        have HbC := Lib.hid hb_
        have HzC := Lib.hid hz_
        clear hal_ hb_ hxb_ hw_ hz_
        have HmC := Lib.hid (row_kept HaC.out HmB.out id)
        have HTC := Lib.hid (row_kept HaC.out HTB.out id)
        have HRC := Lib.hid (row_kept HaC.out HRB.out id)
        have HcC := Lib.hid (HcB.out.trans HaC.out)
        have HoC := Lib.hid (ownsRow_chg HoB.out HaC.out fun _ _ => id)
        have hSm := rsame_any x2 x2 _ _ _ _ _ _ _ _ wC (by have := Hxs.out.2.1; omega) (by have := Hxs.out.2.1; omega) (HsB.out.keep HaC.out fun _ _ => id) (Hsx.out wC (Hc7.out.trans HcC.out))
        rw [decide_eq_true rfl] at hSm
        have HSm := Lib.hid hSm
        clear hSm
        have m1 : (wB.alloc (.cells #[.slice qB nB cB] 27)).cell? ⟨mb, 1, none⟩ = some (.slice q' n' c') := by rw [HwC.out]; exact (var2 HmC.out).2
        gi_wp2
        rw [HwC.out, ← HxC.out]
        clear m1
        refine ⟨trivial, ?_⟩
        refine ((callsIn_wide (n := _)).2 HSm.out).mono ?_
        rintro e wD ⟨rfl, hcD⟩
        have HcD := Lib.hid (HcC.out.trans hcD)
        have HoD := Lib.hid (ownsRow_chg HoC.out hcD fun _ _ => id)
        clear hcD
        gi_wp2
        go_roundw
        case rel => exact ⟨k + 1, s + n', by omega, by go_num, by go_num, by rw [Htk.out, sumL_snoc, ← Hsum.out, Hn'.out], by rw [Htk.out, List.map_append, List.map_cons, List.map_nil, txV_snoc]; exact HoD.out, HcD.out⟩
        case measure => simp [intOf]; omega
      · obtain rfl : n = k := by omega
        have hds : (l.take n).map (·.1) = l.map (·.1) := by rw [Hn.out, List.take_of_length_le (Nat.le_refl _)]
        have hs2 : s = n6 := by have h := Hsum.out; rw [Hn.out, List.take_of_length_le (Nat.le_refl _)] at h; rw [h, Hcnt.out]
        subst hs2
        rw [hds] at Hrow
        have hrw := Hrow.out
        rw [show n = (l.map (·.1)).length by rw [List.length_map, Hn.out]] at hrw
        obtain ⟨pb0, hts⟩ := TxtS.of_row hrw
        rw [List.length_map, ← Hn.out] at hts
        have hdsl : (l.map (·.1)).length ≤ 1048576 := by rw [List.length_map, ← Hn.out]; omega
        have hdw : ∀ d ∈ l.map (·.1), d.length ≤ 262144 := fun d hd => by
          obtain ⟨m, hm, rfl⟩ := List.mem_map.1 hd
          exact (Hsm.out m hm).1
        have hQ := outside_new u Hgw.out.1 (l.map (·.1)) hdsl _ _ kb6 ko6 _ _ pb0 0 wr (Hs6.out wr (Ha7.out.trans Hcw.out)) hts
        have HQ := Lib.hid hQ
        have Hdsl := Lib.hid hdsl
        have Hdw := Lib.hid hdw
        have t0 := var1 HTw.out
        clear hQ hdsl hdw hts hrw hds hlt hk hsb hsb2
        gi_wp2
        refine ⟨trivial, ?_⟩
        refine ((callsIn_wide (n := _)).2 HQ.out).mono ?_
        rintro e wC ⟨hcC, fb, pb, fv, pv, nb, mb', rfl, hfl, hpl, hfc, hpc, hns, hms⟩
        have HcC := Lib.hid (Hcc.out.trans hcC)
        have HTC := Lib.hid (row_kept hcC HTw.out id)
        have HRC := Lib.hid (row_kept hcC HRw.out id)
        have hrbl := lt_of_block HRw.out
        have hszC := hcC.size
        have Hszw := Lib.hid (And.intro hrbl hszC)
        obtain ⟨ml, hmlc⟩ := ml_keep Hml.out HcC.out
        have Hg0 := Lib.hid (cell_lt Hml.out.choose_spec)
        have hul : ∀ x ∈ u, x.1.length ≤ 131072 := fun x hx => by have := (good_sizes Hgd.out).2 x hx; omega
        have hseq := outside1_stops (4 - 1) fb pb (fun k => k = rb) (NewB wr wC) u (l.map (·.1)) Hgw.out.1 hul Hdsl.out Hdw.out fv pv nb 0 mb' 0 wC
          (fun k hk x => by have h1 : wr.heap.size ≤ k := hk.1; have h2 : k = rb := x; omega) (fun x => by have h2 : fb = rb := x; omega) (fun x => by have h2 : pb = rb := x; omega)
          (fun W' h => ⟨ml, h.cell hmlc fun x => by have h1 := Hg0.out; change _ < _ at h1; have h2 : _ = rb := x; have := Hrb.out; change _ = rb at h2; omega⟩) hfc hpc hns hms
        rw [Hout.out] at hseq
        have Hseq := Lib.hid hseq
        clear hcC hfl hpl hfc hpc hns hms HQ hmlc hseq hul hrbl hszC t0
        gi_wp2
        refine wpIn_rangeFunc_ownF (α := List UInt8) rfl (by decide) (gf := 32) (lb := #[.pointer (some ⟨fb, 0, none⟩), .pointer (some ⟨pb, 0, none⟩)]) rfl trivial (enters_of Tryd.func32 (by kernel_rfl) rfl)
          Hseq.out KeepT.trans (fun W l o o' _ h hc _ => KeepT.putObj W l o o' h hc) (Below.refl _ _) (fun _ => rfl)
          (fun pre V => Chg (fun k => k = rb) wC V ∧ Boxed V rb 4 (.bool false))
          (fun co pre V => False)
          (fun s A B row hs hg hr => ⟨hs.1.grown hg fun k e => .inr (hr k e).1, hs.2.kept hg fun e => by have := (hr _ e.symm).1; have := Hszw.out; omega⟩)
          (fun co s A B row hs hg hr => hs)
          ⟨Chg.refl _ _, HRC.out⟩
          (fun x => { tmps := #[.slice q n c, undef, .pointer (some ⟨rb, 0, none⟩), .pointer (some ⟨tb, 0, none⟩), .int .i64 0, .slice lq n lc, .int .i64 ↑s, undef, u8, u9, u10, .bool true, .bool false, .slice q n c, .bool false, .tuple #[.agg #[.slice q6 s c6], .int .i64 0], .slice q n c, .tuple #[.agg #[.slice q6 s c6], .int .i64 0], .agg #[.slice q6 s c6], .int .i64 0, .int .i64 0, .bool false, .slice q n c, .int .i64 ↑n, .int .i64 ↑n, .bool false, u26, u27, u28, u29, u30, u31, u32, u33, u34, u35, u36, u37, u38, u39, u40, u41, u42, u43, u44, u45, u46, u47, u48, u49, u50, u51, u52, u53, u54, u55, .agg #[.slice q6 s c6], .slice lq n lc, .func (.func 32) #[] #[.pointer (some ⟨fb, 0, none⟩), .pointer (some ⟨pb, 0, none⟩)], .string (tx x), undef, undef, undef, undef, undef], defers := [] }) ?assign ?body ?done ?stop
        case assign =>
          intro l' x V K hK
          gi_wp2
          exact hK
        case body =>
          rintro l' pre x V - hlen
          exact absurd hlen (by simp)
        case done =>
          rintro D' ys V hD rfl ⟨hch, hres⟩ hK
          have t0 := var1 (row_kept hch HTC.out (by have := Hx7.out; have := lt_of_block HR6.out; show ¬ tb = rb; omega))
          have r0 := hres.cell
          have r1 := hres.frozen
          have HE := Lib.hid (reads_fin (r := true) (ib := rb) HcC.out Hrb.out (hch.mono fun k _ h => .inl h) hres hK hD (by have := Hrb.out; omega))
          clear hch hres hK
          gi_wp2
          refine ⟨by simp, .inl ⟨_, _, rfl, run_takeDeferred (HE.out.1), ?_⟩⟩
          have hc6 := HE.out.2.1
          refine ⟨.bool true, ?_, rfl, HE.out.2.2⟩
          simp [results, Tryd.f4, go_sem, hc6]
        case stop =>
          rintro D' co pre V hD hpre hx hK
          exact hx.elim
/-FRAME-/
set_option maxRecDepth 100000 in
theorem viewHolds_lifted (os : Os) (started : os.Started) (H : Type) (enc : TypeId × Value → H) :
    ReturnsInHanded {} Tryd.checked os 4 .any (fun w args => (Rows.viewHoldsSpec.pre enc Tryd.prog Tryd.f4 [] false w args ∧ laidMetH Tryd.prog Rows.viewHoldsRow.laid w) ∧ sizedMet enc Tryd.prog Tryd.f4 (OpenSpec.ofChange Rows.viewHoldsSpec) false w args)
      (Rows.viewHoldsSpec.post enc Tryd.prog Tryd.f4 false true false false) := by
  refine returns_both (C := Tryd.checked) (X := fun w _ => laidMetH Tryd.prog Rows.viewHoldsRow.laid w) (fun _ _ _ hh h => h.of_heap hh) Tryd.own started (by kernel_rfl) Tryd.func4
    (ChangeSpec.witness_shaped (enc := enc) (C := Tryd.checked) (os := os) (X := fun w _ => laidMetH Tryd.prog Rows.viewHoldsRow.laid w) false (World.laidAll Tryd.prog os Rows.viewHoldsRow.laid) #[.slice none 0 0] 8 (World.laidAll_os _ _ _)
      (World.shaped_of_ZipB (by kernel_rfl) (by kernel_rfl)) (by kernel_rfl) (by kernel_rfl) (by kernel_rfl)
      (by rw [MakeChecks.laidMetH_plain _ _ _ (by kernel_rfl)]; exact laidMet_laidAll _ (by kernel_rfl) (by kernel_rfl))) ?_
  intro W base args ds gs before hval0 hW _ hsz hL hsh _
  have hval : ∀ (j : Nat) t v, Tryd.f4.params[j]? = some t → args[j]? = some v → Value.okWide Tryd.prog W .any base t v := hval0
  have hW' := hW
  obtain ⟨p, q, hA0, hV, rfl, _, _⟩ := hW
  have hA : DataW.TrodAll enc Tryd.prog W 0 (fun _ => true) true Tryd.f4.params.toList args.toList ds p := hA0
  have hsz1 : (DataW.weightsEach Tryd.prog (Tryd.f4.params.toList ++ Rows.viewHoldsSpec.plain.varTypes Tryd.prog) (ds ++ gs)).all (· ≤ reachBytes) = true := hsz
  rw [Tryd.params4] at hA hval hsz1
  obtain ⟨v0, d0, rfl, rfl, h0⟩ := trodAll_one hA
  obtain ⟨rfl, rfl⟩ := trodVars_none hV
  obtain ⟨l0, kb0, ko0, hn0, hr0⟩ := open_mounts (hval 0 22 v0 rfl rfl) h0 (fun m hm => of_decide_eq_true (List.all_eq_true.1 hsz1 m (DataW.weights_mem_each (j := 0) (t := 22) (d := d0) rfl rfl m hm)))
  simp only [List.append_nil] at hW'
  rw [MakeChecks.laidMetH_plain _ _ _ (by kernel_rfl)] at hL
  have hml : Pth.Ml W := wml_of hsh
  clear hA0 hval0
  refine (viewHolds_all l0 _ kb0 ko0 W hn0 hr0 hml).mono fun e W' ⟨he, hb⟩ => ?_
  subst he
  exact ⟨_, rfl, _, _, _, [], _, [], hW', trodAll_mk1 (shut_bool Tryd.underlying4 _), (trodAll_cons_mk (mounts_stay h0 hb.below) trodAll_mk0), rfl, hb.below.frame _, fun h => by cases h⟩
theorem viewHolds_holds : Rows.ViewHoldsSaid :=
  OpenClaim.holds_of_wide 4 Tryd.f4 rfl rfl rfl rfl rfl rfl rfl ⟨rfl, rfl, rfl, rfl, rfl⟩ rfl rfl rfl rfl rfl (by kernel_rfl) Tryd.func4 (by kernel_rfl)
    (of_decide_eq_true (by kernel_rfl)) (by unfold Func.isWrapper; first | (rw [if_pos (by decide +kernel)]; kernel_rfl) | (rw [if_neg (by decide +kernel)]; exact ⟨rfl, rfl⟩))
    (fun os started H enc _ => viewHolds_lifted os started H enc)
theorem viewHolds_card : Rows.ViewHoldsCardSaid :=
  Claim7.holds_tied_plain_at .later [] [.data, .pinned] true (true, "86869f4e0d2b7613ef962574d9f579f063d7be76b275564b7df8f38d61515bd3") false viewHolds_holds (fun _ h => by cases h) (by kernel_rfl) (fun _ h => by cases h) viewHolds_row_tie rfl ⟨rfl, rfl⟩ (by kernel_rfl) rfl
    (fun f fn hf hfn => by
      obtain rfl : f = 4 := Option.some.inj ((show Tryd.prog.funcNamed "sapling/saplinglaw11.ViewHolds" = some 4 by kernel_rfl).symm.trans hf) |>.symm
      obtain rfl : fn = Tryd.f4 := (Option.some.inj (Tryd.func4.symm.trans hfn)).symm
      exact ⟨by kernel_rfl, fun j t ht => by
        rw [Tryd.params4] at ht
        have hm : t ∈ [22] := by simpa using Array.mem_of_getElem? ht
        have hall : ([22].all fun u => !Tryd.prog.wantsStandIn u) = true := by kernel_rfl
        exact (show Tryd.prog.wantsStandIn t = false by simpa using List.all_eq_true.1 hall t hm)⟩)
    (by kernel_rfl)
#print axioms viewHolds_card
end Go.Proofs.YtnbdjficoficcaaDoor
