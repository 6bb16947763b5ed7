/- Proved: the statement ViewOutside holds for every tree, list of places and number. Conditions: the listed package variables read as the program's text lays them (the card ties them); nothing else. -/
import Derived.Test.YtnbdjficoficcaaDoorVwOne
import Derived.Test.YtnbdjficoficcaaDoorVwIter

namespace Go.Proofs.YtnbdjficoficcaaDoor
set_option linter.unusedVariables false
open Go.ChangeShapes Go.WideShapes Go.ChangeAt Go.RowKit Go.Shelf
open Go.ChangeMaps (open_string shut_string)
attribute [local go_sem] Oper.semAt_some
theorem cell_lt {w : World} {p : Addr} {u : Value} (h : w.cell? p = some u) : p.block < w.heap.size := by
  unfold World.cell? at h
  split at h
  · rename_i e; exact (Array.getElem?_eq_some_iff.1 e).1
  · cases h
theorem reads_fin {W wC V : World} {rb ib D : Nat} {r : Bool} (h : Chg NoB W wC) (hrb : W.heap.size ≤ rb) (hch : Chg (fun k => k = rb ∨ k = ib) wC V) (hres : Boxed V rb 4 (.bool false)) (hK : V.heap[D]? = some (.deferred (some []))) (hD : wC.heap.size ≤ D) (hib : W.heap.size ≤ ib := by omega) :
    (V.setCell ⟨rb, 0, none⟩ (.bool r)).heap[D]? = some (.deferred (some [])) ∧ ((V.setCell ⟨rb, 0, none⟩ (.bool r)).putObj D (.deferred none)).cell? ⟨rb, 0, none⟩ = some (.bool r) ∧ Chg NoB W ((V.setCell ⟨rb, 0, none⟩ (.bool r)).putObj D (.deferred none)) := by
  have hK' := (KeepsOthers.setCell V ⟨rb, 0, none⟩ (.bool r)).same D _ hK rfl
  have hr := (hres.set (.bool r)).cell
  have hV : Chg NoB W (V.setCell ⟨rb, 0, none⟩ (.bool r)) := (h.above hch fun k hk => by rcases hk with rfl | rfl <;> omega).setCell (p := ⟨rb, 0, none⟩) (.inr hrb) (.bool r)
  have hg := grownBy_putObj' (V.setCell ⟨rb, 0, none⟩ (.bool r)) D (.deferred none)
  exact ⟨hK', cell_kept hr hg (fun r e => by cases e; exact ⟨_, hK', rfl⟩), hV.grown hg fun k e => .inr (by cases e; have := h.size; omega)⟩
set_option maxHeartbeats 16000000 in
set_option maxRecDepth 100000 in
theorem viewOutside_all (l : List FileL) (v : Value) (kb ko : Nat) (ds : List (List UInt8)) (v2 : Value) (jb jo : Nat) (most : Int) (W : World) (hs : InpS W (OldB W) v l kb ko) (hr : Reach l) (hs2 : TxtS W (OldB W) v2 ds jb jo) (hr2 : ds.length ≤ 140737488351232 ∧ ∀ t ∈ ds, t.length ≤ 140737488351232) (wm : (Lit.int .i64 most).wf = true) (hml : Pth.Ml W) :
    Calls Tryd.prog 6 #[.agg #[v], v2, .int .i64 most] W fun e w' => e = .returned (.bool true) ∧ Chg NoB W w' := by
  have Hs := Lib.hid (fun w' (h : Chg NoB W w') => hs.keep h fun _ _ => id)
  have Hs2 := Lib.hid (fun w' (h : Chg NoB W w') => hs2.keep h fun _ _ => id)
  obtain ⟨⟨q, c, rfl, -, -, -⟩, -⟩ := hs
  obtain ⟨⟨q2, c2, rfl, d1, d2, d3⟩, -⟩ := hs2
  obtain ⟨n, hn⟩ : ∃ n, n = l.length := ⟨_, rfl⟩
  rw [← hn] at Hs ⊢
  obtain ⟨n2, hn2⟩ : ∃ n, n = ds.length := ⟨_, rfl⟩
  rw [← hn2] at Hs2 d1 hr2 ⊢
  have Hn := Lib.hid hn
  have Hn2 := Lib.hid hn2
  have Hr := Lib.hid hr
  have Hr2 := Lib.hid hr2.2
  have hn2b := hr2.1
  have D3 := Lib.hid d3
  have Hml := Lib.hid hml
  unfold maxLen at d2
  clear hn hr hml wm hn2 hr2 d3
  have hal_ := (Chg.refl NoB W).alloc (.cells #[.slice q n c] 27)
  have hb_ := heap_alloc_new W (.cells #[.slice q n c] 27)
  obtain ⟨tb, hxb_⟩ : ∃ b, b = W.heap.size := ⟨_, rfl⟩
  obtain ⟨w1, hw_⟩ : ∃ w_, W.alloc (.cells #[.slice q n c] 27) = w_ := ⟨_, rfl⟩
  have hz_ : w1.heap.size = tb + 1 := by rw [← hw_, hxb_]; exact alloc_size _ _
  rw [hw_] at hal_ hb_
  rw [← hxb_] at hb_
  have Hw1 := Lib.hid hw_
  have Hx1 := Lib.hid hxb_
  have Ha1 := Lib.hid hal_
  have Hb1 := Lib.hid hb_
  have Hz1 := Lib.hid hz_
  clear hal_ hb_ hxb_ hw_ hz_
  have hal_ := (Chg.refl NoB w1).alloc (.cells #[.int .i64 most] 3)
  have hb_ := heap_alloc_new w1 (.cells #[.int .i64 most] 3)
  obtain ⟨mb, hxb_⟩ : ∃ b, b = w1.heap.size := ⟨_, rfl⟩
  obtain ⟨w2, hw_⟩ : ∃ w_, w1.alloc (.cells #[.int .i64 most] 3) = w_ := ⟨_, rfl⟩
  have hz_ : w2.heap.size = mb + 1 := by rw [← hw_, hxb_]; exact alloc_size _ _
  rw [hw_] at hal_ hb_
  rw [← hxb_] at hb_
  have Hw2 := Lib.hid hw_
  have Hx2 := Lib.hid hxb_
  have Ha2 := Lib.hid hal_
  have Hb2 := Lib.hid hb_
  have Hz2 := Lib.hid hz_
  clear hal_ hb_ hxb_ hw_ hz_
  have hal_ := (Chg.refl NoB w2).alloc (.cells #[.bool false] 4)
  have hb_ := heap_alloc_new w2 (.cells #[.bool false] 4)
  obtain ⟨rb, hxb_⟩ : ∃ b, b = w2.heap.size := ⟨_, rfl⟩
  obtain ⟨w3, hw_⟩ : ∃ w_, w2.alloc (.cells #[.bool false] 4) = w_ := ⟨_, rfl⟩
  have hz_ : w3.heap.size = rb + 1 := by rw [← hw_, hxb_]; exact alloc_size _ _
  rw [hw_] at hal_ hb_
  rw [← hxb_] at hb_
  have Hw3 := Lib.hid hw_
  have Hx3 := Lib.hid hxb_
  have Ha3 := Lib.hid hal_
  have Hb3 := Lib.hid hb_
  have Hz3 := Lib.hid hz_
  clear hal_ hb_ hxb_ hw_ hz_
  have hx2 : tb + 1 = mb := by rw [Hx2.out, Hz1.out]
  have hx3 : mb + 1 = rb := by rw [Hx3.out, Hz2.out]
  have Hc3 := Lib.hid (Ha1.out.trans (Ha2.out.trans Ha3.out))
  have HT3 := Lib.hid (row_kept (Ha2.out.trans Ha3.out) Hb1.out id)
  have HM3 := Lib.hid (row_kept Ha3.out Hb2.out id)
  have HR3 := Lib.hid Hb3.out
  have Hlt := Lib.hid (show W.heap.size ≤ tb ∧ tb < mb ∧ mb < rb ∧ rb < w3.heap.size by have := Hx1.out; have := Hz1.out; have := Hx2.out; have := Hz2.out; have := Hx3.out; have := Hz3.out; omega)
  have Hrb := Lib.hid (show W.heap.size ≤ rb by have := Hlt.out; omega)
  refine (callsIn_wide (n := 4)).1 ?_
  refine callsIn_of_wp_marks Tryd.func6 rfl trivial ?_ rfl
  simp only [Tryd.ntmps6, List.size_toArray, List.length_cons, List.length_nil, Nat.reduceAdd, Nat.reduceSub, Array.replicate_succ, Array.replicate_zero, List.push_toArray, List.append_toArray, List.nil_append, List.cons_append]
  gi_wp2
  rw [Hw1.out, Hw2.out, Hw3.out, ← Hx1.out]
  rw [hx2, hx3]
  clear hx2 hx3
  refine ⟨trivial, ?_⟩
  refine ((callsIn_wide (n := _)).2 (valive_any w3 (ml_keep Hml.out Hc3.out))).mono ?_
  rintro e w4 ⟨rfl, hc4⟩
  have Hc4 := Lib.hid (Hc3.out.trans hc4)
  have HT4 := Lib.hid (row_kept hc4 HT3.out id)
  have HM4 := Lib.hid (row_kept hc4 HM3.out id)
  have HR4 := Lib.hid (row_kept hc4 HR3.out id)
  clear hc4
  have t0 := var1 HT4.out
  have hal_ := (Chg.refl NoB w4).alloc (.cells #[.string ⟨#[]⟩, .slice q n c] 35)
  have hb_ := heap_alloc_new w4 (.cells #[.string ⟨#[]⟩, .slice q n c] 35)
  obtain ⟨b5, hxb_⟩ : ∃ b, b = w4.heap.size := ⟨_, rfl⟩
  obtain ⟨w5, hw_⟩ : ∃ w_, w4.alloc (.cells #[.string ⟨#[]⟩, .slice q n c] 35) = w_ := ⟨_, rfl⟩
  have hz_ : w5.heap.size = b5 + 1 := by rw [← hw_, hxb_]; exact alloc_size _ _
  rw [hw_] at hal_ hb_
  rw [← hxb_] at hb_
  have Hw5 := Lib.hid hw_
  have Hx5 := Lib.hid hxb_
  have Ha5 := Lib.hid hal_
  have Hb5 := Lib.hid hb_
  have Hz5 := Lib.hid hz_
  clear hal_ hb_ hxb_ hw_ hz_
  have Hc5 := Lib.hid (Hc4.out.trans Ha5.out)
  have Hgr := Lib.hid (vgreat_any [([], l)] ⟨by simp, fun y hy => by obtain rfl := List.mem_singleton.1 hy; exact ⟨by simp, Hr.out⟩⟩ (fun k => OldB W k ∨ k = b5) _ b5 0 w5 (mntS_one (x := []) (by exact Hb5.out) (.inr rfl) Hn.out ((Hs.out w5 Hc5.out).mono fun k h => .inl h)))
  obtain ⟨g, hg⟩ : ∃ g, g = greatM [([], l)] := ⟨_, rfl⟩
  rw [← hg] at Hgr
  have Hg := Lib.hid hg
  clear hg
  gi_wp2
  rw [Hw5.out, ← Hx5.out]
  refine ⟨trivial, ?_⟩
  refine ((callsIn_wide (n := _)).2 Hgr.out).mono ?_
  rintro e w6 ⟨rfl, hc6⟩
  have Hc6 := Lib.hid (Hc5.out.trans hc6)
  have HT6 := Lib.hid (row_kept (Ha5.out.trans hc6) HT4.out id)
  have HM6 := Lib.hid (row_kept (Ha5.out.trans hc6) HM4.out id)
  have HR6 := Lib.hid (row_kept (Ha5.out.trans hc6) HR4.out id)
  clear hc6 t0 Hgr
  have r0 := var1 HR6.out
  have rf := row_free HR6.out 0
  cases g with
  | true =>
    gi_wp2
    have e0 := var1 (heap_set HR6.out (i := 0) (.bool true))
    have hfin := Hc6.out.setCell (p := ⟨rb, 0, none⟩) (.inr Hrb.out) (.bool true)
    generalize w6.setCell ⟨rb, 0, none⟩ (.bool true) = wf at *
    exact ⟨.bool true, by simp [results, Tryd.f6, go_sem, e0], rfl, hfin⟩
  | false =>
  by_cases hbig : 40 < n2
  · gi_wp2
    have e0 := var1 (heap_set HR6.out (i := 0) (.bool true))
    have hfin := Hc6.out.setCell (p := ⟨rb, 0, none⟩) (.inr Hrb.out) (.bool true)
    generalize w6.setCell ⟨rb, 0, none⟩ (.bool true) = wf at *
    exact ⟨.bool true, by simp [results, Tryd.f6, go_sem, e0], rfl, hfin⟩
  have hsm := (great_small Hg.out.symm).2 ([], l) (List.mem_cons_self ..)
  have Hll := Lib.hid (show l.length ≤ 1048576 by have := hsm.2.1; change l.length ≤ _ at this; omega)
  have Hlw := Lib.hid (show ∀ x ∈ l, x.1.length ≤ 131072 from fun x hx => (hsm.2.2 x hx).1)
  clear hsm r0 rf
  gi_wp2
  gi_loopw [25] (fun i wr => ∃ k : Nat, k ≤ n2 ∧ i = .int .i64 k ∧ (∀ d ∈ ds.take k, d.length ≤ 1024) ∧ Chg NoB w6 wr) (fun i _ => n2 - (intOf i).toNat)
  case atStart => exact ⟨0, Nat.zero_le _, rfl, by rw [List.take_zero]; exact (fun d hd => by cases hd), Chg.refl _ _⟩
  case round =>
    obtain ⟨k, hk, rfl, hdk, hcw⟩ := hrel
    have Hdk := Lib.hid hdk
    have Hcw := Lib.hid hcw
    have HTw := Lib.hid (row_kept hcw HT6.out id)
    have HMw := Lib.hid (row_kept hcw HM6.out id)
    have HRw := Lib.hid (row_kept hcw HR6.out id)
    have Hcc := Lib.hid (Hc6.out.trans hcw)
    clear hdk hcw
    by_cases hlt : k < n2
    · have hlt' : k < ds.length := by rw [← Hn2.out]; exact hlt
      obtain ⟨rfl, -⟩ := D3.out (by intro e; rw [e] at hlt'; simp at hlt')
      have d0 := (Hs2.out wr Hcc.out).at' k hlt'
      have hdl := Hr2.out _ (List.getElem_mem hlt')
      have Htk := Lib.hid (take_at hlt')
      generalize ds[k] = d at *
      clear hlt'
      obtain ⟨dl, hdl2⟩ : ∃ m, m = d.length := ⟨_, rfl⟩
      have hdz : (tx d).size = dl := by rw [tx_size, hdl2]
      rw [← hdl2] at hdl
      have Hdl2 := Lib.hid hdl2
      clear hdl2
      have r0 := var1 HRw.out
      have rf := row_free HRw.out 0
      by_cases hd1 : 1024 < dl
      · gi_wp2
        have e0 := var1 (heap_set HRw.out (i := 0) (.bool true))
        have hfin := Hcc.out.setCell (p := ⟨rb, 0, none⟩) (.inr Hrb.out) (.bool true)
        generalize wr.setCell ⟨rb, 0, none⟩ (.bool true) = wf at *
        exact ⟨.bool true, by simp [results, Tryd.f6, go_sem, e0], rfl, hfin⟩
      · gi_wp2
        go_roundw
        case rel => exact ⟨k + 1, by omega, by go_num, by rw [Htk.out]; exact fun x hx => (List.mem_append.1 hx).elim (Hdk.out x) fun h => by rw [List.mem_singleton.1 h, ← Hdl2.out]; omega, Hcw.out⟩
        case measure => simp [intOf]; omega
    · obtain rfl : k = n2 := by omega
      have Hdw := Lib.hid (show ∀ d ∈ ds, d.length ≤ 1024 by have h := Hdk.out; rwa [Hn2.out, List.take_of_length_le (Nat.le_refl _)] at h)
      have HRO := Lib.hid (routside_any l Hll.out (fun x hx => by have := Hlw.out x hx; omega) ds (by rw [← Hn2.out]; omega) (fun d hd => by have := Hdw.out d hd; omega) _ _ kb ko _ _ jb jo wr (ml_keep Hml.out Hcc.out) (Hs.out wr Hcc.out) (Hs2.out wr Hcc.out))
      obtain ⟨ts, hts⟩ : ∃ z, z = outF ds l := ⟨_, rfl⟩
      rw [← hts] at HRO
      have Hts := Lib.hid hts
      have HQ := Lib.hid (fun w' (h : Chg NoB W w') => outside_new l Hll.out ds (by rw [← Hn2.out]; omega) _ _ kb ko _ _ jb jo w' (Hs.out w' h) (Hs2.out w' h))
      have t0 := var1 HTw.out
      clear hts hlt hk hn2b
      gi_wp2
      refine ⟨trivial, ?_⟩
      refine ((callsIn_wide (n := _)).2 HRO.out).mono ?_
      rintro e w9 ⟨hc9, wv, rfl, hnm⟩
      obtain ⟨tl, htl⟩ : ∃ z, z = ts.length := ⟨_, rfl⟩
      rw [← htl] at hnm
      have Hnm := Lib.hid hnm
      obtain ⟨wq, wcp, rfl, hwl, hwm⟩ := row_shape hnm
      unfold maxLen at hwm
      have Htl := Lib.hid htl
      have Hc9 := Lib.hid (Hcc.out.trans hc9)
      have HT9 := Lib.hid (row_kept hc9 HTw.out id)
      have HM9 := Lib.hid (row_kept hc9 HMw.out id)
      have HR9 := Lib.hid (row_kept hc9 HRw.out id)
      have HwlI := Lib.hid (show tl ≤ 1048576 by rw [Htl.out, Hts.out]; exact Nat.le_trans (outF_len _ _) Hll.out)
      clear hc9 t0 HRO hnm htl
      have hal_ := (Chg.refl NoB w9).alloc (.cells #[.slice wq tl wcp] 33)
      have hb_ := heap_alloc_new w9 (.cells #[.slice wq tl wcp] 33)
      obtain ⟨wb, hxb_⟩ : ∃ b, b = w9.heap.size := ⟨_, rfl⟩
      obtain ⟨wA, hw_⟩ : ∃ w_, w9.alloc (.cells #[.slice wq tl wcp] 33) = w_ := ⟨_, rfl⟩
      have hz_ : wA.heap.size = wb + 1 := by rw [← hw_, hxb_]; exact alloc_size _ _
      rw [hw_] at hal_ hb_
      rw [← hxb_] at hb_
      have HwA := Lib.hid hw_
      have HxA := Lib.hid hxb_
      have HaA := Lib.hid hal_
      have HbA := Lib.hid hb_
      have HzA := Lib.hid hz_
      clear hal_ hb_ hxb_ hw_ hz_
      have hal_ := (Chg.refl NoB wA).alloc (.cells #[.int .i64 0] 3)
      have hb_ := heap_alloc_new wA (.cells #[.int .i64 0] 3)
      obtain ⟨ib, hxb_⟩ : ∃ b, b = wA.heap.size := ⟨_, rfl⟩
      obtain ⟨wB, hw_⟩ : ∃ w_, wA.alloc (.cells #[.int .i64 0] 3) = w_ := ⟨_, rfl⟩
      have hz_ : wB.heap.size = ib + 1 := by rw [← hw_, hxb_]; exact alloc_size _ _
      rw [hw_] at hal_ hb_
      rw [← hxb_] at hb_
      have HwB := Lib.hid hw_
      have HxB := Lib.hid hxb_
      have HaB := Lib.hid hal_
      have HbB := Lib.hid hb_
      have HzB := Lib.hid hz_
      clear hal_ hb_ hxb_ hw_ hz_
      have hxB : wb + 1 = ib := by rw [HxB.out, HzA.out]
      have HcB := Lib.hid (Hc9.out.trans (HaA.out.trans HaB.out))
      have HTB := Lib.hid (row_kept (HaA.out.trans HaB.out) HT9.out id)
      have HMB := Lib.hid (row_kept (HaA.out.trans HaB.out) HM9.out id)
      have HRB := Lib.hid (row_kept (HaA.out.trans HaB.out) HR9.out id)
      have HQB := Lib.hid (row_kept HaB.out HbA.out id)
      have HIB := Lib.hid HbB.out
      have HnmB := Lib.hid (ownsRow_chg Hnm.out (HaA.out.trans HaB.out) fun _ _ => id)
      have t0' : ((w9.alloc (.cells #[.slice wq tl wcp] 33)).alloc (.cells #[.int .i64 0] 3)).cell? ⟨tb, 0, none⟩ = some (.slice q n c) := by rw [HwA.out, HwB.out]; exact var1 HTB.out
      gi_wp2
      rw [HwA.out, HwB.out, ← HxA.out]
      rw [hxB]
      clear t0' hxB
      refine ⟨trivial, ?_⟩
      refine ((callsIn_wide (n := _)).2 (HQ.out _ HcB.out)).mono ?_
      rintro e wC ⟨hcC, fb, pb, fv, pv, nb, mb', rfl, hfl, hpl, hfc, hpc, hns, hms⟩
      have HcC := Lib.hid (HcB.out.trans hcC)
      have HTC := Lib.hid (row_kept hcC HTB.out id)
      have HMC := Lib.hid (row_kept hcC HMB.out id)
      have HRC := Lib.hid (row_kept hcC HRB.out id)
      have HQC := Lib.hid (row_kept hcC HQB.out id)
      have HIC := Lib.hid (row_kept hcC HIB.out id)
      have HnmC := Lib.hid (ownsRow_chg HnmB.out hcC fun _ _ => id)
      have HszB := Lib.hid hcC.size
      have Hord := Lib.hid (show rb < wb ∧ wb < ib ∧ ib < wB.heap.size by have h1 := lt_of_block HR9.out; have := HxA.out; have := HzA.out; have := HxB.out; have := HzB.out; omega)
      obtain ⟨ml, hmlc⟩ := ml_keep Hml.out HcC.out
      have Hg0 := Lib.hid (cell_lt Hml.out.choose_spec)
      have Hseq := Lib.hid (outside1_stops (4 - 1) fb pb (fun k => k = rb ∨ k = ib) (NewB wB wC) l ds Hll.out Hlw.out (by rw [← Hn2.out]; omega) (fun d hd => by have := Hdw.out d hd; omega) fv pv nb 0 mb' 0 wC
        (fun k hk x => by have h1 : wB.heap.size ≤ k := hk.1; have := Hord.out; omega) (fun x => by have := Hord.out; omega) (fun x => by have := Hord.out; omega)
        (fun W' h => ⟨ml, h.cell hmlc fun x => by have h1 := Hg0.out; change _ < _ at h1; have := Hord.out; have := Hrb.out; omega⟩) hfc hpc hns hms)
      rw [← Hts.out] at Hseq
      clear hcC hfl hpl hfc hpc hns hms HQ hmlc
      gi_wp2
      refine wpIn_rangeFunc_ownF (α := List UInt8) rfl (by decide) (gf := 32) (lb := #[.pointer (some ⟨fb, 0, none⟩), .pointer (some ⟨pb, 0, none⟩)]) rfl trivial (enters_of Tryd.func32 (by kernel_rfl) rfl)
        Hseq.out KeepT.trans (fun W l o o' _ h hc _ => KeepT.putObj W l o o' h hc) (Below.refl _ _) (fun _ => rfl)
        (fun pre V => (Chg (fun k => k = rb ∨ k = ib) wC V ∧ Boxed V rb 4 (.bool false) ∧ Boxed V ib 3 (.int .i64 (pre.length : Int))) ∧ pre <+: ts)
        (fun co pre V => ((Chg (fun k => k = rb ∨ k = ib) wC V ∧ Boxed V rb 4 (.bool false) ∧ Boxed V ib 3 (.int .i64 (pre.length : Int))) ∧ co = .exit 2 ∧ (pre.length : Int) = most) ∨ (co = .ret ∧ ¬ pre <+: ts))
        (fun s A B row hs hg hr => ⟨⟨hs.1.1.grown hg fun k e => .inr (hr k e).1, hs.1.2.1.kept hg fun e => by have := (hr _ e.symm).1; have := Hord.out; have := HszB.out; omega, hs.1.2.2.kept hg fun e => by have := (hr _ e.symm).1; have := Hord.out; have := HszB.out; omega⟩, hs.2⟩)
        (fun co s A B row hs hg hr => hs.imp (fun hs => ⟨⟨hs.1.1.grown hg fun k e => .inr (hr k e).1, hs.1.2.1.kept hg fun e => by have := (hr _ e.symm).1; have := Hord.out; have := HszB.out; omega, hs.1.2.2.kept hg fun e => by have := (hr _ e.symm).1; have := Hord.out; have := HszB.out; omega⟩, hs.2⟩) id)
        ⟨⟨Chg.refl _ _, HRC.out, HIC.out⟩, List.nil_prefix⟩
        (fun x => { tmps := #[.agg #[.slice q n c], .slice q2 k c2, .int .i64 most, .pointer (some ⟨tb, 0, none⟩), undef, .pointer (some ⟨mb, 0, none⟩), .pointer (some ⟨rb, 0, none⟩), undef, u8, .pointer (some ⟨wb, 0, none⟩), .pointer (some ⟨ib, 0, none⟩), .string (tx x), .bool true, .bool false, .agg #[.slice q n c], .agg #[.string ⟨#[]⟩, .slice q n c], .slice (some ⟨b5, 0, none⟩) 1 1, .bool false, .bool false, .slice q2 k c2, .int .i64 ↑k, .bool (decide (40 < (k : Int))), .bool (decide (40 < (k : Int))), .slice q2 k c2, .int .i64 ↑k, .int .i64 ↑k, .bool false, u27, u28, u29, u30, u31, u32, .agg #[.slice q n c], .slice q2 k c2, .slice wq tl wcp, .agg #[.slice q n c], .slice q2 k c2, .func (.func 32) #[] #[.pointer (some ⟨fb, 0, none⟩), .pointer (some ⟨pb, 0, none⟩)], .string (tx x), undef, undef, undef, undef, undef, undef, undef, undef, undef, undef, undef, undef, undef, undef, undef, undef, undef, undef, undef, undef, undef, undef, undef, undef, undef, undef], defers := [] }) ?assign ?body ?done ?stop
      case assign =>
        intro l' x V K hK
        gi_wp2
        exact hK
      case body =>
        rintro l' pre x V ⟨⟨hch, hres, hidx⟩, hpre⟩ hlen
        have Hch := Lib.hid hch
        have Hres := Lib.hid hres
        have Hidx := Lib.hid hidx
        have Hpre := Lib.hid hpre
        have w0 := var1 (row_kept hch HQC.out (by have := Hord.out; omega))
        have m0 := var1 (row_kept hch HMC.out (by have h := Hlt.out; have := Hord.out; omega))
        obtain ⟨pl, hpl⟩ : ∃ pl, pl = pre.length := ⟨_, rfl⟩
        have i0 := hidx.cell
        have i1 := hidx.frozen
        have r0 := hres.cell
        have r1 := hres.frozen
        rw [← hpl] at i0
        have Hpl := Lib.hid hpl
        clear hch hres hidx hpre hlen hpl
        try dsimp only
        by_cases hlt : pl < tl
        · have hlt' : pre.length < ts.length := by rw [← Hpl.out, ← Htl.out]; exact hlt
          obtain ⟨g, rfl⟩ : ∃ g, wq = some ⟨g, 0, none⟩ := by
            rcases HnmC.out.2 with ⟨e, h0⟩ | ⟨g', cap', cur, e, _⟩
            · omega
            · cases e; exact ⟨g', rfl⟩
          have hgl := World.ownsRow.lt Hnm.out g rfl
          have y0 := World.ownsRow.cells (g := g) HnmC.out rfl pre.length _ (txV_at hlt')
          rw [add_zero_off] at y0
          have x0 := Hch.out.cell y0 (show ¬ (g = rb ∨ g = ib) by have h2 := lt_of_block HR9.out; have h3 := lt_of_block HRw.out; have := HxB.out; have := HxA.out; have := HzA.out; omega)
          have hbeg := List.prefix_iff_eq_take.1 Hpre.out
          have Hnext := Lib.hid (show ∀ y, (pre ++ [y]) <+: ts ↔ y = ts[pre.length] from fun y => by
            constructor
            · rintro ⟨r, hr⟩
              have : ts[pre.length]? = some y := by rw [← hr]; simp
              rw [List.getElem?_eq_getElem hlt'] at this
              exact (Option.some.inj this).symm
            · rintro rfl
              refine ⟨ts.drop (pre.length + 1), ?_⟩
              rw [List.append_assoc, List.singleton_append, ← List.drop_eq_getElem_cons hlt']
              conv => lhs; arg 1; rw [hbeg]
              exact List.take_append_drop _ _)
          clear hbeg hgl y0
          generalize ts[pre.length] = y at *
          rw [← Hpl.out] at x0
          have hplb : pl ≤ 1048576 := by have := HwlI.out; omega
          have hge : ¬ ((pl : Int) ≥ (tl : Int)) := by omega
          have hne1 : ¬ mb = ib := by have := Hlt.out; have := Hord.out; omega
          have hne2 : ¬ ib = mb := by have := Hlt.out; have := Hord.out; omega
          have hr := tx_beq x y
          by_cases hxy : x = y
          · rw [decide_eq_true hxy] at hr
            have Hxy := Lib.hid ((Hnext.out x).2 hxy)
            subst hxy
            have Hst := Lib.hid ((Chg.refl (fun k => k = rb ∨ k = ib) V).setCell (p := ⟨ib, 0, none⟩) (.inl (.inr rfl)) (.int .i64 (pl + 1)))
            have Hr2 := Lib.hid (Hres.out.other (B' := ib) (by have := Hord.out; omega) (.int .i64 (pl + 1)))
            have Hi2 := Lib.hid (show Boxed (V.setCell ⟨ib, 0, none⟩ (.int .i64 (pl + 1))) ib 3 (.int .i64 ((pre ++ [x]).length : Int)) by rw [List.length_append, ← Hpl.out]; exact Hidx.out.set _)
            have Hl2 := Lib.hid (show ((pre ++ [x]).length : Int) = pl + 1 by rw [List.length_append, ← Hpl.out]; rfl)
            by_cases hmo : (pl : Int) + 1 = most
            · subst hmo
              gi_wp2
              exact ⟨KeepsOthers.setCell _ _ _, .inl ⟨⟨Hch.out.trans Hst.out, Hr2.out, Hi2.out⟩, rfl, Hl2.out⟩⟩
            · gi_wp2
              exact ⟨KeepsOthers.setCell _ _ _, Hst.out.keepT fun _ h => h, ⟨Hch.out.trans Hst.out, Hr2.out, Hi2.out⟩, Hxy.out⟩
          · rw [decide_eq_false hxy] at hr
            have Hxy := Lib.hid (fun h => hxy ((Hnext.out x).1 h))
            clear hxy
            gi_wp2
            exact ⟨KeepsOthers.setCell _ _ _, .inr ⟨rfl, Hxy.out⟩⟩
        · have hge : ((pl : Int) ≥ (tl : Int)) := by omega
          have Hno := Lib.hid (show ¬ (pre ++ [x]) <+: ts from fun h => by have h2 := h.length_le; rw [List.length_append, ← Hpl.out, ← Htl.out] at h2; simp at h2; omega)
          gi_wp2
          exact ⟨KeepsOthers.setCell _ _ _, .inr ⟨rfl, Hno.out⟩⟩
      case done =>
        rintro D' ys V hD rfl ⟨⟨hch, hres, hidx⟩, hpre⟩ hK
        have w0 := var1 (row_kept hch HQC.out (by have := Hord.out; omega))
        have m0 := var1 (row_kept hch HMC.out (by have h := Hlt.out; have := Hord.out; omega))
        have i0 := hidx.cell
        rw [← Htl.out] at i0
        have r0 := hres.cell
        have r1 := hres.frozen
        have HE := Lib.hid (reads_fin (r := true) HcC.out Hrb.out hch hres hK hD (by have := Hord.out; have := Hrb.out; omega))
        clear hch hres hidx hpre hK
        gi_wp2
        refine ⟨by simp, .inl ⟨_, _, rfl, run_takeDeferred (HE.out.1), ?_⟩⟩
        have hc6 := HE.out.2.1
        refine ⟨.bool true, ?_, rfl, HE.out.2.2⟩
        simp [results, Tryd.f6, go_sem, hc6]
      case stop =>
        rintro D' co pre V hD hpre (⟨⟨hch, hres, hidx⟩, rfl, hmo⟩ | ⟨rfl, hno⟩) hK
        · have w0 := var1 (row_kept hch HQC.out (by have := Hord.out; omega))
          have m0 := var1 (row_kept hch HMC.out (by have h := Hlt.out; have := Hord.out; omega))
          have i0 := hidx.cell
          have r0 := hres.cell
          have r1 := hres.frozen
          rw [hmo] at i0
          have HE := Lib.hid (reads_fin (r := true) HcC.out Hrb.out hch hres hK hD (by have := Hord.out; have := Hrb.out; omega))
          clear hch hres hidx hpre hK hmo
          by_cases hmt : most = (tl : Int)
          · subst hmt
            gi_wp2
            refine ⟨by simp, .inl ⟨_, _, rfl, run_takeDeferred (HE.out.1), ?_⟩⟩
            have hc6 := HE.out.2.1
            refine ⟨.bool true, ?_, rfl, HE.out.2.2⟩
            simp [results, Tryd.f6, go_sem, hc6]
          · gi_wp2
            refine ⟨by simp, .inl ⟨_, _, rfl, run_takeDeferred (HE.out.1), ?_⟩⟩
            have hc6 := HE.out.2.1
            refine ⟨.bool true, ?_, rfl, HE.out.2.2⟩
            simp [results, Tryd.f6, go_sem, hc6]
        · exact absurd hpre hno
/-FRAME-/
set_option maxRecDepth 100000 in
theorem viewOutside_lifted (os : Os) (started : os.Started) (H : Type) (enc : TypeId × Value → H) :
    ReturnsInHanded {} Tryd.checked os 6 .any (fun w args => (Rows.viewOutsideSpec.pre enc Tryd.prog Tryd.f6 [] false w args ∧ laidMetH Tryd.prog Rows.viewOutsideRow.laid w) ∧ sizedMet enc Tryd.prog Tryd.f6 (OpenSpec.ofChange Rows.viewOutsideSpec) false w args)
      (Rows.viewOutsideSpec.post enc Tryd.prog Tryd.f6 false true false false) := by
  refine returns_both (C := Tryd.checked) (X := fun w _ => laidMetH Tryd.prog Rows.viewOutsideRow.laid w) (fun _ _ _ hh h => h.of_heap hh) Tryd.own started (by kernel_rfl) Tryd.func6
    (ChangeSpec.witness_shaped (enc := enc) (C := Tryd.checked) (os := os) (X := fun w _ => laidMetH Tryd.prog Rows.viewOutsideRow.laid w) false (World.laidAll Tryd.prog os Rows.viewOutsideRow.laid) #[.agg #[.slice none 0 0], .slice none 0 0, .int .i64 0] 8 (World.laidAll_os _ _ _)
      (World.shaped_of_ZipB (by kernel_rfl) (by kernel_rfl)) (by kernel_rfl) (by kernel_rfl) (by kernel_rfl)
      (by rw [MakeChecks.laidMetH_plain _ _ _ (by kernel_rfl)]; exact laidMet_laidAll _ (by kernel_rfl) (by kernel_rfl))) ?_
  intro W base args ds gs before hval0 hW _ hsz hL hsh _
  have hval : ∀ (j : Nat) t v, Tryd.f6.params[j]? = some t → args[j]? = some v → Value.okWide Tryd.prog W .any base t v := hval0
  have hW' := hW
  obtain ⟨p, q, hA0, hV, rfl, _, _⟩ := hW
  have hA : DataW.TrodAll enc Tryd.prog W 0 (fun _ => true) true Tryd.f6.params.toList args.toList ds p := hA0
  have hsz1 : (DataW.weightsEach Tryd.prog (Tryd.f6.params.toList ++ Rows.viewOutsideSpec.plain.varTypes Tryd.prog) (ds ++ gs)).all (· ≤ reachBytes) = true := hsz
  rw [Tryd.params6] at hA hval hsz1
  obtain ⟨v0, v1, v2, d0, d1, d2, p0, p1, p2, rfl, rfl, rfl, h0, h1, h2⟩ := trodAll_three hA
  obtain ⟨rfl, rfl⟩ := trodVars_none hV
  obtain ⟨l0, c0, kb0, ko0, rfl, hn0, hr0⟩ := open_tree (hval 0 27 v0 rfl rfl) h0 (fun m hm => of_decide_eq_true (List.all_eq_true.1 hsz1 m (DataW.weights_mem_each (j := 0) (t := 27) (d := d0) rfl rfl m hm)))
  obtain ⟨l1, kb1, ko1, hn1, hr1⟩ := open_texts (hval 1 33 v1 rfl rfl) h1 (fun m hm => of_decide_eq_true (List.all_eq_true.1 hsz1 m (DataW.weights_mem_each (j := 1) (t := 33) (d := d1) rfl rfl m hm)))
  obtain ⟨x2, rfl, rfl, rfl, wx2⟩ := open_int Tryd.underlying3 (hval 2 3 v2 rfl rfl) h2
  simp only [List.append_nil] at hW'
  rw [MakeChecks.laidMetH_plain _ _ _ (by kernel_rfl)] at hL
  have hml : Pth.Ml W := wml_of hsh
  clear hA0 hval0
  refine (viewOutside_all l0 _ kb0 ko0 l1 _ kb1 ko1 x2 W hn0 hr0 hn1 hr1 wx2 hml).mono fun e W' ⟨he, hb⟩ => ?_
  subst he
  exact ⟨_, rfl, _, _, _, [], _, [], hW', trodAll_mk1 (shut_bool Tryd.underlying4 _), (trodAll_cons_mk (tree_stays h0 hb.below) (trodAll_cons_mk (texts_stay h1 hb.below) (trodAll_cons_mk (shut_int Tryd.underlying3 wx2) trodAll_mk0))), rfl, hb.below.frame _, fun h => by cases h⟩
theorem viewOutside_holds : Rows.ViewOutsideSaid :=
  OpenClaim.holds_of_wide 6 Tryd.f6 rfl rfl rfl rfl rfl rfl rfl ⟨rfl, rfl, rfl, rfl, rfl⟩ rfl rfl rfl rfl rfl (by kernel_rfl) Tryd.func6 (by kernel_rfl)
    (of_decide_eq_true (by kernel_rfl)) (by unfold Func.isWrapper; first | (rw [if_pos (by decide +kernel)]; kernel_rfl) | (rw [if_neg (by decide +kernel)]; exact ⟨rfl, rfl⟩))
    (fun os started H enc _ => viewOutside_lifted os started H enc)
theorem viewOutside_card : Rows.ViewOutsideCardSaid :=
  Claim7.holds_tied_plain_at .later [] [.data, .pinned] true (true, "86869f4e0d2b7613ef962574d9f579f063d7be76b275564b7df8f38d61515bd3") false viewOutside_holds (fun _ h => by cases h) (by kernel_rfl) (fun _ h => by cases h) viewOutside_row_tie rfl ⟨rfl, rfl⟩ (by kernel_rfl) rfl
    (fun f fn hf hfn => by
      obtain rfl : f = 6 := Option.some.inj ((show Tryd.prog.funcNamed "sapling/saplinglaw11.ViewOutside" = some 6 by kernel_rfl).symm.trans hf) |>.symm
      obtain rfl : fn = Tryd.f6 := (Option.some.inj (Tryd.func6.symm.trans hfn)).symm
      exact ⟨by kernel_rfl, fun j t ht => by
        rw [Tryd.params6] at ht
        have hm : t ∈ [27, 33, 3] := by simpa using Array.mem_of_getElem? ht
        have hall : ([27, 33, 3].all fun u => !Tryd.prog.wantsStandIn u) = true := by kernel_rfl
        exact (show Tryd.prog.wantsStandIn t = false by simpa using List.all_eq_true.1 hall t hm)⟩)
    (by kernel_rfl)
#print axioms viewOutside_card
end Go.Proofs.YtnbdjficoficcaaDoor
