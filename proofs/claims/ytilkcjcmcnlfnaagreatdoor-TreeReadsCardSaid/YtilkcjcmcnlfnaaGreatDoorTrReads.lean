/- Proved: the statement TreeReads holds for every tree, text and number. Conditions: the listed package variables read as the program's text lays them (the card ties them); nothing else. -/
import Derived.Test.YtilkcjcmcnlfnaaGreatDoorTrSeq
import Derived.Test.YtilkcjcmcnlfnaaGreatDoorTrRnames
import Derived.Test.YtilkcjcmcnlfnaaGreatDoorTrRput
namespace Go.Proofs.YtilkcjcmcnlfnaaGreatDoor
set_option linter.unusedVariables false
open Go.ChangeShapes Go.WideShapes Go.ChangeAt Go.RowKit Go.Shelf
open Go.ChangeMaps (open_string shut_string)
attribute [local go_sem] Oper.semAt_some
theorem cell_lt {w : World} {p : Addr} {u : Value} (h : w.cell? p = some u) : p.block < w.heap.size := by
  unfold World.cell? at h
  split at h
  · rename_i e; exact (Array.getElem?_eq_some_iff.1 e).1
  · cases h
/- behind the loop: the answer is laid, the rounds' list is shut -/
theorem reads_fin {W wC V : World} {rb ib D : Nat} (h : Chg NoB W wC) (hrb : W.heap.size ≤ rb) (hch : Chg (fun k => k = rb ∨ k = ib) wC V) (hres : Boxed V rb 4 (.bool false)) (hK : V.heap[D]? = some (.deferred (some []))) (hD : wC.heap.size ≤ D) (hib : W.heap.size ≤ ib := by omega) :
    (V.setCell ⟨rb, 0, none⟩ (.bool true)).heap[D]? = some (.deferred (some [])) ∧ ((V.setCell ⟨rb, 0, none⟩ (.bool true)).putObj D (.deferred none)).cell? ⟨rb, 0, none⟩ = some (.bool true) ∧ Chg NoB W ((V.setCell ⟨rb, 0, none⟩ (.bool true)).putObj D (.deferred none)) := by
  have hK' := (KeepsOthers.setCell V ⟨rb, 0, none⟩ (.bool true)).same D _ hK rfl
  have hr := (hres.set (.bool true)).cell
  have hV : Chg NoB W (V.setCell ⟨rb, 0, none⟩ (.bool true)) := (h.above hch fun k hk => by rcases hk with rfl | rfl <;> omega).setCell (p := ⟨rb, 0, none⟩) (.inr hrb) (.bool true)
  have hg := grownBy_putObj' (V.setCell ⟨rb, 0, none⟩ (.bool true)) D (.deferred none)
  exact ⟨hK', cell_kept hr hg (fun r e => by cases e; exact ⟨_, hK', rfl⟩), hV.grown hg fun k e => .inr (by cases e; have := h.size; omega)⟩
set_option maxHeartbeats 16000000 in
set_option maxRecDepth 100000 in
theorem treeReads_all (l : List FileL) (v : Value) (kb ko : Nat) (x : ByteArray) (most : Int) (W : World) (hs : InpS W (OldB W) v l kb ko) (hr : Reach l) (wx : x.size ≤ maxLen) (wm : (Lit.int .i64 most).wf = true) (hlb : Lw W.heap.size W) (hml : Pth.Ml W) :
    Calls Tryz.prog 5 #[.agg #[v], .string x, .int .i64 most] W fun e w' => e = .returned (.bool true) ∧ Chg NoB W w' := by
  obtain ⟨s, rfl⟩ : ∃ s, x = tx s := ⟨_, (tx_back x).symm⟩
  have hss : (tx s).size = s.length := tx_size s
  obtain ⟨sl, hsl⟩ : ∃ n, n = s.length := ⟨_, rfl⟩
  rw [← hsl] at hss
  rw [hss] at wx
  unfold maxLen at wx
  have Hsl := Lib.hid hsl
  have Hs := Lib.hid (fun w' (h : Chg NoB W w') => hs.keep h fun _ _ => id)
  obtain ⟨⟨q, c, rfl, -, -, -⟩, -⟩ := hs
  obtain ⟨n, hn⟩ : ∃ n, n = l.length := ⟨_, rfl⟩
  rw [← hn] at Hs ⊢
  have Hr := Lib.hid hr
  have Hlb := Lib.hid hlb
  have Hml := Lib.hid hml
  clear hn hr hlb hml hsl wm
  have hal_ := (Chg.refl NoB W).alloc (.cells #[.slice q n c] 26)
  have hb_ := heap_alloc_new W (.cells #[.slice q n c] 26)
  obtain ⟨tb, hxb_⟩ : ∃ b, b = W.heap.size := ⟨_, rfl⟩
  obtain ⟨w1, hw_⟩ : ∃ w_, W.alloc (.cells #[.slice q n c] 26) = w_ := ⟨_, rfl⟩
  have hz_ : w1.heap.size = tb + 1 := by rw [← hw_, hxb_]; exact alloc_size _ _
  rw [hw_] at hal_ hb_
  rw [← hxb_] at hb_
  have Hw1 := Lib.hid hw_
  have Hx1 := Lib.hid hxb_
  have Ha1 := Lib.hid hal_
  have Hb1 := Lib.hid hb_
  have Hz1 := Lib.hid hz_
  clear hal_ hb_ hxb_ hw_ hz_
  have hal_ := (Chg.refl NoB w1).alloc (.cells #[.int .i64 most] 3)
  have hb_ := heap_alloc_new w1 (.cells #[.int .i64 most] 3)
  obtain ⟨mb, hxb_⟩ : ∃ b, b = w1.heap.size := ⟨_, rfl⟩
  obtain ⟨w2, hw_⟩ : ∃ w_, w1.alloc (.cells #[.int .i64 most] 3) = w_ := ⟨_, rfl⟩
  have hz_ : w2.heap.size = mb + 1 := by rw [← hw_, hxb_]; exact alloc_size _ _
  rw [hw_] at hal_ hb_
  rw [← hxb_] at hb_
  have Hw2 := Lib.hid hw_
  have Hx2 := Lib.hid hxb_
  have Ha2 := Lib.hid hal_
  have Hb2 := Lib.hid hb_
  have Hz2 := Lib.hid hz_
  clear hal_ hb_ hxb_ hw_ hz_
  have hal_ := (Chg.refl NoB w2).alloc (.cells #[.bool false] 4)
  have hb_ := heap_alloc_new w2 (.cells #[.bool false] 4)
  obtain ⟨rb, hxb_⟩ : ∃ b, b = w2.heap.size := ⟨_, rfl⟩
  obtain ⟨w3, hw_⟩ : ∃ w_, w2.alloc (.cells #[.bool false] 4) = w_ := ⟨_, rfl⟩
  have hz_ : w3.heap.size = rb + 1 := by rw [← hw_, hxb_]; exact alloc_size _ _
  rw [hw_] at hal_ hb_
  rw [← hxb_] at hb_
  have Hw3 := Lib.hid hw_
  have Hx3 := Lib.hid hxb_
  have Ha3 := Lib.hid hal_
  have Hb3 := Lib.hid hb_
  have Hz3 := Lib.hid hz_
  clear hal_ hb_ hxb_ hw_ hz_
  have hx2 : tb + 1 = mb := by rw [Hx2.out, Hz1.out]
  have hx3 : mb + 1 = rb := by rw [Hx3.out, Hz2.out]
  have Hc3 := Lib.hid (Ha1.out.trans (Ha2.out.trans Ha3.out))
  have HT3 := Lib.hid (row_kept (Ha2.out.trans Ha3.out) Hb1.out id)
  have HM3 := Lib.hid (row_kept Ha3.out Hb2.out id)
  have HR3 := Lib.hid Hb3.out
  have Hlt := Lib.hid (show W.heap.size ≤ tb ∧ tb < mb ∧ mb < rb ∧ rb < w3.heap.size by have := Hx1.out; have := Hz1.out; have := Hx2.out; have := Hz2.out; have := Hx3.out; have := Hz3.out; omega)
  have Hrb := Lib.hid (show W.heap.size ≤ rb by have := Hlt.out; omega)
  refine (callsIn_wide (n := 4)).1 ?_
  refine callsIn_of_wp_marks Tryz.func5 rfl trivial ?_ rfl
  simp only [Tryz.ntmps5, List.size_toArray, List.length_cons, List.length_nil, Nat.reduceAdd, Nat.reduceSub, Array.replicate_succ, Array.replicate_zero, List.push_toArray, List.append_toArray, List.nil_append, List.cons_append]
  gi_wp2
  rw [Hw1.out, Hw2.out, Hw3.out, ← Hx1.out]
  rw [hx2, hx3]
  clear hx2 hx3
  refine ⟨trivial, ?_⟩
  refine ((callsIn_wide (n := _)).2 (talive_any W.heap.size w3 ((Hlb.out.keep Hc3.out)) (ml_keep Hml.out Hc3.out))).mono ?_
  rintro e w4 ⟨rfl, hc4⟩
  have Hc4 := Lib.hid (Hc3.out.trans hc4)
  have HT4 := Lib.hid (row_kept hc4 HT3.out id)
  have HM4 := Lib.hid (row_kept hc4 HM3.out id)
  have HR4 := Lib.hid (row_kept hc4 HR3.out id)
  clear hc4
  have t0 := var1 HT4.out
  gi_wp2
  refine ⟨trivial, ?_⟩
  refine ((callsIn_wide (n := _)).2 (tgreat_any l Hr.out.1 Hr.out.2 _ _ kb ko w4 (Hs.out w4 Hc4.out))).mono ?_
  obtain ⟨g, hg⟩ : ∃ g, g = greatF l := ⟨_, rfl⟩
  rw [← hg]
  have Hg := Lib.hid hg
  clear hg
  rintro e w5 ⟨rfl, hc5⟩
  have Hc5 := Lib.hid (Hc4.out.trans hc5)
  have HT5 := Lib.hid (row_kept hc5 HT4.out id)
  have HM5 := Lib.hid (row_kept hc5 HM4.out id)
  have HR5 := Lib.hid (row_kept hc5 HR4.out id)
  clear hc5 t0
  have r0 := var1 HR5.out
  have rf := row_free HR5.out 0
  cases g with
  | true =>
    gi_wp2
    refine ⟨trivial, ?_⟩
    gi_wp2
    have e0 := var1 (heap_set HR5.out (i := 0) (.bool true))
    have hfin := Hc5.out.setCell (p := ⟨rb, 0, none⟩) (.inr Hrb.out) (.bool true)
    generalize w5.setCell ⟨rb, 0, none⟩ (.bool true) = wf at *
    exact ⟨.bool true, by simp [results, Tryz.f5, go_sem, e0], rfl, hfin⟩
  | false =>
  by_cases hbig : 4096 < sl
  · gi_wp2
    refine ⟨trivial, ?_⟩
    gi_wp2
    have e0 := var1 (heap_set HR5.out (i := 0) (.bool true))
    have hfin := Hc5.out.setCell (p := ⟨rb, 0, none⟩) (.inr Hrb.out) (.bool true)
    generalize w5.setCell ⟨rb, 0, none⟩ (.bool true) = wf at *
    exact ⟨.bool true, by simp [results, Tryz.f5, go_sem, e0], rfl, hfin⟩
  obtain ⟨hl, hw⟩ := great_sizes Hg.out.symm
  have hw2 := (great_no Hg.out.symm).2
  have Hsl2 := Lib.hid (show s.length ≤ 4096 by have := Hsl.out; omega)
  obtain ⟨gd, hgd⟩ : ∃ g, g = goodF l := ⟨_, rfl⟩
  have HG := Lib.hid (rgood_any l hl hw _ _ kb ko w5 (Hs.out w5 Hc5.out))
  rw [← hgd] at HG
  have Hgd := Lib.hid hgd
  have Hw2' := Lib.hid (show ∀ x ∈ l, x.1.length ≤ 131072 from fun x hx => (hw2 x hx).1)
  have Hl := Lib.hid hl
  clear hgd hl hw hw2
  have t0 := var1 HT5.out
  gi_wp2
  refine ⟨trivial, ?_⟩
  refine ((callsIn_wide (n := _)).2 (HG.out)).mono ?_
  rintro e w6 ⟨rfl, hc6⟩
  have Hc6 := Lib.hid (Hc5.out.trans hc6)
  have HT6 := Lib.hid (row_kept hc6 HT5.out id)
  have HM6 := Lib.hid (row_kept hc6 HM5.out id)
  have HR6 := Lib.hid (row_kept hc6 HR5.out id)
  clear hc6 t0 r0 rf HG
  have r0 := var1 HR6.out
  have rf := row_free HR6.out 0
  cases gd with
  | false =>
    gi_wp2
    have e0 := var1 (heap_set HR6.out (i := 0) (.bool true))
    have hfin := Hc6.out.setCell (p := ⟨rb, 0, none⟩) (.inr Hrb.out) (.bool true)
    generalize w6.setCell ⟨rb, 0, none⟩ (.bool true) = wf at *
    exact ⟨.bool true, by simp [results, Tryz.f5, go_sem, e0], rfl, hfin⟩
  | true =>
  clear r0 rf hbig
  have Hsz := Lib.hid (good_sizes Hgd.out.symm)
  obtain ⟨ga, hga⟩ : ∃ g, g = (getF l s).1 := ⟨_, rfl⟩
  obtain ⟨gb, hgb⟩ : ∃ g, g = (getF l s).2 := ⟨_, rfl⟩
  have HA := Lib.hid (fun w' (h : Chg NoB W w') => get_any l s _ _ kb ko w' Hl.out (Hs.out w' h))
  have HB := Lib.hid (fun w' (h : Chg NoB W w') => rget_any l s _ _ kb ko w' Hl.out (Hs.out w' h))
  rw [← hga, ← hgb] at HA HB
  obtain ⟨ts, hts⟩ : ∃ z, z = namesL s l := ⟨_, rfl⟩
  have Hts := Lib.hid hts
  have HN := Lib.hid (fun w' (h : Chg NoB W w') => rnames_any l s (by have := Hsz.out.1; omega) Hw2'.out (by have := Hsl2.out; omega) _ _ kb ko w' (ml_keep Hml.out h) (Hs.out w' h))
  rw [show foldN s l = ts from by rw [hts]; exact names_ref Hgd.out.symm] at HN
  have HQ := Lib.hid (fun w' (h : Chg NoB W w') => names_new l Hl.out _ _ kb ko s w' (Hs.out w' h))
  clear hga hgb hts
  have t0 := var1 HT6.out
  gi_wp2
  refine ⟨trivial, ?_⟩
  refine ((callsIn_wide (n := _)).2 (HA.out _ Hc6.out)).mono ?_
  rintro e w7 ⟨hc7, rfl⟩
  have Hc7 := Lib.hid (Hc6.out.trans hc7)
  have HT7 := Lib.hid (row_kept hc7 HT6.out id)
  have HM7 := Lib.hid (row_kept hc7 HM6.out id)
  have HR7 := Lib.hid (row_kept hc7 HR6.out id)
  clear hc7 t0 HA
  have t0 := var1 HT7.out
  gi_wp2
  refine ⟨trivial, ?_⟩
  refine ((callsIn_wide (n := _)).2 (HB.out _ Hc7.out)).mono ?_
  rintro e w8 ⟨hc8, rfl⟩
  have Hc8 := Lib.hid (Hc7.out.trans hc8)
  have HT8 := Lib.hid (row_kept hc8 HT7.out id)
  have HM8 := Lib.hid (row_kept hc8 HM7.out id)
  have HR8 := Lib.hid (row_kept hc8 HR7.out id)
  clear hc8 t0 HB
  have t0 := var1 HT8.out
  gi_wp2
  refine ⟨trivial, ?_⟩
  refine ((callsIn_wide (n := _)).2 (HN.out _ Hc8.out)).mono ?_
  rintro e w9 ⟨hc9, wv, rfl, hnm⟩
  have Hc9 := Lib.hid (Hc8.out.trans hc9)
  have Hnm := Lib.hid hnm
  obtain ⟨wq, wcp, rfl, hwl, hwm⟩ := hnm.shape
  unfold maxLen at hwm
  obtain ⟨tl, htl⟩ : ∃ z, z = ts.length := ⟨_, rfl⟩
  rw [← htl] at Hnm hwl ⊢
  have Htl := Lib.hid htl
  have HT9 := Lib.hid (row_kept hc9 HT8.out id)
  have HM9 := Lib.hid (row_kept hc9 HM8.out id)
  have HR9 := Lib.hid (row_kept hc9 HR8.out id)
  clear hc9 t0 HN hnm htl
  have hal_ := (Chg.refl NoB w9).alloc (.cells #[.slice wq tl wcp] 40)
  have hb_ := heap_alloc_new w9 (.cells #[.slice wq tl wcp] 40)
  obtain ⟨wb, hxb_⟩ : ∃ b, b = w9.heap.size := ⟨_, rfl⟩
  obtain ⟨wA, hw_⟩ : ∃ w_, w9.alloc (.cells #[.slice wq tl wcp] 40) = w_ := ⟨_, rfl⟩
  have hz_ : wA.heap.size = wb + 1 := by rw [← hw_, hxb_]; exact alloc_size _ _
  rw [hw_] at hal_ hb_
  rw [← hxb_] at hb_
  have HwA := Lib.hid hw_
  have HxA := Lib.hid hxb_
  have HaA := Lib.hid hal_
  have HbA := Lib.hid hb_
  have HzA := Lib.hid hz_
  clear hal_ hb_ hxb_ hw_ hz_
  have hal_ := (Chg.refl NoB wA).alloc (.cells #[.int .i64 0] 3)
  have hb_ := heap_alloc_new wA (.cells #[.int .i64 0] 3)
  obtain ⟨ib, hxb_⟩ : ∃ b, b = wA.heap.size := ⟨_, rfl⟩
  obtain ⟨wB, hw_⟩ : ∃ w_, wA.alloc (.cells #[.int .i64 0] 3) = w_ := ⟨_, rfl⟩
  have hz_ : wB.heap.size = ib + 1 := by rw [← hw_, hxb_]; exact alloc_size _ _
  rw [hw_] at hal_ hb_
  rw [← hxb_] at hb_
  have HwB := Lib.hid hw_
  have HxB := Lib.hid hxb_
  have HaB := Lib.hid hal_
  have HbB := Lib.hid hb_
  have HzB := Lib.hid hz_
  clear hal_ hb_ hxb_ hw_ hz_
  have hxB : wb + 1 = ib := by rw [HxB.out, HzA.out]
  have HcB := Lib.hid (Hc9.out.trans (HaA.out.trans HaB.out))
  have HTB := Lib.hid (row_kept (HaA.out.trans HaB.out) HT9.out id)
  have HMB := Lib.hid (row_kept (HaA.out.trans HaB.out) HM9.out id)
  have HRB := Lib.hid (row_kept (HaA.out.trans HaB.out) HR9.out id)
  have HQB := Lib.hid (row_kept HaB.out HbA.out id)
  have HIB := Lib.hid HbB.out
  have HnmB := Lib.hid (Hnm.out.chg (HaA.out.trans HaB.out) fun _ _ => id)
  have t0' : ((w9.alloc (.cells #[.slice wq tl wcp] 40)).alloc (.cells #[.int .i64 0] 3)).cell? ⟨tb, 0, none⟩ = some (.slice q n c) := by rw [HwA.out, HwB.out]; exact var1 HTB.out
  gi_wp2
  rw [HwA.out, HwB.out, ← HxA.out]
  rw [hxB]
  clear t0' hxB
  refine ⟨trivial, ?_⟩
  refine ((callsIn_wide (n := _)).2 (HQ.out _ HcB.out)).mono ?_
  rintro e wC ⟨hcC, b, fb, db, fv, nb, rfl, hbl, hfl, hdl, hbc, hfc, hdc, hns⟩
  have HcC := Lib.hid (HcB.out.trans hcC)
  have HTC := Lib.hid (row_kept hcC HTB.out id)
  have HMC := Lib.hid (row_kept hcC HMB.out id)
  have HRC := Lib.hid (row_kept hcC HRB.out id)
  have HQC := Lib.hid (row_kept hcC HQB.out id)
  have HIC := Lib.hid (row_kept hcC HIB.out id)
  have HnmC := Lib.hid (HnmB.out.chg hcC fun _ _ => id)
  have HszB := Lib.hid hcC.size
  have Hord := Lib.hid (show rb < wb ∧ wb < ib ∧ ib < wB.heap.size by have h1 := lt_of_block HR9.out; have := HxA.out; have := HzA.out; have := HxB.out; have := HzB.out; omega)
  obtain ⟨ml, hmlc⟩ := ml_keep Hml.out HcC.out
  have Hg0 := Lib.hid (cell_lt Hml.out.choose_spec)
  have Hseq := Lib.hid (names1_seq (4 - 1) b fb db (by decide) (fun k => k = rb ∨ k = ib) (NewB wB wC) l s Hl.out Hw2'.out (by have := Hsl2.out; omega) fv nb 0 wC
    (fun k hk x => by have h1 : wB.heap.size ≤ k := hk.1; have := Hord.out; omega) (fun k hk => hk.2) (fun k x => by have := Hord.out; have := HszB.out; omega)
    (fun x => by have := Hord.out; omega) (fun x => by have := Hord.out; omega) (cell_lt hfc) (cell_lt hdc)
    (fun W' h => ⟨ml, h.cell hmlc fun x => by have h1 := Hg0.out; change _ < _ at h1; have := Hord.out; have := Hrb.out; omega⟩) hbc hfc hdc hns)
  clear hcC hbl hfl hdl hbc hfc hdc hns HQ hmlc
  gi_wp2
  have HwlI := Lib.hid (show tl ≤ 1048576 by rw [Htl.out, Hts.out]; unfold namesL; refine Nat.le_trans (adjN_len _ _) ?_; rw [List.length_map]; exact Nat.le_trans (behind_len _ _) Hl.out)
  refine wpIn_range_over (α := List UInt8) rfl (by decide) (gf := 56) (lb := #[.pointer (some ⟨b, 0, none⟩)]) rfl trivial (enters_of Tryz.func56 (by kernel_rfl) rfl)
    Hseq.out KeepT.trans (fun W l o o' h hc => KeepT.putObj W l o o' h hc) (fun _ => rfl)
    (fun pre V => (Chg (fun k => k = rb ∨ k = ib) wC V ∧ Boxed V rb 4 (.bool false) ∧ Boxed V ib 3 (.int .i64 (pre.length : Int))) ∧ pre <+: ts)
    (fun co pre V => ((Chg (fun k => k = rb ∨ k = ib) wC V ∧ Boxed V rb 4 (.bool false) ∧ Boxed V ib 3 (.int .i64 (pre.length : Int))) ∧ co = .exit 0 ∧ (pre.length : Int) = most) ∨ (co = .ret ∧ ¬ pre <+: ts))
    (fun s A B row hs hg hr => ⟨⟨hs.1.1.grown hg fun k e => .inr (hr k e), hs.1.2.1.kept hg fun e => by have := hr _ e.symm; have := Hord.out; have := HszB.out; omega, hs.1.2.2.kept hg fun e => by have := hr _ e.symm; have := Hord.out; have := HszB.out; omega⟩, hs.2⟩)
    (fun co s A B row hs hg hr => hs.imp (fun hs => ⟨⟨hs.1.1.grown hg fun k e => .inr (hr k e), hs.1.2.1.kept hg fun e => by have := hr _ e.symm; have := Hord.out; have := HszB.out; omega, hs.1.2.2.kept hg fun e => by have := hr _ e.symm; have := Hord.out; have := HszB.out; omega⟩, hs.2⟩) id)
    ⟨⟨Chg.refl _ _, HRC.out, HIC.out⟩, List.nil_prefix⟩
    (fun x => { tmps := #[.agg #[.slice q n c], .string (tx s), .int .i64 most, .pointer (some ⟨tb, 0, none⟩), undef, .pointer (some ⟨mb, 0, none⟩), .pointer (some ⟨rb, 0, none⟩), .string (tx ga), .bool gb, .string (tx ga), .bool gb, .pointer (some ⟨wb, 0, none⟩), .pointer (some ⟨ib, 0, none⟩), .string (tx x), .bool true, .bool false, .pointer (some ⟨tb, 0, none⟩), .slice q n c, .bool false, .bool false, .string (tx s), .int .i64 sl, .bool (decide (4096 < (sl : Int))), .bool (decide (4096 < (sl : Int))), .bool (decide (4096 < (sl : Int))), .agg #[.slice q n c], .bool true, .bool false, .bool (decide (4096 < (sl : Int))), .tuple #[.string (tx ga), .bool gb], .agg #[.slice q n c], .string (tx s), .tuple #[.string (tx ga), .bool gb], .string (tx ga), .bool gb, .tuple #[.string (tx ga), .bool gb], .agg #[.slice q n c], .string (tx s), .tuple #[.string (tx ga), .bool gb], .string (tx ga), .bool gb, .agg #[.slice q n c], .string (tx s), .slice wq tl wcp, .agg #[.slice q n c], .string (tx s), .func (.func 56) #[] #[.pointer (some ⟨b, 0, none⟩)], .string (tx x), undef, undef, undef, undef, undef, undef, undef, undef, undef, undef, undef, undef, undef, undef, undef, undef, undef, undef, undef, undef, undef, undef, undef, undef, undef, undef, undef, undef, undef, undef, undef, undef, undef, undef, undef, undef], defers := [] }) ?assign ?body ?done ?stop
  case assign =>
    intro l' x V K hK
    gi_wp2
    exact hK
  case body =>
    rintro l' pre x V ⟨⟨hch, hres, hidx⟩, hpre⟩ hlen
    have Hch := Lib.hid hch
    have Hres := Lib.hid hres
    have Hidx := Lib.hid hidx
    have Hpre := Lib.hid hpre
    have w0 := var1 (row_kept hch HQC.out (by have := Hord.out; omega))
    have m0 := var1 (row_kept hch HMC.out (by have h := Hlt.out; have := Hord.out; omega))
    obtain ⟨pl, hpl⟩ : ∃ pl, pl = pre.length := ⟨_, rfl⟩
    have i0 := hidx.cell
    have i1 := hidx.frozen
    have r0 := hres.cell
    have r1 := hres.frozen
    rw [← hpl] at i0
    have Hpl := Lib.hid hpl
    clear hch hres hidx hpre hlen hpl
    try dsimp only
    by_cases hlt : pl < tl
    · have hlt' : pre.length < ts.length := by rw [← Hpl.out, ← Htl.out]; exact hlt
      obtain ⟨g, rfl, hgl, hgw, hcl⟩ := HnmC.out.cells rfl (Nat.lt_of_le_of_lt (Nat.zero_le _) hlt')
      have x0 := Hch.out.cell (hcl pre.length hlt') (show ¬ (g = rb ∨ g = ib) by have h1 := (World.ownsRow.lt Hnm.out g rfl); have h2 := lt_of_block HR9.out; have := Hc9.out.size; have := HxB.out; have := HxA.out; have := HzA.out; have h3 := lt_of_block HR8.out; omega)
      have hbeg := List.prefix_iff_eq_take.1 Hpre.out
      have Hnext := Lib.hid (show ∀ y, (pre ++ [y]) <+: ts ↔ y = ts[pre.length] from fun y => by
        constructor
        · rintro ⟨r, hr⟩
          have : ts[pre.length]? = some y := by rw [← hr]; simp
          rw [List.getElem?_eq_getElem hlt'] at this
          exact (Option.some.inj this).symm
        · rintro rfl
          refine ⟨ts.drop (pre.length + 1), ?_⟩
          rw [List.append_assoc, List.singleton_append, ← List.drop_eq_getElem_cons hlt']
          conv => lhs; arg 1; rw [hbeg]
          exact List.take_append_drop _ _)
      clear hbeg hcl hgl hgw
      generalize ts[pre.length] = y at *
      rw [← Hpl.out] at x0
      have hplb : pl ≤ 1048576 := by have := HwlI.out; omega
      have hge : ¬ ((pl : Int) ≥ (tl : Int)) := by omega
      have hne1 : ¬ mb = ib := by have := Hlt.out; have := Hord.out; omega
      have hne2 : ¬ ib = mb := by have := Hlt.out; have := Hord.out; omega
      have hr := tx_beq x y
      by_cases hxy : x = y
      · rw [decide_eq_true hxy] at hr
        have Hxy := Lib.hid ((Hnext.out x).2 hxy)
        subst hxy
        have Hst := Lib.hid ((Chg.refl (fun k => k = rb ∨ k = ib) V).setCell (p := ⟨ib, 0, none⟩) (.inl (.inr rfl)) (.int .i64 (pl + 1)))
        have Hr2 := Lib.hid (Hres.out.other (B' := ib) (by have := Hord.out; omega) (.int .i64 (pl + 1)))
        have Hi2 := Lib.hid (show Boxed (V.setCell ⟨ib, 0, none⟩ (.int .i64 (pl + 1))) ib 3 (.int .i64 ((pre ++ [x]).length : Int)) by rw [List.length_append, ← Hpl.out]; exact Hidx.out.set _)
        have Hl2 := Lib.hid (show ((pre ++ [x]).length : Int) = pl + 1 by rw [List.length_append, ← Hpl.out]; rfl)
        by_cases hmo : (pl : Int) + 1 = most
        · subst hmo
          gi_wp2
          exact ⟨KeepsOthers.setCell _ _ _, .inl ⟨⟨Hch.out.trans Hst.out, Hr2.out, Hi2.out⟩, rfl, Hl2.out⟩⟩
        · gi_wp2
          exact ⟨KeepsOthers.setCell _ _ _, Hst.out.keepT fun _ h => h, ⟨Hch.out.trans Hst.out, Hr2.out, Hi2.out⟩, Hxy.out⟩
      · rw [decide_eq_false hxy] at hr
        have Hxy := Lib.hid (fun h => hxy ((Hnext.out x).1 h))
        clear hxy
        gi_wp2
        exact ⟨KeepsOthers.setCell _ _ _, .inr ⟨rfl, Hxy.out⟩⟩
    · have hge : ((pl : Int) ≥ (tl : Int)) := by omega
      have Hno := Lib.hid (show ¬ (pre ++ [x]) <+: ts from fun h => by have h2 := h.length_le; rw [List.length_append, ← Hpl.out, ← Htl.out] at h2; simp at h2; omega)
      gi_wp2
      exact ⟨KeepsOthers.setCell _ _ _, .inr ⟨rfl, Hno.out⟩⟩
  case done =>
    rintro D' ys V hD rfl ⟨⟨hch, hres, hidx⟩, hpre⟩ hK
    have w0 := var1 (row_kept hch HQC.out (by have := Hord.out; omega))
    have m0 := var1 (row_kept hch HMC.out (by have h := Hlt.out; have := Hord.out; omega))
    have i0 := hidx.cell
    rw [show ((namesL s l).length : Int) = tl by rw [Htl.out, Hts.out]] at i0
    have r0 := hres.cell
    have r1 := hres.frozen
    have HE := Lib.hid (reads_fin HcC.out Hrb.out hch hres hK hD (by have := Hord.out; have := Hrb.out; omega))
    clear hch hres hidx hpre hK
    gi_wp2
    refine ⟨by simp, .inl ⟨_, _, rfl, run_takeDeferred (HE.out.1), ?_⟩⟩
    have hc6 := HE.out.2.1
    refine ⟨.bool true, ?_, rfl, HE.out.2.2⟩
    simp [results, Tryz.f5, go_sem, hc6]
  case stop =>
    rintro D' co pre V hD hpre (⟨⟨hch, hres, hidx⟩, rfl, hmo⟩ | ⟨rfl, hno⟩) hK
    · have w0 := var1 (row_kept hch HQC.out (by have := Hord.out; omega))
      have m0 := var1 (row_kept hch HMC.out (by have h := Hlt.out; have := Hord.out; omega))
      have i0 := hidx.cell
      have r0 := hres.cell
      have r1 := hres.frozen
      rw [hmo] at i0
      have HE := Lib.hid (reads_fin HcC.out Hrb.out hch hres hK hD (by have := Hord.out; have := Hrb.out; omega))
      clear hch hres hidx hpre hK hmo
      by_cases hmt : most = (tl : Int)
      · subst hmt
        gi_wp2
        refine ⟨by simp, .inl ⟨_, _, rfl, run_takeDeferred (HE.out.1), ?_⟩⟩
        have hc6 := HE.out.2.1
        refine ⟨.bool true, ?_, rfl, HE.out.2.2⟩
        simp [results, Tryz.f5, go_sem, hc6]
      · gi_wp2
        refine ⟨by simp, .inl ⟨_, _, rfl, run_takeDeferred (HE.out.1), ?_⟩⟩
        have hc6 := HE.out.2.1
        refine ⟨.bool true, ?_, rfl, HE.out.2.2⟩
        simp [results, Tryz.f5, go_sem, hc6]
    · exact absurd hpre (by rw [← Hts.out]; exact hno)
/-FRAME-/
set_option maxRecDepth 100000 in
theorem treeReads_lifted (os : Os) (started : os.Started) (H : Type) (enc : TypeId × Value → H) :
    ReturnsInHanded {} Tryz.checked os 5 .any (fun w args => (Rows.treeReadsSpec.pre enc Tryz.prog Tryz.f5 [] false w args ∧ laidMetH Tryz.prog Rows.treeReadsRow.laid w) ∧ sizedMet enc Tryz.prog Tryz.f5 (OpenSpec.ofChange Rows.treeReadsSpec) false w args)
      (Rows.treeReadsSpec.post enc Tryz.prog Tryz.f5 false true false false) := by
  refine returns_both (C := Tryz.checked) (X := fun w _ => laidMetH Tryz.prog Rows.treeReadsRow.laid w) (fun _ _ _ hh h => h.of_heap hh) Tryz.own started (by kernel_rfl) Tryz.func5
    (ChangeSpec.witness_shaped (enc := enc) (C := Tryz.checked) (os := os) (X := fun w _ => laidMetH Tryz.prog Rows.treeReadsRow.laid w) false (World.laidAll Tryz.prog os Rows.treeReadsRow.laid) #[.agg #[.slice none 0 0], .string ByteArray.empty, .int .i64 0] 8 (World.laidAll_os _ _ _)
      (World.shaped_of_ZipB (by kernel_rfl) (by kernel_rfl)) (by kernel_rfl) (by kernel_rfl) (by kernel_rfl)
      (by rw [MakeChecks.laidMetH_plain _ _ _ (by kernel_rfl)]; exact laidMet_laidAll _ (by kernel_rfl) (by kernel_rfl))) ?_
  intro W base args ds gs before hval0 hW _ hsz hL hsh _
  have hval : ∀ (j : Nat) t v, Tryz.f5.params[j]? = some t → args[j]? = some v → Value.okWide Tryz.prog W .any base t v := hval0
  have hW' := hW
  obtain ⟨p, q, hA0, hV, rfl, _, _⟩ := hW
  have hA : DataW.TrodAll enc Tryz.prog W 0 (fun _ => true) true Tryz.f5.params.toList args.toList ds p := hA0
  have hsz1 : (DataW.weightsEach Tryz.prog (Tryz.f5.params.toList ++ Rows.treeReadsSpec.plain.varTypes Tryz.prog) (ds ++ gs)).all (· ≤ reachBytes) = true := hsz
  rw [Tryz.params5] at hA hval hsz1
  obtain ⟨v0, v1, v2, d0, d1, d2, p0, p1, p2, rfl, rfl, rfl, h0, h1, h2⟩ := trodAll_three hA
  obtain ⟨rfl, rfl⟩ := trodVars_none hV
  obtain ⟨l0, c0, kb0, ko0, rfl, hn0, hr0⟩ := open_tree (hval 0 26 v0 rfl rfl) h0 (fun m hm => of_decide_eq_true (List.all_eq_true.1 hsz1 m (DataW.weights_mem_each (j := 0) (t := 26) (d := d0) rfl rfl m hm)))
  obtain ⟨x1, rfl, rfl, rfl, wx1⟩ := open_string Tryz.underlying9 (hval 1 9 v1 rfl rfl) h1
  obtain ⟨x2, rfl, rfl, rfl, wx2⟩ := open_int Tryz.underlying3 (hval 2 3 v2 rfl rfl) h2
  simp only [List.append_nil] at hW'
  rw [MakeChecks.laidMetH_plain _ _ _ (by kernel_rfl)] at hL
  have hL' : laidMet Tryz.prog [("math/bits.deBruijn32tab", Rows.laid_math_bits_deBruijn32tab), ("math/bits.deBruijn64tab", Rows.laid_math_bits_deBruijn64tab), ("internal/strconv.uint64pow10", Rows.laid_internal_strconv_uint64pow10), ("unicode/utf8.acceptRanges", Rows.laid_unicode_utf8_acceptRanges), ("unicode/utf8.first", Rows.laid_unicode_utf8_first)] W := hL
  have hlb : Lw W.heap.size W := lw_of hL' (.tail _ (.tail _ (.head _)))
  have hml : Pth.Ml W := wml_of hsh
  clear hA0 hval0
  refine (treeReads_all l0 _ kb0 ko0 x1 x2 W hn0 hr0 wx1 wx2 hlb hml).mono fun e W' ⟨he, hb⟩ => ?_
  subst he
  exact ⟨_, rfl, _, _, _, [], _, [], hW', trodAll_mk1 (shut_bool Tryz.underlying4 _), (trodAll_cons_mk (tree_stays h0 hb.below) (trodAll_cons_mk (shut_string Tryz.underlying9 wx1) (trodAll_cons_mk (shut_int Tryz.underlying3 wx2) trodAll_mk0))), rfl, hb.below.frame _, fun h => by cases h⟩
theorem treeReads_holds : Rows.TreeReadsSaid :=
  OpenClaim.holds_of_wide 5 Tryz.f5 rfl rfl rfl rfl rfl rfl rfl ⟨rfl, rfl, rfl, rfl, rfl⟩ rfl rfl rfl rfl rfl (by kernel_rfl) Tryz.func5 (by kernel_rfl)
    (of_decide_eq_true (by kernel_rfl)) (by unfold Func.isWrapper; first | (rw [if_pos (by decide +kernel)]; kernel_rfl) | (rw [if_neg (by decide +kernel)]; exact ⟨rfl, rfl⟩))
    (fun os started H enc _ => treeReads_lifted os started H enc)
theorem treeReads_card : Rows.TreeReadsCardSaid :=
  Claim7.holds_tied_plain_at .later [] [.data, .data, .data, .data, .pinned] true (true, "ae40126c67c6ca9ad63bc136dd30ebf461b3d4ff067546d356e722ee9505be06") true treeReads_holds (fun _ h => by cases h) (by kernel_rfl) (fun _ h => by cases h) treeReads_row_tie rfl ⟨rfl, rfl⟩ (by kernel_rfl) rfl
    (fun f fn hf hfn => by
      obtain rfl : f = 5 := Option.some.inj ((show Tryz.prog.funcNamed "sapling/saplinglaw05.TreeReads" = some 5 by kernel_rfl).symm.trans hf) |>.symm
      obtain rfl : fn = Tryz.f5 := (Option.some.inj (Tryz.func5.symm.trans hfn)).symm
      exact ⟨by kernel_rfl, fun j t ht => by
        rw [Tryz.params5] at ht
        have hm : t ∈ [26, 9, 3] := by simpa using Array.mem_of_getElem? ht
        have hall : ([26, 9, 3].all fun u => !Tryz.prog.wantsStandIn u) = true := by kernel_rfl
        exact (show Tryz.prog.wantsStandIn t = false by simpa using List.all_eq_true.1 hall t hm)⟩)
    (by kernel_rfl)
#print axioms treeReads_card
end Go.Proofs.YtilkcjcmcnlfnaaGreatDoor
