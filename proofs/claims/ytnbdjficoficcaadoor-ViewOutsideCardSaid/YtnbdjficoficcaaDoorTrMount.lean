/- The contracts of Mount: the program's and the document's. Condition: texts of at most 2^18 bytes, at most 2^20 files; the library's own variable holds some number. -/
import Derived.Test.YtnbdjficoficcaaDoorTrCut
namespace Go.Proofs.YtnbdjficoficcaaDoor
set_option linter.unusedVariables false
open Go.ChangeShapes Go.WideShapes Go.ChangeAt Go.RowKit
theorem mountF_no {t s : List FileL} {d : List UInt8} (h : ¬ (goodF t = true ∧ goodF s = true)) : mountF t d s = .error 1 := by unfold mountF; rw [if_neg h]
theorem mountF_bad {t s : List FileL} {d : List UInt8} (h : goodF t = true) (h' : goodF s = true) (h2 : Pth.placeL d = false) : mountF t d s = .error 10 := by unfold mountF; rw [if_pos ⟨h, h'⟩, if_neg (by rw [h2]; decide)]
theorem mountF_join {t s : List FileL} {d : List UInt8} (h : goodF t = true) (h' : goodF s = true) (h2 : Pth.placeL d = true) (h3 : joinF d s = none) : mountF t d s = .error 10 := by unfold mountF; rw [if_pos ⟨h, h'⟩, if_pos h2, h3]
theorem mountF_yes {t s : List FileL} {d : List UInt8} {l : List FileL} (h : goodF t = true) (h' : goodF s = true) (h2 : Pth.placeL d = true) (h3 : joinF d s = some l) : mountF t d s = makeF (t ++ l) := by unfold mountF; rw [if_pos ⟨h, h'⟩, if_pos h2, h3]
theorem joinF_short {d : List UInt8} : ∀ {a l : List FileL}, joinF d a = some l → (∀ x ∈ a, x.2.length ≤ 2048) → ∀ x ∈ l, x.1.length ≤ 128 ∧ x.2.length ≤ 2048
  | [], l, h, _ => by cases h; exact fun x hx => nomatch hx
  | y :: r, l, h, ha => by
    rw [joinF] at h
    split at h
    · cases hr : joinF d r with
      | none => rw [hr] at h; cases h
      | some l' =>
        rw [hr] at h
        cases h
        intro x hx
        rcases List.mem_cons.1 hx with rfl | hx
        · exact ⟨jn_short _ _, ha y (List.mem_cons_self ..)⟩
        · exact joinF_short hr (fun z hz => ha z (List.mem_cons_of_mem _ hz)) x hx
    · cases h
theorem InpS.news {w : World} {S : Nat → Prop} {q : Option Addr} {n c : Nat} {l : List FileL} {kb ko : Nat} (h : InpS w S (.slice q n c) l kb ko) : (∃ a, q = some a ∧ ∀ j u, (flatP l)[j]? = some u → w.cell? (a.add j) = some u) ∨ (q = none ∧ l.length = 0 ∧ flatP l = []) := by
  obtain ⟨⟨q', c', e', h1, h2, h3⟩, hat⟩ := h
  cases e'
  cases q with
  | none =>
    right
    obtain rfl : l = [] := by
      by_cases h : l = []
      · exact h
      · obtain ⟨h, -⟩ := h3 h; cases h
    exact ⟨rfl, rfl, rfl⟩
  | some a =>
    left
    refine ⟨a, rfl, fun j u hj => ?_⟩
    have hlt : j < (flatP l).length := (List.getElem?_eq_some_iff.1 hj).1
    rw [flatP_len] at hlt
    have hne : l ≠ [] := by rintro rfl; simp at hlt
    obtain ⟨ha, -⟩ := h3 hne
    cases ha
    have hd : j / 2 < l.length := by omega
    obtain ⟨g0, g1⟩ := flatP_at l (j / 2) hd
    obtain ⟨c0, c1⟩ := hat (j / 2) hd
    rcases Nat.mod_two_eq_zero_or_one j with hm | hm
    · have e : j / 2 * 2 = j := by omega
      rw [e] at g0 c0
      rw [g0] at hj
      cases hj
      rw [Go.WideShapes.add_plain]
      exact c0
    · have e : j / 2 * 2 + 1 = j := by omega
      rw [e] at g1
      rw [Nat.add_assoc, e] at c1
      rw [g1] at hj
      cases hj
      rw [Go.WideShapes.add_plain]
      exact c1
theorem run_append_none {P : Program} {w : World} (base : Nat) (t ty e : TypeId) (i : TypeInfo) (size c : Nat) (ht : P.underlying t = some (.slice e)) (hi : P.info? e = some i)
    (v : Value) (n : Nat) (xs : List Value) (hown : w.ownsRow base e size v n xs) : (Builtin.append_ #[t, t] ty #[v, .slice none 0 c]).run P w = .ok v w := by
  rcases hown.2 with ⟨rfl, rfl⟩ | ⟨g, cap, cur, rfl, _, _, hnc, _⟩
  · simp [Builtin.append_, run_underlying ht, sizeOf, typeInfo, hi, Builtin.lenOf, Builtin.firstCells]
  · simp [Builtin.append_, run_underlying ht, sizeOf, typeInfo, hi, Builtin.lenOf, Builtin.firstCells, hnc, storeCells]
theorem wpList_append_inp {P : Program} (w : World) {ops : Array Oper} {rest : List Oper} {o : Oper} {a : Act} {Q : Exit → Act → World → Prop} (hgd : o.guard = none) (s x : Operand) (t : TypeId)
    (ho : o.op = .call { callee := .builtin .append, args := #[s, x], argTypes := #[t, t] })
    (base : Nat) (e : TypeId) (i : TypeInfo) (z : Value) (size bytes : Nat) (ht : P.underlying t = some (.slice e)) (hi : P.info? e = some i) (hz : i.zero = some z)
    (hsize : i.size = size) (hby : i.bytes = bytes) (hzs : z.cells.size = size) (hsz : 0 < size)
    (v : Value) (n : Nat) (xs : List Value) (hs : a.eval s = v) (hown : w.ownsRow base e size v n xs)
    (q : Option Addr) (m c : Nat) (news : List Value) (hx : a.eval x = .slice q m c) (hq : (∃ ad, q = some ad ∧ ∀ j u, news[j]? = some u → w.cell? (ad.add j) = some u) ∨ (q = none ∧ m = 0 ∧ news = [])) (hl : news.length = m * size) (h1 : ∀ u ∈ news, u.oneCell' = true)
    (h63 : n + m ≤ maxLen) (hbytes : (n + m) * bytes ≤ 140737488355328) (hbase : base ≤ w.heap.size)
    (h : ∀ v' w', w'.ownsRow base e size v' (n + m) (xs ++ news) → w.grownBy w' v.ownBlock → wpList P ops Q rest (a.put o.dst v') w') : wpList P ops Q (o :: rest) a w := by
  rcases hq with ⟨ad, rfl, hnews⟩ | ⟨rfl, rfl, rfl⟩
  · exact wpList_append_at w hgd s x t ho base e i z size bytes ht hi hz hsize hby hzs hsz v n xs hs hown ad m c news hx hl hnews h1 h63 hbytes hbase fun v' w' h2 h3 _ => h v' w' h2 h3
  · refine wpList_plain hgd fun K hK => ?_
    have hrun := run_append_none (P := P) (w := w) base t o.type e i size c ht hi v n xs hown
    unfold Oper.wp
    simp [execOp, ho, resolve, invoke, builtin, hs, hx, hrun, Result.andThen]
    exact hK _ _ (h v w (by rw [List.append_nil]; exact hown) (World.grownBy.refl _ _))
set_option maxHeartbeats 8000000 in
set_option maxRecDepth 20000 in
theorem tmount_any (t s : List FileL) (d : List UInt8) (hl : t.length ≤ 1048576) (hw : ∀ x ∈ t, x.1.length ≤ 1048576 ∧ x.2.length ≤ 1048576) (hsl : s.length ≤ 1048576) (hsw : ∀ x ∈ s, x.1.length ≤ 1048576 ∧ x.2.length ≤ 1048576) (hd : d.length ≤ 262144)
    (S : Nat → Prop) (v : Value) (kb ko : Nat) (S2 : Nat → Prop) (v2 : Value) (kb2 ko2 : Nat) (w : World) (hm : Pth.Ml w) (hs : InpS w S v t kb ko) (hs2 : InpS w S2 v2 s kb2 ko2) :
    Calls Tryd.prog 22 #[.agg #[v], .string (tx d), .agg #[v2]] w (MakeP (mountF t d s) w) := by
  have Hs := Lib.hid hs
  have Hs2 := Lib.hid hs2
  obtain ⟨⟨q, c, rfl, -, -, -⟩, -⟩ := hs
  obtain ⟨⟨q2, c2, rfl, h1, h2, h3⟩, hat⟩ := hs2
  have Hat := Lib.hid hat
  have H3 := Lib.hid h3
  unfold maxLen at h2
  have Hm := Lib.hid hm
  have Hl := Lib.hid hl
  have HG := Lib.hid (fun w' (h : Chg NoB w w') => tgood_any t hl hw S _ kb ko w' (ml_keep hm h) (Hs.out.keep h fun _ _ => id))
  have HG2 := Lib.hid (fun w' (h : Chg NoB w w') => tgood_any s hsl hsw S2 _ kb2 ko2 w' (ml_keep hm h) (Hs2.out.keep h fun _ _ => id))
  have HP := Lib.hid (fun w' (h : Chg NoB w w') => tplace_any d w' hd (ml_keep hm h))
  obtain ⟨gd, hgd⟩ : ∃ g, g = goodF t := ⟨_, rfl⟩
  rw [← hgd] at HG
  have Hgd := Lib.hid hgd
  obtain ⟨gs, hgs⟩ : ∃ g, g = goodF s := ⟨_, rfl⟩
  rw [← hgs] at HG2
  have Hgs := Lib.hid hgs
  obtain ⟨pd, hpd⟩ : ∃ g, g = Pth.placeL d := ⟨_, rfl⟩
  rw [← hpd] at HP
  have Hpd := Lib.hid hpd
  obtain ⟨n, hn⟩ : ∃ n, n = t.length := ⟨_, rfl⟩
  rw [← hn] at Hs HG ⊢
  have Hn := Lib.hid hn
  obtain ⟨n2, hn2⟩ : ∃ n, n = s.length := ⟨_, rfl⟩
  rw [← hn2] at Hs2 HG2 h1 ⊢
  have Hn2 := Lib.hid hn2
  obtain ⟨res, hres⟩ : ∃ r, r = mountF t d s := ⟨_, rfl⟩
  rw [← hres]
  have Hres0 := Lib.hid hres
  have hal_ := (Chg.refl NoB w).alloc (.cells #[.slice q n c] 27)
  have hb_ := heap_alloc_new w (.cells #[.slice q n c] 27)
  obtain ⟨tb, hxb_⟩ : ∃ b, b = w.heap.size := ⟨_, rfl⟩
  obtain ⟨w1, hw_⟩ : ∃ w_, w.alloc (.cells #[.slice q n c] 27) = w_ := ⟨_, rfl⟩
  have hz_ : w1.heap.size = tb + 1 := by rw [← hw_, hxb_]; exact alloc_size _ _
  rw [hw_] at hal_ hb_
  rw [← hxb_] at hb_
  have Hw1 := Lib.hid hw_
  have Hx1 := Lib.hid hxb_
  have Ha1 := Lib.hid hal_
  have Hb1 := Lib.hid hb_
  have Hz1 := Lib.hid hz_
  clear hal_ hb_ hxb_ hw_ hz_
  have hal_ := (Chg.refl NoB w1).alloc (.cells #[.slice q2 n2 c2] 27)
  have hb_ := heap_alloc_new w1 (.cells #[.slice q2 n2 c2] 27)
  obtain ⟨sb, hxb_⟩ : ∃ b, b = w1.heap.size := ⟨_, rfl⟩
  obtain ⟨w2, hw_⟩ : ∃ w_, w1.alloc (.cells #[.slice q2 n2 c2] 27) = w_ := ⟨_, rfl⟩
  have hz_ : w2.heap.size = sb + 1 := by rw [← hw_, hxb_]; exact alloc_size _ _
  rw [hw_] at hal_ hb_
  rw [← hxb_] at hb_
  have Hw2 := Lib.hid hw_
  have Hx2 := Lib.hid hxb_
  have Ha2 := Lib.hid hal_
  have Hb2 := Lib.hid hb_
  have Hz2 := Lib.hid hz_
  clear hal_ hb_ hxb_ hw_ hz_
  have hal_ := (Chg.refl NoB w2).alloc (.cells #[.slice none 0 0] 27)
  have hb_ := heap_alloc_new w2 (.cells #[.slice none 0 0] 27)
  obtain ⟨rb, hxb_⟩ : ∃ b, b = w2.heap.size := ⟨_, rfl⟩
  obtain ⟨w3, hw_⟩ : ∃ w_, w2.alloc (.cells #[.slice none 0 0] 27) = w_ := ⟨_, rfl⟩
  have hz_ : w3.heap.size = rb + 1 := by rw [← hw_, hxb_]; exact alloc_size _ _
  rw [hw_] at hal_ hb_
  rw [← hxb_] at hb_
  have Hw3 := Lib.hid hw_
  have Hx3 := Lib.hid hxb_
  have Ha3 := Lib.hid hal_
  have Hb3 := Lib.hid hb_
  have Hz3 := Lib.hid hz_
  clear hal_ hb_ hxb_ hw_ hz_
  have Hwr := Lib.hid (show w.heap.size ≤ rb by have := Hx1.out; have := Hz1.out; have := Hx2.out; have := Hz2.out; have := Hx3.out; omega)
  have Hc3 := Lib.hid (Ha1.out.trans (Ha2.out.trans Ha3.out))
  have Ht3 := Lib.hid (row_kept (Ha2.out.trans Ha3.out) Hb1.out id)
  have Hu3 := Lib.hid (row_kept Ha3.out Hb2.out id)
  have hx2 : tb + 1 = sb := by rw [Hx2.out, Hz1.out]
  have hx3 : sb + 1 = rb := by rw [Hx3.out, Hz2.out]
  obtain ⟨i0, hi, hz0, hz1, hz2⟩ := info_parts inpInfo
  have Hi := Lib.hid hi
  have Hz0 := Lib.hid hz0
  have Hzb1 := Lib.hid hz1
  have Hzb2 := Lib.hid hz2
  clear hm hl hw hgd hn hres hi hz0 hz1 hz2 h3 hat hpd hgs hn2 hsl hsw
  have t0 := var1 Ht3.out
  have s0 := var1 Hu3.out
  go_enter Tryd.func22, Tryd.ntmps22
  go_upto_region 1 with fail
  rw [Hw1.out, Hw2.out, Hw3.out, ← Hx1.out]
  rw [hx2, hx3]
  clear hx2 hx3
  cases gd with
  | false =>
    have Hres : Hid (res = .error 1) := Lib.hid (by rw [Hres0.out]; exact mountF_no (by rw [← Hgd.out]; exact fun h => by cases h.1))
    go_wp2_with (go_at_call 13; refine (HG.out _ Hc3.out).mono ?_; rintro e w4 ⟨rfl, hc4⟩; have Hc4 := Lib.hid (Hc3.out.trans hc4); have Hr4 := Lib.hid (row_kept hc4 Hb3.out id); clear hc4; have r0 := var1 Hr4.out; have rf := row_free Hr4.out; clear t0 s0)
    have e0 := var1 (heap_set Hr4.out (i := 0) (.slice none 0 0))
    have hfin := Hc4.out.setCell (p := ⟨rb, 0, none⟩) (.inr Hwr.out) (.slice none 0 0)
    generalize w4.setCell ⟨rb, 0, none⟩ (.slice none 0 0) = wf at *
    refine bodyPost_ret (v := .tuple #[.agg #[.slice none 0 0], .int .i64 1]) (by simp [results, Tryd.results22, go_sem, e0]) rfl ⟨hfin, ?_⟩
    rw [Hres.out]
  | true =>
  have Hsz := Lib.hid (good_sizes Hgd.out.symm)
  have hnb : n ≤ 32 := by rw [Hn.out]; exact Hsz.out.1
  cases gs with
  | false =>
    have Hres : Hid (res = .error 1) := Lib.hid (by rw [Hres0.out]; exact mountF_no (by rw [← Hgs.out]; exact fun h => by cases h.2))
    go_wp2_with fail
    refine (HG.out _ Hc3.out).mono ?_
    rintro e w4 ⟨rfl, hc4⟩
    have Hc4 := Lib.hid (Hc3.out.trans hc4)
    have Hr4 := Lib.hid (row_kept hc4 Hb3.out id)
    have Hu4 := Lib.hid (row_kept hc4 Hu3.out id)
    clear hc4 t0 s0
    have s0 := var1 Hu4.out
    go_wp2_with fail
    refine (HG2.out _ Hc4.out).mono ?_
    rintro e w5 ⟨rfl, hc5⟩
    have Hc5 := Lib.hid (Hc4.out.trans hc5)
    have Hr5 := Lib.hid (row_kept hc5 Hr4.out id)
    clear hc5 s0
    have r0 := var1 Hr5.out
    have rf := row_free Hr5.out
    go_wp2_with fail
    have e0 := var1 (heap_set Hr5.out (i := 0) (.slice none 0 0))
    have hfin := Hc5.out.setCell (p := ⟨rb, 0, none⟩) (.inr Hwr.out) (.slice none 0 0)
    generalize w5.setCell ⟨rb, 0, none⟩ (.slice none 0 0) = wf at *
    refine bodyPost_ret (v := .tuple #[.agg #[.slice none 0 0], .int .i64 1]) (by simp [results, Tryd.results22, go_sem, e0]) rfl ⟨hfin, ?_⟩
    rw [Hres.out]
  | true =>
  have Hsz2 := Lib.hid (good_sizes Hgs.out.symm)
  have hnb2 : n2 ≤ 32 := by rw [Hn2.out]; exact Hsz2.out.1
  go_wp2_with fail
  refine (HG.out _ Hc3.out).mono ?_
  rintro e w4 ⟨rfl, hc4⟩
  have Hc4 := Lib.hid (Hc3.out.trans hc4)
  have Hr4 := Lib.hid (row_kept hc4 Hb3.out id)
  have Ht4 := Lib.hid (row_kept hc4 Ht3.out id)
  have Hu4 := Lib.hid (row_kept hc4 Hu3.out id)
  clear hc4 t0 s0
  have s0 := var1 Hu4.out
  go_wp2_with fail
  refine (HG2.out _ Hc4.out).mono ?_
  rintro e w5 ⟨rfl, hc5⟩
  have Hc5 := Lib.hid (Hc4.out.trans hc5)
  have Hr5 := Lib.hid (row_kept hc5 Hr4.out id)
  have Ht5 := Lib.hid (row_kept hc5 Ht4.out id)
  have Hu5 := Lib.hid (row_kept hc5 Hu4.out id)
  clear hc5 s0
  go_wp2_with fail
  refine (HP.out _ Hc5.out).mono ?_
  rintro e w6 ⟨rfl, hc6⟩
  have Hc6 := Lib.hid (Hc5.out.trans hc6)
  have Hr6 := Lib.hid (row_kept hc6 Hr5.out id)
  have Ht6 := Lib.hid (row_kept hc6 Ht5.out id)
  have Hu6 := Lib.hid (row_kept hc6 Hu5.out id)
  clear hc6
  cases pd with
  | false =>
    have Hres : Hid (res = .error 10) := Lib.hid (by rw [Hres0.out]; exact mountF_bad Hgd.out.symm Hgs.out.symm Hpd.out.symm)
    have r0 := var1 Hr6.out
    have rf := row_free Hr6.out
    go_wp2_with fail
    have e0 := var1 (heap_set Hr6.out (i := 0) (.slice none 0 0))
    have hfin := Hc6.out.setCell (p := ⟨rb, 0, none⟩) (.inr Hwr.out) (.slice none 0 0)
    generalize w6.setCell ⟨rb, 0, none⟩ (.slice none 0 0) = wf at *
    refine bodyPost_ret (v := .tuple #[.agg #[.slice none 0 0], .int .i64 10]) (by simp [results, Tryd.results22, go_sem, e0]) rfl ⟨hfin, ?_⟩
    rw [Hres.out]
  | true =>
  clear HP HG HG2
  have t0 := var1 Ht6.out
  have hrl := lt_of_block Hr6.out
  have HCl := Lib.hid (clone_any t S _ kb ko w6 Hl.out (Hs.out.keep Hc6.out fun _ _ => id))
  go_upto_region 6 with (refine HCl.out.mono ?_; rintro e w7 ⟨hc7, v7, rfl, hrow7⟩)
  rw [← Hn.out] at hrow7
  obtain ⟨q7, c7, rfl, -, -⟩ := row_shape hrow7
  have Hrow7 := Lib.hid hrow7
  have Hg7 := Lib.hid hc7
  have Hc7 := Lib.hid (Hc6.out.trans hc7)
  have Hr7 := Lib.hid (row_kept hc7 Hr6.out id)
  have Hu7 := Lib.hid (row_kept hc7 Hu6.out id)
  clear hc7 hrow7 HCl
  obtain ⟨lo, hlo⟩ : ∃ l, l = w6.heap.size := ⟨_, rfl⟩
  rw [← hlo] at Hrow7
  have Hord := Lib.hid (show w.heap.size ≤ rb ∧ rb < lo by have := Hwr.out; omega)
  have Hlo := Lib.hid (show lo ≤ w7.heap.size by rw [hlo]; exact Hg7.out.size)
  have s0 := var1 Hu7.out
  clear hlo hrl t0
  go_wp2_with fail
  clear s0
  go_loopw [8, 32] (fun f i wr => ∃ (k : Nat) (acc : List FileL), k ≤ n2 ∧ i = .int .i64 k ∧ joinF d (s.take k) = some acc ∧ wr.ownsRow lo 47 2 f (n + k) (flatP (t ++ acc)) ∧ wr.heap[rb]? = some (.cells #[.slice none 0 0] 27 (0, 0)) ∧ Chg NoB w wr ∧ lo ≤ wr.heap.size) (fun f i _ => n2 - (intOf i).toNat)
  case atStart => exact ⟨0, [], Nat.zero_le _, rfl, by rw [List.take_zero]; rfl, by rw [List.append_nil]; exact Hrow7.out, Hr7.out, Hc7.out, Hlo.out⟩
  case round =>
    obtain ⟨k, acc, hk, rfl, hjn, hrow, hrr, hcw, hlw⟩ := hrel
    obtain ⟨lq, lc, rfl, hnc, hcm⟩ := row_shape hrow
    have Hrow := Lib.hid hrow
    have Hrr := Lib.hid hrr
    have Hcw := Lib.hid hcw
    have Hjn := Lib.hid hjn
    unfold maxLen at hcm
    clear hrow hrr hcw hjn
    by_cases hlt : k < n2
    · have hlt' : k < s.length := by rw [← Hn2.out]; exact hlt
      obtain ⟨rfl, -⟩ := H3.out (by intro e; rw [e] at hlt'; simp at hlt')
      have c0 := Hcw.out.keep (Hat.out k hlt').1
      have c1 := Hcw.out.keep (Hat.out k hlt').2
      have Hxm := Lib.hid (List.getElem_mem hlt')
      have Htk : Hid (s.take (k + 1) = s.take k ++ [s[k]]) := Lib.hid (by rw [List.take_add_one, List.getElem?_eq_getElem hlt']; rfl)
      generalize s[k] = x at *
      obtain ⟨x1, x2⟩ := x
      simp only at c0 c1
      have hx1 : x1.length ≤ 262144 := by have h := (Hsz2.out.2 _ Hxm.out).1; change x1.length ≤ _ at h; omega
      have HU := Lib.hid (fun w' (h : Chg NoB w w') => tjoin_any d x1 w' hd hx1 (ml_keep Hm.out h))
      have hjc := jn_cases d x1
      have hjb := fun h => joinF_bad (d := d) Hxm.out h
      have hjs := fun h => joinF_snoc (x := (x1, x2)) Hjn.out h
      rw [← Htk.out] at hjs
      simp only at hjb hjs
      obtain ⟨u1, hu1⟩ : ∃ u, u = (jnL d x1).1 := ⟨_, rfl⟩
      obtain ⟨u2, hu2⟩ : ∃ u, u = (jnL d x1).2 := ⟨_, rfl⟩
      rw [← hu1, ← hu2] at HU hjc hjs
      rw [← hu2] at hjb
      have Hjb := Lib.hid hjb
      have Hjs := Lib.hid hjs
      clear hlt' hx1 hu1 hu2 hjb hjs
      have hal_ := (Chg.refl NoB wr).alloc (.cells #[.string (tx x1), .string (tx x2)] 47)
      have hb_ := heap_alloc_new wr (.cells #[.string (tx x1), .string (tx x2)] 47)
      obtain ⟨fb, hxb_⟩ : ∃ b, b = wr.heap.size := ⟨_, rfl⟩
      obtain ⟨w8, hw_⟩ : ∃ w_, wr.alloc (.cells #[.string (tx x1), .string (tx x2)] 47) = w_ := ⟨_, rfl⟩
      have hz_ : w8.heap.size = fb + 1 := by rw [← hw_, hxb_]; exact alloc_size _ _
      rw [hw_] at hal_ hb_
      rw [← hxb_] at hb_
      have Hw8 := Lib.hid hw_
      have Hx8 := Lib.hid hxb_
      have Ha8 := Lib.hid hal_
      have Hb8 := Lib.hid hb_
      have Hz8 := Lib.hid hz_
      clear hal_ hb_ hxb_ hw_ hz_
      go_upto_region 9 with fail
      rw [Hw8.out, ← Hx8.out]
      clear c0 c1
      obtain ⟨f0, f1⟩ := var2 Hb8.out
      have Hc8 := Lib.hid (Hcw.out.trans Ha8.out)
      rcases hjc with ⟨hu, -⟩ | ⟨hu, -⟩
      · subst hu
        have Hj' : Hid (joinF d (s.take (k + 1)) = some (acc ++ [(u1, x2)])) := Lib.hid (Hjs.out rfl)
        go_wp2_with fail
        refine (HU.out _ Hc8.out).mono ?_
        rintro e w9 ⟨hc9, rfl⟩
        have Hg9 := Lib.hid (Ha8.out.trans hc9)
        have g1 := (var2 (row_kept hc9 Hb8.out id)).2
        clear hc9 f0 f1
        have Hcw9 := Lib.hid (Hcw.out.trans Hg9.out)
        have halA := (Chg.refl NoB w9).alloc (.cells #[.string (tx u1), .string (tx x2)] 47)
        have HcA := Lib.hid (Hcw9.out.trans halA)
        have HownA := Lib.hid (ownsRow_chg Hrow.out (Hg9.out.trans halA) fun _ _ => id)
        have HloA : Hid (lo ≤ (w9.alloc (.cells #[.string (tx u1), .string (tx x2)] 47)).heap.size) := Lib.hid (by have h2 := Hg9.out.size; have h4 := halA.size; omega)
        have HrA := Lib.hid (row_kept (Hg9.out.trans halA) Hrr.out id)
        have M1 := Lib.hid (show n + k + 1 ≤ maxLen by unfold maxLen; omega)
        have M2 := Lib.hid (show (n + k + 1) * 32 ≤ 140737488355328 by omega)
        clear halA
        go_wp2_with (at_builtin; refine wpList_append_at _ rfl _ _ 25 rfl lo 47 i0 (.agg #[.string ⟨#[]⟩, .string ⟨#[]⟩]) 2 32 Tryd.underlying25 Hi.out Hz0.out Hzb1.out Hzb2.out rfl (by decide) _ (n + k) _ rfl HownA.out _ 1 1 [.string (tx u1), .string (tx x2)] rfl rfl (lit2 _ _ _ _) (one2 _ _) M1.out M2.out HloA.out ?_; intro v11 w11 hown11 hgr11 hpl11)
        have Hch11 : Hid (Chg NoB w w11) := Lib.hid (HcA.out.grown hgr11 fun j hj => .inr (by have h1 := (World.ownsRow.lt HownA.out j hj).1; have := Hord.out; omega))
        have Hr11 := Lib.hid (row_kept ((Chg.refl (fun j => (Value.slice lq (n + k) lc).ownBlock = some j) _).grown hgr11 fun j hj => .inl hj) HrA.out (fun e => by have h1 := (World.ownsRow.lt HownA.out rb e).1; have := Hord.out; omega))
        have Hlo11 : Hid (lo ≤ w11.heap.size) := Lib.hid (Nat.le_trans HloA.out ((Chg.refl (fun j => (Value.slice lq (n + k) lc).ownBlock = some j) _).grown hgr11 fun j hj => .inl hj).size)
        have Hown11 : Hid (w11.ownsRow lo 47 2 v11 (n + (k + 1)) (flatP (t ++ (acc ++ [(u1, x2)])))) := Lib.hid (by rw [← List.append_assoc, flatP_app]; exact hown11)
        clear hown11 hgr11 hpl11
        go_wp2_with fail
        go_roundw
        case rel => exact ⟨k + 1, acc ++ [(u1, x2)], by omega, by go_num, Hj'.out, Hown11.out, Hr11.out, Hch11.out, Hlo11.out⟩
        case measure => simp [intOf]; omega
      · subst hu
        have Hres : Hid (res = .error 10) := Lib.hid (by rw [Hres0.out]; exact mountF_join Hgd.out.symm Hgs.out.symm Hpd.out.symm (Hjb.out (by decide)))
        go_wp2_with fail
        refine (HU.out _ Hc8.out).mono ?_
        rintro e w9 ⟨hc9, rfl⟩
        have Hg9 := Lib.hid (Ha8.out.trans hc9)
        have Hcw9 := Lib.hid (Hcw.out.trans Hg9.out)
        have Hr9 := Lib.hid (row_kept Hg9.out Hrr.out id)
        have r0 := var1 Hr9.out
        have rf := row_free Hr9.out
        clear hc9 f0 f1
        go_wp2_with fail
        have e0 := var1 (heap_set Hr9.out (i := 0) (.slice none 0 0))
        have hfin := Hcw9.out.setCell (p := ⟨rb, 0, none⟩) (.inr Hwr.out) (.slice none 0 0)
        generalize w9.setCell ⟨rb, 0, none⟩ (.slice none 0 0) = wf at *
        refine bodyPost_ret (v := .tuple #[.agg #[.slice none 0 0], .int .i64 10]) (by simp [results, Tryd.results22, go_sem, e0]) rfl ⟨hfin, ?_⟩
        rw [Hres.out]
    · obtain rfl : k = n2 := by omega
      have htk : s.take k = s := by rw [Hn2.out]; exact List.take_of_length_le (Nat.le_refl _)
      have hj := Hjn.out
      rw [htk] at hj
      have Hres : Hid (res = makeF (t ++ acc)) := Lib.hid (by rw [Hres0.out]; exact mountF_yes Hgd.out.symm Hgs.out.symm Hpd.out.symm hj)
      have hal : acc.length = k := by rw [joinF_len hj, ← Hn2.out]
      have hrw := Hrow.out
      have e1 : n + k = (t ++ acc).length := by rw [List.length_append, hal, ← Hn.out]
      obtain ⟨m, hm⟩ : ∃ m, m = n + k := ⟨_, rfl⟩
      rw [← hm] at hrw e1 hnc
      have hrw' := hrw
      rw [e1] at hrw'
      obtain ⟨nb, hns⟩ := InpS.of_row hrw'
      rw [← e1] at hns
      have HM := Lib.hid (make_any (t ++ acc) (by rw [← e1]; omega) (fun x hx => by
        rcases List.mem_append.1 hx with hx | hx
        · have := Hsz.out.2 x hx; omega
        · have := joinF_short hj (fun y hy => (Hsz2.out.2 y hy).2) x hx; omega) _ _ nb 0 wr (ml_keep Hm.out Hcw.out) hns)
      rw [← Hres.out] at HM
      have Hrl := Lib.hid (lt_of_block Hrr.out)
      rw [← hm]
      clear hj htk hal hrw e1 hrw' hns hlt hm
      go_wp2_with fail
      refine HM.out.mono ?_
      intro e w8 hp8
      obtain ⟨q8, n8, c8, y8, rfl, hc8, hps⟩ := hp8.pass
      have Hc8 := Lib.hid (Hcw.out.trans hc8)
      have Hr8 := Lib.hid (row_kept hc8 Hrr.out id)
      have Hps := Lib.hid hps
      have r0 := var1 Hr8.out
      have rf := row_free Hr8.out
      clear hp8 hc8 hps
      go_wp2_with fail
      have e0 := var1 (heap_set Hr8.out (i := 0) (.slice q8 n8 c8))
      have hst : Chg (fun x => x = rb) w8 (w8.setCell ⟨rb, 0, none⟩ (.slice q8 n8 c8)) := (Chg.refl (fun x => x = rb) w8).setCell (p := ⟨rb, 0, none⟩) (.inl rfl) _
      generalize w8.setCell ⟨rb, 0, none⟩ (.slice q8 n8 c8) = wf at *
      exact bodyPost_ret (v := .tuple #[.agg #[.slice q8 n8 c8], .int .i64 y8]) (by simp [results, Tryd.results22, go_sem, e0]) rfl (Hps.out w wf rb Hcw.out Hwr.out Hrl.out hst)
set_option maxHeartbeats 8000000 in
set_option maxRecDepth 20000 in
theorem rmount_any (t s : List FileL) (d : List UInt8) (hl : t.length ≤ 1048576) (hw : ∀ x ∈ t, x.1.length ≤ 1048576 ∧ x.2.length ≤ 1048576) (hsl : s.length ≤ 1048576) (hsw : ∀ x ∈ s, x.1.length ≤ 1048576 ∧ x.2.length ≤ 1048576) (hd : d.length ≤ 262144)
    (S : Nat → Prop) (v : Value) (kb ko : Nat) (S2 : Nat → Prop) (v2 : Value) (kb2 ko2 : Nat) (w : World) (hm : Pth.Ml w) (hs : InpS w S v t kb ko) (hs2 : InpS w S2 v2 s kb2 ko2) :
    Calls Tryd.prog 25 #[.agg #[v], .string (tx d), .agg #[v2]] w (MakeP (mountF t d s) w) := by
  have Hs := Lib.hid hs
  have Hs2 := Lib.hid hs2
  obtain ⟨⟨q, c, rfl, -, -, -⟩, -⟩ := hs
  obtain ⟨⟨q2, c2, rfl, h1, h2, h3⟩, hat⟩ := hs2
  have Hat := Lib.hid hat
  have H3 := Lib.hid h3
  unfold maxLen at h2
  have Hm := Lib.hid hm
  have Hl := Lib.hid hl
  have HG := Lib.hid (fun w' (h : Chg NoB w w') => rgood_any t hl hw S _ kb ko w' (Hs.out.keep h fun _ _ => id))
  have HG2 := Lib.hid (fun w' (h : Chg NoB w w') => rgood_any s hsl hsw S2 _ kb2 ko2 w' (Hs2.out.keep h fun _ _ => id))
  have HP := Lib.hid (fun w' (h : Chg NoB w w') => rplace_any d w' hd (ml_keep hm h))
  obtain ⟨gd, hgd⟩ : ∃ g, g = goodF t := ⟨_, rfl⟩
  rw [← hgd] at HG
  have Hgd := Lib.hid hgd
  obtain ⟨gs, hgs⟩ : ∃ g, g = goodF s := ⟨_, rfl⟩
  rw [← hgs] at HG2
  have Hgs := Lib.hid hgs
  obtain ⟨pd, hpd⟩ : ∃ g, g = Pth.placeL d := ⟨_, rfl⟩
  rw [← hpd] at HP
  have Hpd := Lib.hid hpd
  obtain ⟨n, hn⟩ : ∃ n, n = t.length := ⟨_, rfl⟩
  rw [← hn] at Hs HG ⊢
  have Hn := Lib.hid hn
  obtain ⟨n2, hn2⟩ : ∃ n, n = s.length := ⟨_, rfl⟩
  rw [← hn2] at Hs2 HG2 h1 ⊢
  have Hn2 := Lib.hid hn2
  obtain ⟨res, hres⟩ : ∃ r, r = mountF t d s := ⟨_, rfl⟩
  rw [← hres]
  have Hres0 := Lib.hid hres
  have hal_ := (Chg.refl NoB w).alloc (.cells #[.slice q n c] 27)
  have hb_ := heap_alloc_new w (.cells #[.slice q n c] 27)
  obtain ⟨tb, hxb_⟩ : ∃ b, b = w.heap.size := ⟨_, rfl⟩
  obtain ⟨w1, hw_⟩ : ∃ w_, w.alloc (.cells #[.slice q n c] 27) = w_ := ⟨_, rfl⟩
  have hz_ : w1.heap.size = tb + 1 := by rw [← hw_, hxb_]; exact alloc_size _ _
  rw [hw_] at hal_ hb_
  rw [← hxb_] at hb_
  have Hw1 := Lib.hid hw_
  have Hx1 := Lib.hid hxb_
  have Ha1 := Lib.hid hal_
  have Hb1 := Lib.hid hb_
  have Hz1 := Lib.hid hz_
  clear hal_ hb_ hxb_ hw_ hz_
  have hal_ := (Chg.refl NoB w1).alloc (.cells #[.slice q2 n2 c2] 27)
  have hb_ := heap_alloc_new w1 (.cells #[.slice q2 n2 c2] 27)
  obtain ⟨sb, hxb_⟩ : ∃ b, b = w1.heap.size := ⟨_, rfl⟩
  obtain ⟨w2, hw_⟩ : ∃ w_, w1.alloc (.cells #[.slice q2 n2 c2] 27) = w_ := ⟨_, rfl⟩
  have hz_ : w2.heap.size = sb + 1 := by rw [← hw_, hxb_]; exact alloc_size _ _
  rw [hw_] at hal_ hb_
  rw [← hxb_] at hb_
  have Hw2 := Lib.hid hw_
  have Hx2 := Lib.hid hxb_
  have Ha2 := Lib.hid hal_
  have Hb2 := Lib.hid hb_
  have Hz2 := Lib.hid hz_
  clear hal_ hb_ hxb_ hw_ hz_
  have hal_ := (Chg.refl NoB w2).alloc (.cells #[.slice none 0 0] 27)
  have hb_ := heap_alloc_new w2 (.cells #[.slice none 0 0] 27)
  obtain ⟨rb, hxb_⟩ : ∃ b, b = w2.heap.size := ⟨_, rfl⟩
  obtain ⟨w3, hw_⟩ : ∃ w_, w2.alloc (.cells #[.slice none 0 0] 27) = w_ := ⟨_, rfl⟩
  have hz_ : w3.heap.size = rb + 1 := by rw [← hw_, hxb_]; exact alloc_size _ _
  rw [hw_] at hal_ hb_
  rw [← hxb_] at hb_
  have Hw3 := Lib.hid hw_
  have Hx3 := Lib.hid hxb_
  have Ha3 := Lib.hid hal_
  have Hb3 := Lib.hid hb_
  have Hz3 := Lib.hid hz_
  clear hal_ hb_ hxb_ hw_ hz_
  have Hwr := Lib.hid (show w.heap.size ≤ rb by have := Hx1.out; have := Hz1.out; have := Hx2.out; have := Hz2.out; have := Hx3.out; omega)
  have Hc3 := Lib.hid (Ha1.out.trans (Ha2.out.trans Ha3.out))
  have Ht3 := Lib.hid (row_kept (Ha2.out.trans Ha3.out) Hb1.out id)
  have Hu3 := Lib.hid (row_kept Ha3.out Hb2.out id)
  have hx2 : tb + 1 = sb := by rw [Hx2.out, Hz1.out]
  have hx3 : sb + 1 = rb := by rw [Hx3.out, Hz2.out]
  obtain ⟨i0, hi, hz0, hz1, hz2⟩ := info_parts inpInfo
  have Hi := Lib.hid hi
  have Hz0 := Lib.hid hz0
  have Hzb1 := Lib.hid hz1
  have Hzb2 := Lib.hid hz2
  clear hm hl hw hgd hn hres hi hz0 hz1 hz2 h3 hat hpd hgs hn2 hsl hsw
  have t0 := var1 Ht3.out
  have s0 := var1 Hu3.out
  go_enter Tryd.func25, Tryd.ntmps25
  go_upto_region 1 with fail
  rw [Hw1.out, Hw2.out, Hw3.out, ← Hx1.out]
  rw [hx2, hx3]
  clear hx2 hx3
  cases gd with
  | false =>
    have Hres : Hid (res = .error 1) := Lib.hid (by rw [Hres0.out]; exact mountF_no (by rw [← Hgd.out]; exact fun h => by cases h.1))
    go_wp2_with (go_at_call 42; refine (HG.out _ Hc3.out).mono ?_; rintro e w4 ⟨rfl, hc4⟩; have Hc4 := Lib.hid (Hc3.out.trans hc4); have Hr4 := Lib.hid (row_kept hc4 Hb3.out id); clear hc4; have r0 := var1 Hr4.out; have rf := row_free Hr4.out; clear t0 s0)
    have e0 := var1 (heap_set Hr4.out (i := 0) (.slice none 0 0))
    have hfin := Hc4.out.setCell (p := ⟨rb, 0, none⟩) (.inr Hwr.out) (.slice none 0 0)
    generalize w4.setCell ⟨rb, 0, none⟩ (.slice none 0 0) = wf at *
    refine bodyPost_ret (v := .tuple #[.agg #[.slice none 0 0], .int .i64 1]) (by simp [results, Tryd.results25, go_sem, e0]) rfl ⟨hfin, ?_⟩
    rw [Hres.out]
  | true =>
  have Hsz := Lib.hid (good_sizes Hgd.out.symm)
  have hnb : n ≤ 32 := by rw [Hn.out]; exact Hsz.out.1
  cases gs with
  | false =>
    have Hres : Hid (res = .error 1) := Lib.hid (by rw [Hres0.out]; exact mountF_no (by rw [← Hgs.out]; exact fun h => by cases h.2))
    go_wp2_with fail
    refine (HG.out _ Hc3.out).mono ?_
    rintro e w4 ⟨rfl, hc4⟩
    have Hc4 := Lib.hid (Hc3.out.trans hc4)
    have Hr4 := Lib.hid (row_kept hc4 Hb3.out id)
    have Hu4 := Lib.hid (row_kept hc4 Hu3.out id)
    clear hc4 t0 s0
    have s0 := var1 Hu4.out
    go_wp2_with fail
    refine (HG2.out _ Hc4.out).mono ?_
    rintro e w5 ⟨rfl, hc5⟩
    have Hc5 := Lib.hid (Hc4.out.trans hc5)
    have Hr5 := Lib.hid (row_kept hc5 Hr4.out id)
    clear hc5 s0
    have r0 := var1 Hr5.out
    have rf := row_free Hr5.out
    go_wp2_with fail
    have e0 := var1 (heap_set Hr5.out (i := 0) (.slice none 0 0))
    have hfin := Hc5.out.setCell (p := ⟨rb, 0, none⟩) (.inr Hwr.out) (.slice none 0 0)
    generalize w5.setCell ⟨rb, 0, none⟩ (.slice none 0 0) = wf at *
    refine bodyPost_ret (v := .tuple #[.agg #[.slice none 0 0], .int .i64 1]) (by simp [results, Tryd.results25, go_sem, e0]) rfl ⟨hfin, ?_⟩
    rw [Hres.out]
  | true =>
  have Hsz2 := Lib.hid (good_sizes Hgs.out.symm)
  have hnb2 : n2 ≤ 32 := by rw [Hn2.out]; exact Hsz2.out.1
  go_wp2_with fail
  refine (HG.out _ Hc3.out).mono ?_
  rintro e w4 ⟨rfl, hc4⟩
  have Hc4 := Lib.hid (Hc3.out.trans hc4)
  have Hr4 := Lib.hid (row_kept hc4 Hb3.out id)
  have Ht4 := Lib.hid (row_kept hc4 Ht3.out id)
  have Hu4 := Lib.hid (row_kept hc4 Hu3.out id)
  clear hc4 t0 s0
  have s0 := var1 Hu4.out
  go_wp2_with fail
  refine (HG2.out _ Hc4.out).mono ?_
  rintro e w5 ⟨rfl, hc5⟩
  have Hc5 := Lib.hid (Hc4.out.trans hc5)
  have Hr5 := Lib.hid (row_kept hc5 Hr4.out id)
  have Ht5 := Lib.hid (row_kept hc5 Ht4.out id)
  have Hu5 := Lib.hid (row_kept hc5 Hu4.out id)
  clear hc5 s0
  go_wp2_with fail
  refine (HP.out _ Hc5.out).mono ?_
  rintro e w6 ⟨rfl, hc6⟩
  have Hc6 := Lib.hid (Hc5.out.trans hc6)
  have Hr6 := Lib.hid (row_kept hc6 Hr5.out id)
  have Ht6 := Lib.hid (row_kept hc6 Ht5.out id)
  have Hu6 := Lib.hid (row_kept hc6 Hu5.out id)
  clear hc6
  cases pd with
  | false =>
    have Hres : Hid (res = .error 10) := Lib.hid (by rw [Hres0.out]; exact mountF_bad Hgd.out.symm Hgs.out.symm Hpd.out.symm)
    have r0 := var1 Hr6.out
    have rf := row_free Hr6.out
    go_wp2_with fail
    have e0 := var1 (heap_set Hr6.out (i := 0) (.slice none 0 0))
    have hfin := Hc6.out.setCell (p := ⟨rb, 0, none⟩) (.inr Hwr.out) (.slice none 0 0)
    generalize w6.setCell ⟨rb, 0, none⟩ (.slice none 0 0) = wf at *
    refine bodyPost_ret (v := .tuple #[.agg #[.slice none 0 0], .int .i64 10]) (by simp [results, Tryd.results25, go_sem, e0]) rfl ⟨hfin, ?_⟩
    rw [Hres.out]
  | true =>
  clear HP HG HG2
  have t0 := var1 Ht6.out
  have hrl := lt_of_block Hr6.out
  have hal_ := (Chg.refl NoB w6).alloc (.cells #[] 47)
  have Hal_ := Lib.hid hal_
  have hrow0 : (w6.alloc (.cells #[] 47)).ownsRow w6.heap.size 47 2 (.slice (some ⟨w6.heap.size, 0, none⟩) 0 0) 0 [] := ⟨rfl, .inr ⟨_, 0, #[], rfl, Nat.le_refl _, heap_alloc_new w6 _, Nat.le_refl _, Nat.zero_le _, rfl, rfl⟩⟩
  have Hrow0 := Lib.hid hrow0
  have ta := hal_.keep t0
  have Hnews := Lib.hid ((Hs.out.keep (Hc6.out.trans hal_) fun _ _ => id).news)
  rw [← Hn.out] at Hnews
  have M1 := Lib.hid (show 0 + n ≤ maxLen by unfold maxLen; omega)
  have M2 := Lib.hid (show (0 + n) * 32 ≤ 140737488355328 by omega)
  have Hfl := Lib.hid (show (flatP t).length = n * 2 by rw [flatP_len, ← Hn.out])
  have H1c := Lib.hid (show ∀ u ∈ flatP t, u.oneCell' = true from flatP_one t)
  have Hbs : Hid (w6.heap.size ≤ (w6.alloc (.cells #[] 47)).heap.size) := Lib.hid hal_.size
  clear hal_ hrow0
  go_upto_region 6 with (at_builtin; refine wpList_append_inp _ rfl _ _ 25 rfl _ 47 i0 (.agg #[.string ⟨#[]⟩, .string ⟨#[]⟩]) 2 32 Tryd.underlying25 Hi.out Hz0.out Hzb1.out Hzb2.out rfl (by decide) _ 0 _ rfl Hrow0.out q n c (flatP t) rfl Hnews.out Hfl.out H1c.out M1.out M2.out Hbs.out ?_; intro v7 w7 hown7 hgr7)
  obtain ⟨q7, c7, rfl, -, -⟩ := row_shape hown7
  have Hrow7 : Hid (w7.ownsRow w6.heap.size 47 2 (.slice q7 (0 + n) c7) (0 + n) (flatP t)) := Lib.hid hown7
  have Hg7 := Lib.hid (Hal_.out.above ((Chg.refl (fun j => j = w6.heap.size) _).grown hgr7 fun j hj => .inl (by cases hj; rfl)) fun y hy => by have h : y = w6.heap.size := hy; omega)
  simp only [Nat.zero_add] at Hrow7
  have Hc7 := Lib.hid (Hc6.out.trans Hg7.out)
  have Hr7 := Lib.hid (row_kept Hg7.out Hr6.out id)
  have Hu7 := Lib.hid (row_kept Hg7.out Hu6.out id)
  clear hown7 hgr7 ta
  obtain ⟨lo, hlo⟩ : ∃ l, l = w6.heap.size := ⟨_, rfl⟩
  rw [← hlo] at Hrow7
  have Hord := Lib.hid (show w.heap.size ≤ rb ∧ rb < lo by have := Hwr.out; omega)
  have Hlo := Lib.hid (show lo ≤ w7.heap.size by rw [hlo]; exact Hg7.out.size)
  have s0 := var1 Hu7.out
  clear hlo hrl t0
  simp only [Nat.zero_add]
  go_wp2_with fail
  clear s0
  go_loopw [8, 33] (fun f i wr => ∃ (k : Nat) (acc : List FileL), k ≤ n2 ∧ i = .int .i64 k ∧ joinF d (s.take k) = some acc ∧ wr.ownsRow lo 47 2 f (n + k) (flatP (t ++ acc)) ∧ wr.heap[rb]? = some (.cells #[.slice none 0 0] 27 (0, 0)) ∧ Chg NoB w wr ∧ lo ≤ wr.heap.size) (fun f i _ => n2 - (intOf i).toNat)
  case atStart => exact ⟨0, [], Nat.zero_le _, rfl, by rw [List.take_zero]; rfl, by rw [List.append_nil]; exact Hrow7.out, Hr7.out, Hc7.out, Hlo.out⟩
  case round =>
    obtain ⟨k, acc, hk, rfl, hjn, hrow, hrr, hcw, hlw⟩ := hrel
    obtain ⟨lq, lc, rfl, hnc, hcm⟩ := row_shape hrow
    have Hrow := Lib.hid hrow
    have Hrr := Lib.hid hrr
    have Hcw := Lib.hid hcw
    have Hjn := Lib.hid hjn
    unfold maxLen at hcm
    clear hrow hrr hcw hjn
    by_cases hlt : k < n2
    · have hlt' : k < s.length := by rw [← Hn2.out]; exact hlt
      obtain ⟨rfl, -⟩ := H3.out (by intro e; rw [e] at hlt'; simp at hlt')
      have c0 := Hcw.out.keep (Hat.out k hlt').1
      have c1 := Hcw.out.keep (Hat.out k hlt').2
      have Hxm := Lib.hid (List.getElem_mem hlt')
      have Htk : Hid (s.take (k + 1) = s.take k ++ [s[k]]) := Lib.hid (by rw [List.take_add_one, List.getElem?_eq_getElem hlt']; rfl)
      generalize s[k] = x at *
      obtain ⟨x1, x2⟩ := x
      simp only at c0 c1
      have hx1 : x1.length ≤ 262144 := by have h := (Hsz2.out.2 _ Hxm.out).1; change x1.length ≤ _ at h; omega
      have HU := Lib.hid (fun w' (h : Chg NoB w w') => rjoin_any d x1 w' hd hx1 (ml_keep Hm.out h))
      have hjc := jn_cases d x1
      have hjb := fun h => joinF_bad (d := d) Hxm.out h
      have hjs := fun h => joinF_snoc (x := (x1, x2)) Hjn.out h
      rw [← Htk.out] at hjs
      simp only at hjb hjs
      obtain ⟨u1, hu1⟩ : ∃ u, u = (jnL d x1).1 := ⟨_, rfl⟩
      obtain ⟨u2, hu2⟩ : ∃ u, u = (jnL d x1).2 := ⟨_, rfl⟩
      rw [← hu1, ← hu2] at HU hjc hjs
      rw [← hu2] at hjb
      have Hjb := Lib.hid hjb
      have Hjs := Lib.hid hjs
      clear hlt' hx1 hu1 hu2 hjb hjs
      have hal_ := (Chg.refl NoB wr).alloc (.cells #[.string (tx x1), .string (tx x2)] 47)
      have hb_ := heap_alloc_new wr (.cells #[.string (tx x1), .string (tx x2)] 47)
      obtain ⟨fb, hxb_⟩ : ∃ b, b = wr.heap.size := ⟨_, rfl⟩
      obtain ⟨w8, hw_⟩ : ∃ w_, wr.alloc (.cells #[.string (tx x1), .string (tx x2)] 47) = w_ := ⟨_, rfl⟩
      have hz_ : w8.heap.size = fb + 1 := by rw [← hw_, hxb_]; exact alloc_size _ _
      rw [hw_] at hal_ hb_
      rw [← hxb_] at hb_
      have Hw8 := Lib.hid hw_
      have Hx8 := Lib.hid hxb_
      have Ha8 := Lib.hid hal_
      have Hb8 := Lib.hid hb_
      have Hz8 := Lib.hid hz_
      clear hal_ hb_ hxb_ hw_ hz_
      go_upto_region 9 with fail
      rw [Hw8.out, ← Hx8.out]
      clear c0 c1
      obtain ⟨f0, f1⟩ := var2 Hb8.out
      have Hc8 := Lib.hid (Hcw.out.trans Ha8.out)
      rcases hjc with ⟨hu, -⟩ | ⟨hu, -⟩
      · subst hu
        have Hj' : Hid (joinF d (s.take (k + 1)) = some (acc ++ [(u1, x2)])) := Lib.hid (Hjs.out rfl)
        go_wp2_with fail
        refine (HU.out _ Hc8.out).mono ?_
        rintro e w9 ⟨hc9, rfl⟩
        have Hg9 := Lib.hid (Ha8.out.trans hc9)
        have g1 := (var2 (row_kept hc9 Hb8.out id)).2
        clear hc9 f0 f1
        have Hcw9 := Lib.hid (Hcw.out.trans Hg9.out)
        have halA := (Chg.refl NoB w9).alloc (.cells #[.string (tx u1), .string (tx x2)] 47)
        have HcA := Lib.hid (Hcw9.out.trans halA)
        have HownA := Lib.hid (ownsRow_chg Hrow.out (Hg9.out.trans halA) fun _ _ => id)
        have HloA : Hid (lo ≤ (w9.alloc (.cells #[.string (tx u1), .string (tx x2)] 47)).heap.size) := Lib.hid (by have h2 := Hg9.out.size; have h4 := halA.size; omega)
        have HrA := Lib.hid (row_kept (Hg9.out.trans halA) Hrr.out id)
        have M1 := Lib.hid (show n + k + 1 ≤ maxLen by unfold maxLen; omega)
        have M2 := Lib.hid (show (n + k + 1) * 32 ≤ 140737488355328 by omega)
        clear halA
        go_wp2_with (at_builtin; refine wpList_append_at _ rfl _ _ 25 rfl lo 47 i0 (.agg #[.string ⟨#[]⟩, .string ⟨#[]⟩]) 2 32 Tryd.underlying25 Hi.out Hz0.out Hzb1.out Hzb2.out rfl (by decide) _ (n + k) _ rfl HownA.out _ 1 1 [.string (tx u1), .string (tx x2)] rfl rfl (lit2 _ _ _ _) (one2 _ _) M1.out M2.out HloA.out ?_; intro v11 w11 hown11 hgr11 hpl11)
        have Hch11 : Hid (Chg NoB w w11) := Lib.hid (HcA.out.grown hgr11 fun j hj => .inr (by have h1 := (World.ownsRow.lt HownA.out j hj).1; have := Hord.out; omega))
        have Hr11 := Lib.hid (row_kept ((Chg.refl (fun j => (Value.slice lq (n + k) lc).ownBlock = some j) _).grown hgr11 fun j hj => .inl hj) HrA.out (fun e => by have h1 := (World.ownsRow.lt HownA.out rb e).1; have := Hord.out; omega))
        have Hlo11 : Hid (lo ≤ w11.heap.size) := Lib.hid (Nat.le_trans HloA.out ((Chg.refl (fun j => (Value.slice lq (n + k) lc).ownBlock = some j) _).grown hgr11 fun j hj => .inl hj).size)
        have Hown11 : Hid (w11.ownsRow lo 47 2 v11 (n + (k + 1)) (flatP (t ++ (acc ++ [(u1, x2)])))) := Lib.hid (by rw [← List.append_assoc, flatP_app]; exact hown11)
        clear hown11 hgr11 hpl11
        go_wp2_with fail
        go_roundw
        case rel => exact ⟨k + 1, acc ++ [(u1, x2)], by omega, by go_num, Hj'.out, Hown11.out, Hr11.out, Hch11.out, Hlo11.out⟩
        case measure => simp [intOf]; omega
      · subst hu
        have Hres : Hid (res = .error 10) := Lib.hid (by rw [Hres0.out]; exact mountF_join Hgd.out.symm Hgs.out.symm Hpd.out.symm (Hjb.out (by decide)))
        go_wp2_with fail
        refine (HU.out _ Hc8.out).mono ?_
        rintro e w9 ⟨hc9, rfl⟩
        have Hg9 := Lib.hid (Ha8.out.trans hc9)
        have Hcw9 := Lib.hid (Hcw.out.trans Hg9.out)
        have Hr9 := Lib.hid (row_kept Hg9.out Hrr.out id)
        have r0 := var1 Hr9.out
        have rf := row_free Hr9.out
        clear hc9 f0 f1
        go_wp2_with fail
        have e0 := var1 (heap_set Hr9.out (i := 0) (.slice none 0 0))
        have hfin := Hcw9.out.setCell (p := ⟨rb, 0, none⟩) (.inr Hwr.out) (.slice none 0 0)
        generalize w9.setCell ⟨rb, 0, none⟩ (.slice none 0 0) = wf at *
        refine bodyPost_ret (v := .tuple #[.agg #[.slice none 0 0], .int .i64 10]) (by simp [results, Tryd.results25, go_sem, e0]) rfl ⟨hfin, ?_⟩
        rw [Hres.out]
    · obtain rfl : k = n2 := by omega
      have htk : s.take k = s := by rw [Hn2.out]; exact List.take_of_length_le (Nat.le_refl _)
      have hj := Hjn.out
      rw [htk] at hj
      have Hres : Hid (res = makeF (t ++ acc)) := Lib.hid (by rw [Hres0.out]; exact mountF_yes Hgd.out.symm Hgs.out.symm Hpd.out.symm hj)
      have hal : acc.length = k := by rw [joinF_len hj, ← Hn2.out]
      have hrw := Hrow.out
      have e1 : n + k = (t ++ acc).length := by rw [List.length_append, hal, ← Hn.out]
      obtain ⟨m, hm⟩ : ∃ m, m = n + k := ⟨_, rfl⟩
      rw [← hm] at hrw e1 hnc
      have hrw' := hrw
      rw [e1] at hrw'
      obtain ⟨nb, hns⟩ := InpS.of_row hrw'
      rw [← e1] at hns
      have HM := Lib.hid (rmake_any (t ++ acc) (by rw [← e1]; omega) (fun x hx => by
        rcases List.mem_append.1 hx with hx | hx
        · have := Hsz.out.2 x hx; omega
        · have := joinF_short hj (fun y hy => (Hsz2.out.2 y hy).2) x hx; omega) _ _ nb 0 wr hns)
      rw [← Hres.out] at HM
      have Hrl := Lib.hid (lt_of_block Hrr.out)
      rw [← hm]
      clear hj htk hal hrw e1 hrw' hns hlt hm
      go_wp2_with fail
      refine HM.out.mono ?_
      intro e w8 hp8
      obtain ⟨q8, n8, c8, y8, rfl, hc8, hps⟩ := hp8.pass
      have Hc8 := Lib.hid (Hcw.out.trans hc8)
      have Hr8 := Lib.hid (row_kept hc8 Hrr.out id)
      have Hps := Lib.hid hps
      have r0 := var1 Hr8.out
      have rf := row_free Hr8.out
      clear hp8 hc8 hps
      go_wp2_with fail
      have e0 := var1 (heap_set Hr8.out (i := 0) (.slice q8 n8 c8))
      have hst : Chg (fun x => x = rb) w8 (w8.setCell ⟨rb, 0, none⟩ (.slice q8 n8 c8)) := (Chg.refl (fun x => x = rb) w8).setCell (p := ⟨rb, 0, none⟩) (.inl rfl) _
      generalize w8.setCell ⟨rb, 0, none⟩ (.slice q8 n8 c8) = wf at *
      exact bodyPost_ret (v := .tuple #[.agg #[.slice q8 n8 c8], .int .i64 y8]) (by simp [results, Tryd.results25, go_sem, e0]) rfl (Hps.out w wf rb Hcw.out Hwr.out Hrl.out hst)
end Go.Proofs.YtnbdjficoficcaaDoor
