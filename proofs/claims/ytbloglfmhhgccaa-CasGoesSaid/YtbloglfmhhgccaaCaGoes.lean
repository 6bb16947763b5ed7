/- Proved: the statement CasGoes holds for every width and two lists of texts. No condition beyond the statement's own. -/
import Derived.Test.YtbloglfmhhgccaaCaTwo
import Derived.Laws.Cover1
import Derived.Stop.RegionWithIn


namespace Go.Proofs.Ytbloglfmhhgccaa
set_option linter.unusedVariables false
open Go.ChangeShapes Go.WideShapes Go.ChangeAt Go.RowKit Go.Shelf
open Go.ChangeMaps (open_string shut_string)
attribute [local go_sem] Oper.semAt_some
theorem StO.cellB {w : World} {lo sb ob : Nat} {W : Int} {ps : List FileL} (h : StO w lo sb ob W ps) {k : Nat} (hk : k = sb ∨ k = ob ∨ RowB w ob k) : ∃ o, w.heap[k]? = some o ∧ o.isCells = true := by
  obtain ⟨q, c, h1, h2, -⟩ := h.sh.row
  rcases hk with rfl | rfl | hk
  · exact ⟨_, h.row, rfl⟩
  · exact ⟨_, h1, rfl⟩
  · have e := hk.at h1
    subst e
    rcases h2.2 with ⟨e, _⟩ | ⟨g', cap', cur, e, _, hh, _⟩
    · simp only [Value.slice.injEq] at e; cases e.1
    · simp only [Value.slice.injEq, Option.some.injEq] at e
      obtain ⟨e1, -, -⟩ := e
      cases e1
      exact ⟨_, hh, rfl⟩
theorem not_both {w : World} {k : Nat} (h : ∃ o, w.heap[k]? = some o ∧ o.isCells = true) (g : ∃ o, w.heap[k]? = some o ∧ o.isCells = false) : False := by
  obtain ⟨o, h1, h2⟩ := h
  obtain ⟨p, g1, g2⟩ := g
  rw [h1] at g1; cases g1; rw [h2] at g2; cases g2
theorem StO.grownR {A B : World} {row : Option Nat} {lo sb ob : Nat} {W : Int} {ps : List FileL} (h : StO A lo sb ob W ps) (hg : A.grownBy B row) (hr : ∀ r, row = some r → ∃ o, A.heap[r]? = some o ∧ o.isCells = false) : StO B lo sb ob W ps ∧ ∀ k, RowB B ob k → RowB A ob k := by
  have hc : Chg (fun k => row = some k) A B := (Chg.refl _ A).grown hg fun k e => .inl e
  have n := fun k hk e => not_both (h.cellB (k := k) hk) (hr k e)
  exact ⟨h.keepC hc (n _ (.inl rfl)) (n _ (.inr (.inl rfl))) fun k hk => n _ (.inr (.inr hk)), fun k hk => hk.back hc h.row_le.2 (n _ (.inr (.inl rfl)))⟩
theorem StO.others {A B : World} {lo sb ob : Nat} {W : Int} {ps : List FileL} (h : StO A lo sb ob W ps) (hc : Chg (PutB ob A) A B) : KeepsOthers A B :=
  ⟨hc.size, fun k o hk ho => (hc.block k (Array.getElem?_eq_some_iff.1 hk).1 fun hs => not_both (h.cellB (k := k) (by rcases hs with rfl | hs; exact .inr (.inl rfl); exact .inr (.inr hs))) ⟨o, hk, ho⟩).trans hk⟩
theorem Chg.others {A B : World} (hc : Chg NoB A B) : KeepsOthers A B := ⟨hc.size, fun k o hk _ => (hc.block k (Array.getElem?_eq_some_iff.1 hk).1 id).trans hk⟩
def lastK (pre : List FileL) : List UInt8 := (pre.map (·.1)).getLastD []
theorem lastK_snoc (pre : List FileL) (x : FileL) : lastK (pre ++ [x]) = x.1 := by unfold lastK; simp
theorem key_ne (W : Int) (b : List UInt8) : keyL W b ≠ [] := by
  intro h
  have : (keyL W b).length = 13 := by unfold keyL Mix.textL; simp
  rw [h] at this; cases this
theorem bl_nil {k : List UInt8} (h : k ≠ []) : bl [] k = true := by
  cases k with
  | nil => exact absurd rfl h
  | cons a r => rfl
theorem lastK_lt {ps pre : List FileL} {x : FileL} (ha : Asc ps) (hn : x.1 ≠ []) (h : pre ++ [x] <+: ps) : bl (lastK pre) x.1 = true := by
  obtain ⟨r, hr⟩ := h
  rcases List.eq_nil_or_concat pre with rfl | ⟨p, y, rfl⟩
  · exact bl_nil hn
  · rw [List.concat_eq_append, lastK_snoc]
    rw [← hr] at ha
    have h2 := (List.pairwise_append.1 ha).1
    have h3 := (List.pairwise_append.1 h2).2.2 y (by simp) x (by simp)
    exact h3
structure GI (wC V : World) (lo sb ob rb ib lb : Nat) (W : Int) (os0 : List (List UInt8)) (pre : List FileL) : Prop where
  os : ∃ os ps, InvO W os ps ∧ StO V lo sb ob W ps ∧ os.length ≤ os0.length + pre.length ∧ (∀ b ∈ os0, b ∈ os) ∧ ∀ b ∈ os, b.length ≤ 65536
  chg : Chg (fun k => k = ib ∨ k = lb ∨ k = ob ∨ RowB wC ob k) wC V
  row : ∀ k, RowB V ob k → RowB wC ob k ∨ wC.heap.size ≤ k
  ibx : Boxed V ib 3 (.int .i64 (pre.length : Int))
  lbx : Boxed V lb 9 (.string (tx (lastK pre)))
  rbx : Boxed V rb 4 (.bool false)
theorem GI.keep {wC V V' : World} {lo sb ob rb ib lb : Nat} {W : Int} {os0 : List (List UInt8)} {pre : List FileL} (h : GI wC V lo sb ob rb ib lb W os0 pre) (hc : Chg NoB V V') : GI wC V' lo sb ob rb ib lb W os0 pre := by
  obtain ⟨os, ps, hi, hst, hl, hb⟩ := h.os
  exact ⟨⟨os, ps, hi, hst.keep hc, hl, hb⟩, h.chg.trans (hc.mono fun k _ h => h.elim), fun k hk => h.row k (hk.back hc hst.row_le.2 id), row_kept hc h.ibx id, row_kept hc h.lbx id, row_kept hc h.rbx id⟩
theorem Chg.transR {S S' : Nat → Prop} {a b c : World} (h : Chg S a b) (g : Chg S' b c) (hS : ∀ k, k < a.heap.size → S' k → S k) : Chg S a c :=
  ⟨g.os.trans h.os, g.tape.trans h.tape, g.output.trans h.output, Nat.le_trans h.size g.size, fun k hk hs => (g.block k (Nat.lt_of_lt_of_le hk h.size) fun x => hs (hS k hk x)).trans (h.block k hk hs)⟩
theorem GI.next {wC V V5 : World} {lo sb ob rb ib lb : Nat} {W : Int} {os0 : List (List UInt8)} {pre : List FileL} (h : GI wC V lo sb ob rb ib lb W os0 pre)
    (hos : ∃ os ps, InvO W os ps ∧ StO V5 lo sb ob W ps ∧ os.length ≤ os0.length + (pre.length + 1) ∧ (∀ b ∈ os0, b ∈ os) ∧ ∀ b ∈ os, b.length ≤ 65536) (hc : Chg (PutB ob V) V V5) (hr : ∀ k, RowB V5 ob k → RowB V ob k ∨ V.heap.size ≤ k)
    (n : ob < lo ∧ lo ≤ ib ∧ ib < lb ∧ lb < wC.heap.size ∧ rb < lo) (nrb : rb ≠ ob) (hrl : ∀ k, RowB wC ob k → lo ≤ k ∧ k < ib) (x : FileL) (i : Int) (hi : i = ((pre ++ [x]).length : Int)) :
    GI wC ((V5.setCell ⟨lb, 0, none⟩ (.string (tx x.1))).setCell ⟨ib, 0, none⟩ (.int .i64 i)) lo sb ob rb ib lb W os0 (pre ++ [x]) ∧
      KeepT (fun k => k = ib ∨ k = lb ∨ k = ob ∨ RowB wC ob k ∨ wC.heap.size ≤ k) V ((V5.setCell ⟨lb, 0, none⟩ (.string (tx x.1))).setCell ⟨ib, 0, none⟩ (.int .i64 i)) ∧ KeepsOthers V ((V5.setCell ⟨lb, 0, none⟩ (.string (tx x.1))).setCell ⟨ib, 0, none⟩ (.int .i64 i)) ∧
      (∃ u, V5.cell? ⟨lb, 0, none⟩ = some u) ∧ V5.frozen? ⟨lb, 0, none⟩ = false ∧ (V5.setCell ⟨lb, 0, none⟩ (.string (tx x.1))).cell? ⟨ib, 0, none⟩ = some (.int .i64 (pre.length : Int)) ∧ (V5.setCell ⟨lb, 0, none⟩ (.string (tx x.1))).frozen? ⟨ib, 0, none⟩ = false := by
  obtain ⟨n1, n2, n3, n4, n5⟩ := n
  have hszV := h.chg.size
  have hsz5 := hc.size
  have hrowV : ∀ k, RowB V ob k → RowB wC ob k ∨ wC.heap.size ≤ k := h.row
  have nb : ∀ k, (k = ib ∨ k = lb ∨ k = rb) → ¬ PutB ob V k := by
    rintro k hk (e | e)
    · rcases hk with rfl | rfl | rfl
      · omega
      · omega
      · exact nrb e
    · rcases hrowV k e with e | e
      · have := hrl k e; rcases hk with rfl | rfl | rfl <;> omega
      · rcases hk with rfl | rfl | rfl <;> omega
  have ib5 : Boxed V5 ib 3 (.int .i64 (pre.length : Int)) := row_kept hc h.ibx (nb _ (.inl rfl))
  have lb5 : Boxed V5 lb 9 (.string (tx (lastK pre))) := row_kept hc h.lbx (nb _ (.inr (.inl rfl)))
  have rb5 : Boxed V5 rb 4 (.bool false) := row_kept hc h.rbx (nb _ (.inr (.inr rfl)))
  have ib6 := ib5.other (B' := lb) (by omega) (.string (tx x.1))
  have lb6 := lb5.set (.string (tx x.1))
  have hst : Chg (fun k => k = ib ∨ k = lb) V5 ((V5.setCell ⟨lb, 0, none⟩ (.string (tx x.1))).setCell ⟨ib, 0, none⟩ (.int .i64 i)) := ((Chg.refl (fun k => k = ib ∨ k = lb) V5).setCell (p := ⟨lb, 0, none⟩) (.inl (.inr rfl)) _).setCell (p := ⟨ib, 0, none⟩) (.inl (.inl rfl)) _
  obtain ⟨os, ps, a1, a2, a3, a4, a5⟩ := hos
  have hr5 : ∀ k, RowB V5 ob k → RowB wC ob k ∨ wC.heap.size ≤ k := fun k hk => by
    rcases hr k hk with e | e
    · exact hrowV k e
    · exact .inr (by omega)
  have hn5 : ∀ k, RowB V5 ob k → ¬ (k = ib ∨ k = lb) := fun k hk e => by
    rcases hr5 k hk with x | x
    · have := hrl k x; rcases e with rfl | rfl <;> omega
    · rcases e with rfl | rfl <;> omega
  have hsb5 := a2.ne
  have hob5 : ¬ (ob = ib ∨ ob = lb) := by rintro (e | e) <;> omega
  obtain ⟨os0', ps0', -, hstV, -, -⟩ := h.os
  refine ⟨⟨⟨os, ps, a1, a2.keepC hst (by rintro (e | e) <;> omega) hob5 hn5, by rw [List.length_append]; exact a3, a4, a5⟩, ?_, fun k hk => hr5 k (hk.back hst a2.row_le.2 hob5), ?_, ?_, ?_⟩, ?_, ?_, ⟨_, lb5.cell⟩, lb5.frozen, ib6.cell, ib6.frozen⟩
  · refine (h.chg.transR hc fun k hk e => ?_).transR hst fun k hk e => ?_
    · rcases e with e | e
      · exact .inr (.inr (.inl e))
      · rcases hrowV k e with e | e
        · exact .inr (.inr (.inr e))
        · omega
    · rcases e with e | e
      · exact .inl e
      · exact .inr (.inl e)
  · rw [← hi]; exact ib6.set _
  · rw [lastK_snoc]; exact lb6.other (by omega) _
  · exact (rb5.other (by omega) _).other (by omega) _
  · refine (hc.keepT fun k e => ?_).trans (hst.keepT fun k e => ?_)
    · rcases e with e | e
      · exact .inr (.inr (.inl e))
      · rcases hrowV k e with e | e
        · exact .inr (.inr (.inr (.inl e)))
        · exact .inr (.inr (.inr (.inr e)))
    · rcases e with e | e
      · exact .inl e
      · exact .inr (.inl e)
  · exact ((hstV.others hc).trans (KeepsOthers.setCell _ _ _)).trans (KeepsOthers.setCell _ _ _)
set_option maxHeartbeats 8000000 in
set_option maxRecDepth 100000 in
theorem casGoes_all (W : Int) (l : List (List UInt8)) (v : Value) (kb ko : Nat) (l2 : List (List UInt8)) (v2 : Value) (jb jo : Nat) (w : World) (wx : (Lit.int .i64 W).wf = true) (hs : TxtS w (OldB w) v l kb ko) (hr : l.length ≤ 140737488351232 ∧ ∀ t ∈ l, t.length ≤ 140737488351232) (hs2 : TxtS w (OldB w) v2 l2 jb jo) (hr2 : l2.length ≤ 140737488351232 ∧ ∀ t ∈ l2, t.length ≤ 140737488351232) :
    Calls Try.prog 5 #[.int .i64 W, v, v2] w fun e w' => e = .returned (.bool true) ∧ Chg NoB w w' := by
  have Hs := Lib.hid (fun w' (h : Chg NoB w w') => hs.keep h fun _ _ => id)
  have Hs2 := Lib.hid (fun w' (h : Chg NoB w w') => hs2.keep h fun _ _ => id)
  have HGR := Lib.hid (fun w' (h : Chg NoB w w') => cgreat_any l hr.1 hr.2 (OldB w) v kb ko w' (hs.keep h fun _ _ => id))
  have HGR2 := Lib.hid (fun w' (h : Chg NoB w w') => cgreat_any l2 hr2.1 hr2.2 (OldB w) v2 jb jo w' (hs2.keep h fun _ _ => id))
  obtain ⟨⟨q, c, rfl, h1, h2, h3⟩, -⟩ := hs
  obtain ⟨⟨q2, c2, rfl, d1, d2, d3⟩, -⟩ := hs2
  have H3 := Lib.hid h3
  have D3 := Lib.hid d3
  obtain ⟨n, hn⟩ : ∃ n, n = l.length := ⟨_, rfl⟩
  obtain ⟨n2, hn2⟩ : ∃ n, n = l2.length := ⟨_, rfl⟩
  rw [← hn] at Hs HGR h1 hr ⊢
  rw [← hn2] at Hs2 HGR2 d1 hr2 ⊢
  have Hn := Lib.hid hn
  have Hn2 := Lib.hid hn2
  have Hrt := Lib.hid hr.2
  have Hrt2 := Lib.hid hr2.2
  unfold maxLen at h2 d2
  clear h3 hn wx hr d3 hn2 hr2
  have hal_ := (Chg.refl NoB w).alloc (.cells #[.slice q2 n2 c2] 22)
  have hb_ := heap_alloc_new w (.cells #[.slice q2 n2 c2] 22)
  obtain ⟨mbx, hxb_⟩ : ∃ b, b = w.heap.size := ⟨_, rfl⟩
  obtain ⟨wa, hw_⟩ : ∃ w_, w.alloc (.cells #[.slice q2 n2 c2] 22) = w_ := ⟨_, rfl⟩
  have hz_ : wa.heap.size = mbx + 1 := by rw [← hw_, hxb_]; exact alloc_size _ _
  rw [hw_] at hal_ hb_
  rw [← hxb_] at hb_
  have Hwa := Lib.hid hw_
  have Hxa := Lib.hid hxb_
  have Haa := Lib.hid hal_
  have Hba := Lib.hid hb_
  have Hza := Lib.hid hz_
  clear hal_ hb_ hxb_ hw_ hz_
  have hal_ := (Chg.refl NoB wa).alloc (.cells #[.bool false] 4)
  have hb_ := heap_alloc_new wa (.cells #[.bool false] 4)
  obtain ⟨rb, hxb_⟩ : ∃ b, b = wa.heap.size := ⟨_, rfl⟩
  obtain ⟨w0, hw_⟩ : ∃ w_, wa.alloc (.cells #[.bool false] 4) = w_ := ⟨_, rfl⟩
  have hz_ : w0.heap.size = rb + 1 := by rw [← hw_, hxb_]; exact alloc_size _ _
  rw [hw_] at hal_ hb_
  rw [← hxb_] at hb_
  have Hw0 := Lib.hid hw_
  have Hx0 := Lib.hid hxb_
  have Ha0 := Lib.hid hal_
  have Hb0 := Lib.hid hb_
  have Hz0 := Lib.hid hz_
  clear hal_ hb_ hxb_ hw_ hz_
  have HAL := Lib.hid (calive_any w0)
  have hab : mbx + 1 = rb := by rw [Hx0.out, Hza.out]
  have Hab := Lib.hid hab
  have Hrb := Lib.hid (show w.heap.size ≤ rb by rw [← hab, Hxa.out]; omega)
  clear hab
  refine (callsIn_wide (n := 4)).1 ?_
  refine callsIn_of_wp_marks Try.func5 rfl trivial ?_ rfl
  simp only [Try.ntmps5, List.size_toArray, List.length_cons, List.length_nil, Nat.reduceAdd, Nat.reduceSub, Array.replicate_succ, Array.replicate_zero, List.push_toArray, List.append_toArray, List.nil_append, List.cons_append]
  refine wpIn_wide.2 ?_
  go_wp2_with fail
  rw [Hwa.out, Hw0.out, ← Hxa.out]
  rw [Hab.out]
  refine HAL.out.mono ?_
  rintro e w1 ⟨rfl, hc1⟩
  have Hc1 := Lib.hid (Haa.out.trans (Ha0.out.trans hc1))
  have HR1 := Lib.hid (row_kept hc1 Hb0.out id)
  have HM1 := Lib.hid (row_kept (Ha0.out.trans hc1) Hba.out id)
  clear hc1
  go_wp2_with fail
  refine (HGR.out _ Hc1.out).mono ?_
  rintro e w' ⟨g, rfl, hg, rfl⟩
  have Hg := Lib.hid hg
  clear hg
  have r0 := var1 HR1.out
  have rf := row_free HR1.out 0
  have m0 := var1 HM1.out
  cases g with
  | true =>
    go_wp2_with fail
    have e0 := var1 (heap_set HR1.out (i := 0) (.bool true))
    have hfin := Hc1.out.setCell (p := ⟨rb, 0, none⟩) (.inr Hrb.out) (.bool true)
    generalize w1.setCell ⟨rb, 0, none⟩ (.bool true) = wf at *
    exact ⟨.bool true, by simp [results, Try.f5, go_sem, e0], rfl, hfin⟩
  | false =>
  go_wp2_with fail
  refine (HGR2.out _ Hc1.out).mono ?_
  rintro e w' ⟨g, rfl, hg, rfl⟩
  have Hg2 := Lib.hid hg
  clear hg
  cases g with
  | true =>
    go_wp2_with fail
    have e0 := var1 (heap_set HR1.out (i := 0) (.bool true))
    have hfin := Hc1.out.setCell (p := ⟨rb, 0, none⟩) (.inr Hrb.out) (.bool true)
    generalize w1.setCell ⟨rb, 0, none⟩ (.bool true) = wf at *
    exact ⟨.bool true, by simp [results, Try.f5, go_sem, e0], rfl, hfin⟩
  | false =>
  obtain ⟨hn60, hlen⟩ := Hg.out (by first | rfl | trivial)
  obtain ⟨hn602, hlen2⟩ := Hg2.out (by first | rfl | trivial)
  rw [← Hn.out] at hn60
  rw [← Hn2.out] at hn602
  have HN := Lib.hid (fun w => new_any W w)
  clear hlen hlen2 Hg Hg2 r0 rf m0
  go_wp2_with fail
  refine (HN.out _).mono ?_
  rintro e w2 ⟨hc2, sb, ob, rfl, hst, hsb, hob, hz2, hs2, ho2⟩
  have H2 := Lib.hid (And.intro hc2 (And.intro hst (And.intro hsb (And.intro hob (And.intro hz2 (And.intro hs2 ho2))))))
  clear hc2 hst hsb hob hz2 hs2 ho2
  go_wp2_with fail
  refine (HN.out _).mono ?_
  rintro e w3 ⟨hc3, sb2, ob2, rfl, hst2, hsb2, hob2, hz3, hs3, ho3⟩
  have H3b := Lib.hid (And.intro hc3 (And.intro hst2 (And.intro hsb2 (And.intro hob2 (And.intro hz3 (And.intro hs3 ho3))))))
  clear hc3 hst2 hsb2 hob2 hz3 hs3 ho3
  have hal_ := (Chg.refl NoB w3).alloc (.cells #[.pointer (some ⟨sb, 0, none⟩)] 25)
  have hb_ := heap_alloc_new w3 (.cells #[.pointer (some ⟨sb, 0, none⟩)] 25)
  obtain ⟨pbx, hxb_⟩ : ∃ b, b = w3.heap.size := ⟨_, rfl⟩
  obtain ⟨w4, hw_⟩ : ∃ w_, w3.alloc (.cells #[.pointer (some ⟨sb, 0, none⟩)] 25) = w_ := ⟨_, rfl⟩
  have hz_ : w4.heap.size = pbx + 1 := by rw [← hw_, hxb_]; exact alloc_size _ _
  rw [hw_] at hal_ hb_
  rw [← hxb_] at hb_
  have Hw4 := Lib.hid hw_
  have Hx4 := Lib.hid hxb_
  have Ha4 := Lib.hid hal_
  have Hb4 := Lib.hid hb_
  have Hz4 := Lib.hid hz_
  clear hal_ hb_ hxb_ hw_ hz_
  go_upto_region 6 with fail
  rw [Hw4.out, ← Hx4.out]
  obtain ⟨hc2, hst, hsb, hob, hz2, hs2', ho2⟩ := H2.out
  obtain ⟨hc3, hst2, hsb2, hob2, hz3, hs3, ho3⟩ := H3b.out
  obtain ⟨lo, hlo⟩ : ∃ lo, lo = w4.heap.size := ⟨_, rfl⟩
  have hzz := Hz4.out
  have hxx := Hx4.out
  obtain ⟨hst, hrw⟩ := hst w4 lo (hc3.trans Ha4.out) (by omega) (by omega)
  obtain ⟨hst2, hrw2⟩ := hst2 w4 lo Ha4.out (by omega) (by omega)
  have hc4 := Hc1.out.trans (hc2.trans (hc3.trans Ha4.out))
  have Hc4 := Lib.hid hc4
  have HR4 := Lib.hid (row_kept (hc2.trans (hc3.trans Ha4.out)) HR1.out id)
  have HM4 := Lib.hid (row_kept (hc2.trans (hc3.trans Ha4.out)) HM1.out id)
  have HP4 := Lib.hid Hb4.out
  have Hlow := Lib.hid (show w.heap.size ≤ ob ∧ w.heap.size ≤ lo ∧ mbx < lo ∧ rb < lo ∧ pbx < lo ∧ sb2 < lo ∧ ob2 < lo from by have := Hc1.out.size; have := lt_of_block HR1.out; have := lt_of_block HM1.out; omega)
  have Hne := Lib.hid (show mbx ≠ ob ∧ rb ≠ ob ∧ pbx ≠ ob ∧ sb2 ≠ ob ∧ ob2 ≠ ob from by have := lt_of_block HR1.out; have := lt_of_block HM1.out; omega)
  have Hst0 := Lib.hid (And.intro hst hrw)
  have Hst2 := Lib.hid (And.intro hst2 hrw2)
  clear hc2 hst hsb hob hz2 hs2' ho2 hc3 hst2 hsb2 hob2 hz3 hs3 ho3 hlo hzz hxx hrw hrw2 hc4 H2 H3b HN
  go_wp2_with fail
  go_loopw [32] (fun i wr => ∃ (j : Nat) (os : List (List UInt8)) (ps : List FileL), j ≤ n ∧ i = .int .i64 j ∧ os.length ≤ j ∧ (∀ b ∈ os, b.length ≤ 65536) ∧ InvO W os ps ∧ StO wr lo sb ob W ps ∧ Chg (fun k => k = ob ∨ lo ≤ k) w4 wr) (fun i _ => n - (intOf i).toNat)
  case atStart => exact ⟨0, [], [], Nat.zero_le _, rfl, Nat.le_refl _, (fun b hb => by cases hb), InvO.nil W, Hst0.out.1, Chg.refl _ _⟩
  case round =>
    obtain ⟨j, os, ps, hj, rfl, hol, hbs, hi, hst, hcw⟩ := hrel
    have Hbs := Lib.hid hbs
    have Hol := Lib.hid hol
    have Hi := Lib.hid hi
    have Hst := Lib.hid hst
    have Hcw := Lib.hid hcw
    have HPw := Lib.hid (row_kept hcw HP4.out (by rintro (e | e); exact Hne.out.2.2.1 e; have := Hlow.out.2.2.2.2.1; omega))
    have Hcc := Lib.hid (Hc4.out.above hcw fun k hk => by rcases hk with e | e; rw [e]; exact Hlow.out.1; exact Nat.le_trans Hlow.out.2.1 e)
    have p0 := var1 HPw.out
    clear hol hi hst hcw hbs
    by_cases hlt : j < n
    · have hlt' : j < l.length := by rw [← Hn.out]; exact hlt
      obtain ⟨rfl, -⟩ := H3.out (by intro e; rw [e] at hlt'; simp at hlt')
      have c0 := (Hs.out wr Hcc.out).at' j hlt'
      have hbl := Hrt.out _ (List.getElem_mem hlt')
      generalize l[j] = b at *
      have HP := Lib.hid (put_any os (by have := Hol.out; omega) b hbl lo sb ob W ps Hi.out wr Hst.out)
      unfold PutC at HP
      generalize putK W os b = pk at *
      generalize tryF W os b = pr at *
      clear hlt' hbl
      go_wp2_with fail
      refine HP.out.mono ?_
      rintro e w5 ⟨rfl, hc5, hr5, ps5, hi5, hst5⟩
      have Hc5 := Lib.hid (Hcw.out.trans (hc5.mono (T := fun k => k = ob ∨ lo ≤ k) fun k _ hk => hk.imp id fun h => (Hst.out.rowB h).1))
      have Hi5 := Lib.hid hi5
      have Hst5 := Lib.hid hst5
      clear hc5 hr5 hi5 hst5 c0 p0 HP
      go_wp2_with fail
      go_roundw
      case rel => exact ⟨j + 1, putO W os b, ps5, by omega, by go_num, Nat.le_trans (put_len_le W os b) (by have := Hol.out; omega), put_small Hbs.out, Hi5.out, Hst5.out, Hc5.out⟩
      case measure => simp [intOf]; omega
    · obtain rfl : j = n := by omega
      have hpl : ps.length = os.length := Hi.out.len
      have HL := Lib.hid (len_any ps lo sb ob W wr Hst.out)
      have Hps := Lib.hid (show ps.length ≤ 60 from by rw [hpl]; have := Hol.out; omega)
      obtain ⟨pn, hpn⟩ : ∃ z, z = ps.length := ⟨_, rfl⟩
      rw [← hpn] at HL
      have Hpn := Lib.hid hpn
      clear hlt hj hpl hpn
      go_wp2_with fail
      refine HL.out.mono ?_
      rintro e w' ⟨rfl, rfl⟩
      clear HL
      have hal_ := (Chg.refl NoB wr).alloc (.cells #[.int .i64 0] 3)
      have hb_ := heap_alloc_new wr (.cells #[.int .i64 0] 3)
      obtain ⟨ib, hxb_⟩ : ∃ b, b = wr.heap.size := ⟨_, rfl⟩
      obtain ⟨w5, hw_⟩ : ∃ w_, wr.alloc (.cells #[.int .i64 0] 3) = w_ := ⟨_, rfl⟩
      have hz_ : w5.heap.size = ib + 1 := by rw [← hw_, hxb_]; exact alloc_size _ _
      rw [hw_] at hal_ hb_
      rw [← hxb_] at hb_
      have Hw5 := Lib.hid hw_
      have Hx5 := Lib.hid hxb_
      have Ha5 := Lib.hid hal_
      have Hb5 := Lib.hid hb_
      have Hz5 := Lib.hid hz_
      clear hal_ hb_ hxb_ hw_ hz_
      have hal_ := (Chg.refl NoB w5).alloc (.cells #[.string ⟨#[]⟩] 9)
      have hb_ := heap_alloc_new w5 (.cells #[.string ⟨#[]⟩] 9)
      obtain ⟨lb, hxb_⟩ : ∃ b, b = w5.heap.size := ⟨_, rfl⟩
      obtain ⟨w6, hw_⟩ : ∃ w_, w5.alloc (.cells #[.string ⟨#[]⟩] 9) = w_ := ⟨_, rfl⟩
      have hz_ : w6.heap.size = lb + 1 := by rw [← hw_, hxb_]; exact alloc_size _ _
      rw [hw_] at hal_ hb_
      rw [← hxb_] at hb_
      have Hw6 := Lib.hid hw_
      have Hx6 := Lib.hid hxb_
      have Ha6 := Lib.hid hal_
      have Hb6 := Lib.hid hb_
      have Hz6 := Lib.hid hz_
      clear hal_ hb_ hxb_ hw_ hz_
      have hib : ib + 1 = lb := by rw [Hx6.out, Hz5.out]
      have Hib := Lib.hid hib
      have Hc6 := Lib.hid (Ha5.out.trans Ha6.out)
      have HA := Lib.hid (goes_any ps (by have := Hps.out; omega) lo sb ob W w6 (Hst.out.keep Hc6.out))
      clear hib p0
      have p0 : ((wr.alloc (.cells #[.int .i64 0] 3)).alloc (.cells #[.string ⟨#[]⟩] 9)).cell? ⟨pbx, 0, none⟩ = some (.pointer (some ⟨sb, 0, none⟩)) := by rw [Hw5.out, Hw6.out]; exact var1 (row_kept Hc6.out HPw.out id)
      go_wp2_with fail
      rw [Hw5.out, Hw6.out, ← Hx5.out]
      rw [Hib.out]
      clear p0
      refine HA.out.mono ?_
      rintro e wC ⟨hcC, qb, qv, nb, rfl, hql, hqc, hns⟩
      have HcC := Lib.hid (Hcc.out.trans (Hc6.out.trans hcC))
      have HstC := Lib.hid (Hst.out.keep (Hc6.out.trans hcC))
      have Hib3 := Lib.hid (show Boxed wC ib 3 (.int .i64 0) from row_kept (Ha6.out.trans hcC) Hb5.out id)
      have Hlb3 := Lib.hid (show Boxed wC lb 9 (.string ⟨#[]⟩) from row_kept hcC Hb6.out id)
      have HPC := Lib.hid (row_kept (Hc6.out.trans hcC) HPw.out id)
      have HMC := Lib.hid (row_kept (Hc6.out.trans hcC) (row_kept Hcw.out HM4.out (by rintro (e | e); exact Hne.out.1 e; have := Hlow.out.2.2.1; omega)) id)
      have HRC := Lib.hid (show Boxed wC rb 4 (.bool false) from row_kept (Hc6.out.trans hcC) (row_kept Hcw.out HR4.out (by rintro (e | e); exact Hne.out.2.1 e; have := Hlow.out.2.2.2.1; omega)) id)
      have HS2C := Lib.hid ((Hst2.out.1.keepC Hcw.out (by rintro (e | e); exact Hne.out.2.2.2.1 e; have := Hlow.out.2.2.2.2.2.1; omega) (by rintro (e | e); exact Hne.out.2.2.2.2 e; have := Hlow.out.2.2.2.2.2.2; omega) (fun k hk => absurd hk (Hst2.out.2 k))).keep (Hc6.out.trans hcC))
      have Hno2 := Lib.hid (show ∀ k, ¬ RowB wC ob2 k from fun k hk => Hst2.out.2 k ((hk.back (Hc6.out.trans hcC) (Nat.lt_of_lt_of_le Hst2.out.1.row_le.2 Hcw.out.size) id).back Hcw.out Hst2.out.1.row_le.2 (by rintro (e | e); exact Hne.out.2.2.2.2 e; have := Hlow.out.2.2.2.2.2.2; omega)))
      have Hord := Lib.hid (show lo ≤ ib ∧ ib < lb ∧ lb < w6.heap.size ∧ w6.heap.size ≤ wC.heap.size ∧ w6.heap.size ≤ qb ∧ qb < wC.heap.size ∧ lo ≤ wr.heap.size ∧ wr.heap.size ≤ ib from by have := Hst.out.ne.2.2.2; have := Hx5.out; have := Hz5.out; have := Hx6.out; have := Hz6.out; have := hcC.size; have h := cell_lt hqc; have : qb < wC.heap.size := h; omega)
      have Hrl := Lib.hid (show ∀ k, RowB wC ob k → lo ≤ k ∧ k < wr.heap.size from fun k hk => Hst.out.rowB (hk.back (Hc6.out.trans hcC) Hst.out.row_le.2 id))
      have Hobl := Lib.hid (show ob < lo from Hst.out.ne.2.2.1)
      have Hseq := Lib.hid (rising1_stops (4 - 1) qb (fun k => k = ib ∨ k = lb ∨ k = ob ∨ RowB wC ob k ∨ wC.heap.size ≤ k) (NewB w6 wC) ps (by have := Hps.out; omega) qv nb 0 wC (fun k hk x => by have h1 : w6.heap.size ≤ k := hk.1; have h2 : k < wC.heap.size := hk.2; have := Hord.out; have := Hobl.out; rcases x with x | x | x | x | x <;> first | omega | (have := Hrl.out k x; omega)) (fun x => by have := Hord.out; have := Hobl.out; rcases x with x | x | x | x | x <;> first | omega | (have := Hrl.out qb x; omega)) hqc hns)
      have HI0 := Lib.hid (show GI wC wC lo sb ob rb ib lb W os [] from ⟨⟨os, ps, Hi.out, HstC.out, Nat.le_refl _, fun b h => h, Hbs.out⟩, Chg.refl _ _, fun k h => .inl h, Hib3.out, Hlb3.out, HRC.out⟩)
      clear hcC hql hqc hns HA
      go_wp2_with fail
      refine (wpIn_wide (n := 4)).1 ?_
      refine wpIn_rangeFunc_ownF (α := FileL) rfl (by decide) (gf := 45) (lb := #[.pointer (some ⟨qb, 0, none⟩)]) rfl trivial (enters_of Try.func45 (by kernel_rfl) rfl)
        Hseq.out KeepT.trans (fun W l o o' _ h hc _ => KeepT.putObj W l o o' h hc) (Below.refl _ _) (fun _ => rfl)
        (fun pre V => GI wC V lo sb ob rb ib lb W os pre)
        (fun co pre V => ¬ pre <+: ps)
        (fun s A B row hs hg hr => ?own)
        (fun co s A B row hs hg hr => hs)
        HI0.out ?a1 ?assign ?body ?done ?stop
      case own =>
        obtain ⟨os', ps', hi, hst, hl, hb⟩ := hs.os
        obtain ⟨hst', hrow'⟩ := hst.grownR hg (fun r e => (hr r e).2)
        exact ⟨⟨os', ps', hi, hst', hl, hb⟩, hs.chg.grown hg fun k e => .inr (hr k e).1, fun k hk => hs.row k (hrow' k hk), hs.ibx.kept hg fun e => by have := (hr _ e.symm).1; have := Hord.out; omega, hs.lbx.kept hg fun e => by have := (hr _ e.symm).1; have := Hord.out; omega, hs.rbx.kept hg fun e => by have := (hr _ e.symm).1; have := Hord.out; have := Hlow.out; omega⟩
      case assign =>
        intro l' x V K hK
        gi_wp2
        exact hK
      case stop =>
        rintro D' co pre V hD hpre h
        exact absurd hpre h
      case body =>
        rintro l' pre ⟨x1, x2⟩ V hgi hlen
        obtain ⟨os', ps', hi, hst, hol, hbo, hbs⟩ := hgi.os
        have hol' : ps'.length ≤ 1048576 := by rw [hi.len]; have h60 := Hps.out; have h61 := Hi.out.len; omega
        have HG := Lib.hid (get_any ps' hol' lo sb ob W x1 V hst)
        rw [hi.get] at HG
        have Hok := Lib.hid (show pre ++ [(x1, x2)] <+: ps → bl (lastK pre) x1 = true ∧ getO W os' x1 = (x2, true) ∧ keyL W x2 = x1 from fun h => by
          have hm : (x1, x2) ∈ ps := h.subset (by simp)
          obtain ⟨h1, h2⟩ := Hi.out.mem.1 hm
          simp only at h1 h2
          exact ⟨lastK_lt Hi.out.asc (by rw [← h2]; exact key_ne W x2) h, by rw [← h2]; exact hi.has (hbo x2 h1), h2⟩)
        have hkp : ∀ b, lo ≤ b ∨ b < lo → b ≠ ib → b ≠ lb → b ≠ ob → b < lo → ¬ (b = ib ∨ b = lb ∨ b = ob ∨ RowB wC ob b) := fun b _ a1 a2 a3 a4 h => by
          rcases h with h | h | h | h
          · exact a1 h
          · exact a2 h
          · exact a3 h
          · have := (Hrl.out _ h).1; omega
        have HPV := Lib.hid (row_kept hgi.chg HPC.out (hkp _ (by omega) (by have := Hord.out; have := Hlow.out; omega) (by have := Hord.out; have := Hlow.out; omega) Hne.out.2.2.1 (by have := Hlow.out; omega)))
        have HMV := Lib.hid (row_kept hgi.chg HMC.out (hkp _ (by omega) (by have := Hord.out; have := Hlow.out; omega) (by have := Hord.out; have := Hlow.out; omega) Hne.out.1 (by have := Hlow.out; omega)))
        have HccV := Lib.hid (HcC.out.above hgi.chg (by have := Hord.out; have := Hlow.out; rintro k (x | x | x | x) <;> first | omega | (have := Hrl.out _ x; omega)))
        have HGI := Lib.hid hgi
        have Hi' := Lib.hid hi
        have Hst' := Lib.hid hst
        have Hol' := Lib.hid (And.intro hol hol')
        have Hbo' := Lib.hid hbo
        have Hbs' := Lib.hid hbs
        obtain ⟨g1, hg1⟩ : ∃ g, g = (getO W os' x1).1 := ⟨_, rfl⟩
        obtain ⟨g2, hg2⟩ : ∃ g, g = (getO W os' x1).2 := ⟨_, rfl⟩
        rw [← hg1, ← hg2] at HG
        have hgo : getO W os' x1 = (g1, g2) := by rw [hg1, hg2]
        rw [hgo] at Hok
        have Hgo := Lib.hid hgo
        have p0 := var1 HPV.out
        have hlen' : pre.length ≤ 60 := by have := Hps.out; omega
        clear hi hst hol hbo hbs hg1 hg2 hgo hgi hol' hkp hlen
        try dsimp only
        gi_wp2
        refine ⟨trivial, ?_⟩
        refine (CallsIn.inRound l' ((callsIn_wide (n := _)).2 HG.out)).mono ?_
        rintro e V3 ⟨hc3, rfl⟩
        have Hc3 := Lib.hid hc3
        have HG3 := Lib.hid (HGI.out.keep hc3)
        have l0 := HG3.out.lbx.cell
        have r0 := HG3.out.rbx.cell
        have r1 := HG3.out.rbx.frozen
        have p0 := var1 (row_kept hc3 HPV.out id)
        obtain ⟨la, hla⟩ : ∃ z, z = lastK pre := ⟨_, rfl⟩
        rw [← hla] at l0 Hok
        have hls : Op.bytesLess (tx x1).toList (tx la).toList = bl x1 la := by rw [txL, txL]; rfl
        have hleq := tx_beq x1 la
        have Hla := Lib.hid hla
        have hr := tx_beq g1 x2
        clear hc3 HG hla
        cases hbl : bl x1 la with
        | true =>
          rw [hbl] at hls
          have Hbad := Lib.hid (show ¬ pre ++ [(x1, x2)] <+: ps from fun h => by have := bl_asymm (Hok.out h).1; rw [hbl] at this; cases this)
          clear hbl
          gi_wp2
          refine ⟨trivial, ?_⟩
          gi_wp2
          exact ⟨(Chg.others Hc3.out).trans (KeepsOthers.setCell _ _ _), Hbad.out⟩
        | false =>
        rw [hbl] at hls
        clear hbl
        by_cases hxl : x1 = la
        · rw [decide_eq_true hxl] at hleq
          have Hbad := Lib.hid (show ¬ pre ++ [(x1, x2)] <+: ps from fun h => by have := (Hok.out h).1; rw [hxl, bl_irr] at this; cases this)
          clear hxl
          gi_wp2
          refine ⟨trivial, ?_⟩
          gi_wp2
          exact ⟨(Chg.others Hc3.out).trans (KeepsOthers.setCell _ _ _), Hbad.out⟩
        rw [decide_eq_false hxl] at hleq
        clear hxl
        cases g2 with
        | false =>
          have Hbad := Lib.hid (show ¬ pre ++ [(x1, x2)] <+: ps from fun h => by have := (Hok.out h).2.1; cases this)
          gi_wp2
          refine ⟨trivial, ?_⟩
          gi_wp2
          exact ⟨(Chg.others Hc3.out).trans (KeepsOthers.setCell _ _ _), Hbad.out⟩
        | true =>
        by_cases hgx : ¬ g1 = x2
        · rw [decide_eq_false hgx] at hr
          have Hbad := Lib.hid (show ¬ pre ++ [(x1, x2)] <+: ps from fun h => hgx (congrArg Prod.fst (Hok.out h).2.1))
          clear hgx
          gi_wp2
          refine ⟨trivial, ?_⟩
          gi_wp2
          exact ⟨(Chg.others Hc3.out).trans (KeepsOthers.setCell _ _ _), Hbad.out⟩
        obtain rfl : g1 = x2 := Classical.not_not.1 hgx
        rw [decide_eq_true rfl] at hr
        clear hgx
        have hmem := getO_mem Hgo.out
        have HK := Lib.hid (key_any g1 (by have := Hbs'.out g1 hmem.1; omega) sb W _ V3 (Hst'.out.keep Hc3.out).row)
        have hkx := hmem.2
        rw [hkx] at HK
        have hr2 := tx_beq x1 x1
        rw [decide_eq_true rfl] at hr2
        have hpl : (pre.length : Int) + 1 = ((pre ++ [(x1, g1)]).length : Int) := by simp
        obtain ⟨pl, hpl2⟩ : ∃ z, z = pre.length := ⟨_, rfl⟩
        rw [← hpl2] at hpl hlen'
        have Hpl := Lib.hid hpl
        have Hpl2 := Lib.hid hpl2
        clear hkx hmem hpl hpl2
        gi_wp2
        refine ⟨trivial, ?_⟩
        refine (CallsIn.inRound l' ((callsIn_wide (n := _)).2 HK.out)).mono ?_
        rintro e V4 ⟨rfl, hc4⟩
        have HG4 := Lib.hid (HG3.out.keep hc4)
        have Hc4 := Lib.hid (Hc3.out.trans hc4)
        clear hc4 l0 r0 r1 p0 HK
        have i0 := HG4.out.ibx.cell
        rw [← Hpl2.out] at i0
        have i1 := HG4.out.ibx.frozen
        have l1 := HG4.out.lbx.frozen
        have p0 := var1 (row_kept Hc4.out HPV.out id)
        have m0 := var1 (row_kept Hc4.out HMV.out id)
        have Hst4 := Lib.hid (Hst'.out.keep Hc4.out)
        by_cases hmore : pl < n2
        · have hlt' : pl < l2.length := by rw [← Hn2.out]; exact hmore
          obtain ⟨rfl, -⟩ := D3.out (by intro e; rw [e] at hlt'; simp at hlt')
          have c0 := (Hs2.out V4 (HccV.out.trans Hc4.out)).at' pl hlt'
          have hbl := Hrt2.out _ (List.getElem_mem hlt')
          generalize l2[pl] = b at *
          have HP := Lib.hid (put_any os' (by have := Hol'.out.1; have h60 := Hps.out; have h61 := Hi.out.len; have := Hpl2.out; omega) b hbl lo sb ob W ps' Hi'.out V4.drew (Hst4.out.keep (Chg.refl NoB V4).drew))
          unfold PutC at HP
          generalize putK W os' b = pk at *
          generalize tryF W os' b = pr at *
          clear hlt' hbl
          gi_wp2
          gi_region_with (refine ⟨trivial, ?_⟩; refine (CallsIn.inRound l' ((callsIn_wide (n := _)).2 HP.out)).mono ?_; rintro e V5 ⟨rfl, hc5, hr5, ps5, hi5, hst5⟩)
          all_goals
            have HF := Lib.hid ((HG4.out.keep (Chg.refl NoB V4).drew).next (V5 := V5) ⟨putO W os' b, ps5, hi5, hst5, Nat.le_trans (put_len_le W os' b) (by have := Hol'.out.1; omega), fun x hx => put_sub (Hbo'.out x hx), put_small Hbs'.out⟩ hc5 hr5 ⟨Hobl.out, Hord.out.1, Hord.out.2.1, Nat.lt_of_lt_of_le Hord.out.2.2.1 Hord.out.2.2.2.1, Hlow.out.2.2.2.1⟩ Hne.out.2.1 (fun k hk => by have := Hrl.out k hk; have := Hord.out; omega) (x1, g1) _ Hpl.out)
            obtain ⟨lv, l0⟩ := HF.out.2.2.2.1
            have l1 := HF.out.2.2.2.2.1
            have i0 := HF.out.2.2.2.2.2.1
            have i1 := HF.out.2.2.2.2.2.2
            rw [← Hpl2.out] at i0
            clear hc5 hr5 hi5 hst5 p0 m0 c0 HP
            gi_wp2
            exact ⟨(Chg.others Hc4.out.drew).trans HF.out.2.2.1, (Hc4.out.drew.keepT fun k h => h.elim).trans HF.out.2.1, HF.out.1⟩
        · have HF := Lib.hid (HG4.out.next (V5 := V4) ⟨os', ps', Hi'.out, Hst4.out, by have := Hol'.out.1; omega, Hbo'.out, Hbs'.out⟩ (Chg.refl _ _) (fun k h => .inl h) ⟨Hobl.out, Hord.out.1, Hord.out.2.1, Nat.lt_of_lt_of_le Hord.out.2.2.1 Hord.out.2.2.2.1, Hlow.out.2.2.2.1⟩ Hne.out.2.1 (fun k hk => by have := Hrl.out k hk; have := Hord.out; omega) (x1, g1) _ Hpl.out)
          obtain ⟨lv, l0⟩ := HF.out.2.2.2.1
          have i0 := HF.out.2.2.2.2.2.1
          have i1 := HF.out.2.2.2.2.2.2
          rw [← Hpl2.out] at i0
          clear p0
          gi_wp2
          exact ⟨(Chg.others Hc4.out).trans HF.out.2.2.1, (Hc4.out.keepT fun k h => h.elim).trans HF.out.2.1, HF.out.1⟩
      case done =>
        rintro D' ys V hD rfl hgi hK
        have i0 := hgi.ibx.cell
        rw [← Hpn.out] at i0
        have r0 := hgi.rbx.cell
        have r1 := hgi.rbx.frozen
        have hst2 : StO V lo sb2 ob2 W [] := HS2C.out.keepC hgi.chg (by have := Hord.out; have := Hlow.out; rintro (x | x | x | x) <;> first | omega | exact Hne.out.2.2.2.1 x | (have := Hrl.out _ x; omega)) (by have := Hord.out; have := Hlow.out; rintro (x | x | x | x) <;> first | omega | exact Hne.out.2.2.2.2 x | (have := Hrl.out _ x; omega)) (fun k hk => absurd hk (Hno2.out k))
        have HL := Lib.hid (len_any [] lo sb2 ob2 W V hst2)
        have HE := Lib.hid (reads_finC (r := true) HcC.out Hrb.out hgi.chg (by have := Hord.out; have := Hlow.out; rintro k (x | x | x | x) <;> first | omega | (have := Hrl.out _ x; omega)) hgi.rbx hK hD)
        clear hgi hK hst2
        go_wp2_with fail
        refine HL.out.mono ?_
        rintro e w' ⟨rfl, rfl⟩
        go_wp2_with fail
        refine ⟨by simp, .inl ⟨_, _, rfl, run_takeDeferred (HE.out.1), ?_⟩⟩
        have hc6 := HE.out.2.1
        refine ⟨.bool true, ?_, rfl, HE.out.2.2⟩
        simp [results, Try.f5, go_sem, hc6]
/-FRAME-/
set_option maxRecDepth 100000 in
theorem casGoes_lifted (os : Os) (started : os.Started) (H : Type) (enc : TypeId × Value → H) :
    ReturnsInHanded {} Try.checked os 5 .any (Rows.casGoesSpec.pre6 enc Try.prog Try.f5 Rows.casGoesRow.domain false) (Rows.casGoesSpec.post enc Try.prog Try.f5 false true false false) := by
  refine returnsInHanded_of_change_sized (C := Try.checked) Try.own started (by kernel_rfl) Try.func5
    (ChangeSpec.witness6 (enc := enc) (C := Try.checked) false ⟨#[], #[.int .i64 0, .slice none 0 0, .slice none 0 0], []⟩ 8 (by kernel_rfl) (by kernel_rfl) (by kernel_rfl) (by kernel_rfl)) ?_
  intro W base args ds gs before hval0 hW hcnd hsz0 _
  have hval : ∀ (j : Nat) t v, Try.f5.params[j]? = some t → args[j]? = some v → Value.okWide Try.prog W .any base t v := hval0
  have hW' := hW
  obtain ⟨p, q, hA0, hV, rfl, _, _⟩ := hW
  have hA : DataW.TrodAll enc Try.prog W 0 (fun _ => true) true Try.f5.params.toList args.toList ds p := hA0
  have hsz1 : (DataW.weightsEach Try.prog (Try.f5.params.toList ++ Rows.casGoesSpec.plain.varTypes Try.prog) (ds ++ gs)).all (· ≤ reachBytes) = true := hsz0
  rw [Try.params5] at hA hval hsz1
  obtain ⟨v0, v1, v2, d0, d1, d2, p0, p1, p2, rfl, rfl, rfl, h0, h1, h2⟩ := trodAll_three hA
  obtain ⟨rfl, rfl⟩ := trodVars_none hV
  obtain ⟨x0, rfl, rfl, rfl, wx0⟩ := open_int Try.underlying3 (hval 0 3 v0 rfl rfl) h0
  obtain ⟨l1, kb1, ko1, hn1, hr1⟩ := open_texts (hval 1 22 v1 rfl rfl) h1 (fun m hm => of_decide_eq_true (List.all_eq_true.1 hsz1 m (DataW.weights_mem_each (j := 1) (t := 22) (d := d1) rfl rfl m hm)))
  obtain ⟨l2, kb2, ko2, hn2, hr2⟩ := open_texts (hval 2 22 v2 rfl rfl) h2 (fun m hm => of_decide_eq_true (List.all_eq_true.1 hsz1 m (DataW.weights_mem_each (j := 2) (t := 22) (d := d2) rfl rfl m hm)))
  clear hA0 hval0 hsz0
  refine (casGoes_all x0 l1 _ kb1 ko1 l2 _ kb2 ko2 W wx0 hn1 hr1 hn2 hr2 ).mono fun e W' ⟨he, hb⟩ => ?_
  subst he
  exact ⟨_, rfl, _, _, _, [], _, [], hW', trodAll_mk1 (shut_bool Try.underlying4 _), (trodAll_cons_mk (shut_int Try.underlying3 wx0) (trodAll_cons_mk (texts_stay h1 hb.below) (trodAll_cons_mk (texts_stay h2 hb.below) trodAll_mk0))), rfl, hb.below.frame _, fun h => by cases h⟩
theorem casGoes_holds : Rows.CasGoesSaid :=
  OpenClaim.holds_of_wide 5 Try.f5 rfl rfl rfl rfl rfl rfl rfl ⟨rfl, rfl, rfl, rfl, rfl⟩ rfl rfl rfl rfl rfl (by kernel_rfl) Try.func5 (by kernel_rfl)
    (of_decide_eq_true (by kernel_rfl)) (by unfold Func.isWrapper; first | (rw [if_pos (by decide +kernel)]; kernel_rfl) | (rw [if_neg (by decide +kernel)]; exact ⟨rfl, rfl⟩))
    (fun os started H enc _ => casGoes_lifted os started H enc)
#print axioms casGoes_holds
end Go.Proofs.Ytbloglfmhhgccaa
