/- Proved: the statement DrvTells holds for every pair of builds. Conditions: the listed package variables read as the program's text lays them (the card ties them); nothing else. -/
import Derived.Test.YtnipiphhkcafhaaDoorDvLaw
import Derived.Test.YtnipiphhkcafhaaDoorDvFrame
import Derived.Test.YtnipiphhkcafhaaDoorDvBuild
import Derived.Deep.RegionHeld3
import Derived.DeepKeys
namespace Go.Proofs.YtnipiphhkcafhaaDoor
set_option linter.unusedVariables false
open Go.ChangeShapes Go.WideShapes Go.ChangeAt Go.RowKit
def DDecP (r : Except Int DrvL) (w : World) (e : Ending) (w' : World) : Prop := Chg NoB w w' ∧ match r with
  | .error y => e = .returned (.tuple #[.agg zD6, .int .i64 y])
  | .ok d => ∃ v, e = .returned (.tuple #[v, .int .i64 0]) ∧ DrvV w' (NewB w w') v d
noncomputable def backG (r : Option DrvL) : Except Int DrvL := match r with
  | none => .error 5
  | some d => if goodD d = true then .ok d else .error 5
set_option maxHeartbeats 4000000 in
set_option maxRecDepth 20000 in
theorem ddec_any (s : List UInt8) (base : Nat) (w : World) (hl : Lb base w) (hs : s.length ≤ 1048576) : Calls Tryd.prog 13 #[.string (tx s)] w (DDecP (decD s) w) := by
  have hal := (Chg.refl NoB w).alloc (.cells #[.string ⟨#[]⟩, .int .i64 0, .int .i64 0, .int .i64 0, .string ⟨#[]⟩, .slice none 0 0] 28)
  have hb := heap_alloc_new w (.cells #[.string ⟨#[]⟩, .int .i64 0, .int .i64 0, .int .i64 0, .string ⟨#[]⟩, .slice none 0 0] 28)
  obtain ⟨rb, hrb⟩ : ∃ b, b = w.heap.size := ⟨_, rfl⟩
  obtain ⟨w1, hw1⟩ : ∃ w1, w.alloc (.cells #[.string ⟨#[]⟩, .int .i64 0, .int .i64 0, .int .i64 0, .string ⟨#[]⟩, .slice none 0 0] 28) = w1 := ⟨_, rfl⟩
  rw [hw1] at hal hb
  rw [← hrb] at hb
  have Hw1 := Lib.hid hw1
  have Hrb := Lib.hid hrb
  have Hwr := Lib.hid (show w.heap.size ≤ rb by omega)
  have Hc1 := Lib.hid hal
  have Hr1 := Lib.hid hb
  have hl1 := hl.keep hal
  have Hd := Lib.hid (dec_any s w1 hl1.top hs)
  have Hl := Lib.hid hl
  obtain ⟨res, hres⟩ : ∃ r, r = decD s := ⟨_, rfl⟩
  have hdd : res = match decR s with
      | .error y => .error y
      | .ok n => backG (buildF n) := by
    rw [hres]
    unfold decD
    cases decR s <;> rfl
  rw [← hres]
  have Hres := Lib.hid hdd
  clear hal hb hrb hw1 hl1 hl hs hres hdd
  go_enter Tryd.func13, Tryd.ntmps13
  go_upto_region 1 with fail
  rw [Hw1.out, ← Hrb.out]
  cases hdec : decR s with
  | error y =>
    obtain ⟨y0, y1⟩ := decR_err hdec
    have hyb : (y != 0) = true := by rw [bne_iff_ne]; omega
    rw [hdec] at Hd Hres
    clear hdec
    unfold DecP nodeZ at Hd
    go_wp2_with fail
    refine Hd.out.mono ?_
    rintro e w3 ⟨hc3, rfl⟩
    have hc3' := hc3.alloc (.cells #[.bool false, .string ⟨#[]⟩, .slice none 0 0] 43)
    have Hc3 := Lib.hid (Hc1.out.trans hc3')
    have Hr3 := Lib.hid (row_kept hc3' Hr1.out id)
    clear hc3 hc3'
    go_upto_region 2 with fail
    generalize w3.alloc (.cells #[.bool false, .string ⟨#[]⟩, .slice none 0 0] 43) = w4 at *
    obtain ⟨r0, r1, r2, r3, r4, r5⟩ := var6 Hr3.out
    have rf := row_free Hr3.out
    go_wp2_with fail
    obtain ⟨e0, e1, e2, e3, e4, e5⟩ := var6 (box6 Hr3.out (.string ⟨#[]⟩) (.int .i64 0) (.int .i64 0) (.int .i64 0) (.string ⟨#[]⟩) (.slice none 0 0))
    have hfin := box6_chg (b := rb) Hc3.out (.inr Hwr.out) (.string ⟨#[]⟩) (.int .i64 0) (.int .i64 0) (.int .i64 0) (.string ⟨#[]⟩) (.slice none 0 0)
    have hst := box6_chg (b := rb) (Chg.refl (fun y => y = rb) w4) (.inl rfl) (.string ⟨#[]⟩) (.int .i64 0) (.int .i64 0) (.int .i64 0) (.string ⟨#[]⟩) (.slice none 0 0)
    generalize ((((((w4.setCell ⟨rb, 0, none⟩ (.string ⟨#[]⟩)).setCell ⟨rb, 1, none⟩ (.int .i64 0)).setCell ⟨rb, 2, none⟩ (.int .i64 0)).setCell ⟨rb, 3, none⟩ (.int .i64 0)).setCell ⟨rb, 4, none⟩ (.string ⟨#[]⟩)).setCell ⟨rb, 5, none⟩ (.slice none 0 0)) = wf at *
    refine bodyPost_ret (v := .tuple #[.agg zD6, .int .i64 y]) (by simp [results, Tryd.results13, go_sem, e0, e1, e2, e3, e4, e5, zD6]) rfl ⟨hfin, ?_⟩
    rw [Hres.out]
  | ok n =>
    have Hcnt := Lib.hid (dec_count hdec)
    rw [hdec] at Hd Hres
    clear hdec
    go_wp2_with fail
    refine Hd.out.mono ?_
    rintro e w3 ⟨hc3, v3, rfl, hv3⟩
    obtain ⟨ha3, q, len, c, kb, ko, rfl, hs3⟩ := hv3.shape
    have hal4 := (Chg.refl NoB w3).alloc (.cells #[.bool n.leaf, .string n.atom, .slice q len c] 43)
    have hb4 := heap_alloc_new w3 (.cells #[.bool n.leaf, .string n.atom, .slice q len c] 43)
    obtain ⟨w4, hw4⟩ : ∃ w4, w3.alloc (.cells #[.bool n.leaf, .string n.atom, .slice q len c] 43) = w4 := ⟨_, rfl⟩
    obtain ⟨nb, hnb⟩ : ∃ nb, nb = w3.heap.size := ⟨_, rfl⟩
    rw [hw4] at hal4 hb4
    rw [← hnb] at hb4
    have Hnb := Lib.hid hnb
    have Hw4 := Lib.hid hw4
    have Hc4 := Lib.hid (Hc1.out.trans (hc3.trans hal4))
    have Hr4 := Lib.hid (row_kept (hc3.trans hal4) Hr1.out id)
    have hbd := dbuild_any n Hcnt.out _ _ base w4 (Hl.out.keep Hc4.out) (hv3.keep hal4 fun _ _ => id)
    obtain ⟨n0, n1, n2⟩ := var3 hb4
    have Hbd := Lib.hid hbd
    obtain ⟨bf, hbf⟩ : ∃ b, b = buildF n := ⟨_, rfl⟩
    rw [← hbf] at Hbd
    rw [← hbf] at Hres
    have Hbf := Lib.hid hbf
    clear hc3 hal4 hb4 hw4 hnb hv3 hs3 ha3 hbd hbf Hd
    go_upto_region 2 with fail
    rw [Hw4.out, ← Hnb.out]
    go_wp2_with fail
    refine Hbd.out.mono ?_
    rintro e w5 ⟨hc5, he5⟩
    have Hc5 := Lib.hid (Hc4.out.trans hc5)
    have Hr5 := Lib.hid (row_kept hc5 Hr4.out id)
    clear n0 n1 n2 Hbd
    cases bf with
    | none =>
      change Hid (res = .error 5) at Hres
      replace he5 : e = .returned (.tuple #[.agg zD6, .bool false]) := he5
      subst he5
      unfold zD6
      have hal6 := (Chg.refl NoB w5).alloc (.cells #[.string ⟨#[]⟩, .int .i64 0, .int .i64 0, .int .i64 0, .string ⟨#[]⟩, .slice none 0 0] 28)
      have Hc6 := Lib.hid (Hc5.out.trans hal6)
      have Hr6 := Lib.hid (row_kept hal6 Hr5.out id)
      clear hc5 hal6
      go_upto_region 5 with fail
      generalize w5.alloc (.cells #[.string ⟨#[]⟩, .int .i64 0, .int .i64 0, .int .i64 0, .string ⟨#[]⟩, .slice none 0 0] 28) = w6 at *
      obtain ⟨r0, r1, r2, r3, r4, r5⟩ := var6 Hr6.out
      have rf := row_free Hr6.out
      go_wp2_with fail
      obtain ⟨e0, e1, e2, e3, e4, e5⟩ := var6 (box6 Hr6.out (.string ⟨#[]⟩) (.int .i64 0) (.int .i64 0) (.int .i64 0) (.string ⟨#[]⟩) (.slice none 0 0))
      have hfin := box6_chg (b := rb) Hc6.out (.inr Hwr.out) (.string ⟨#[]⟩) (.int .i64 0) (.int .i64 0) (.int .i64 0) (.string ⟨#[]⟩) (.slice none 0 0)
      have hst := box6_chg (b := rb) (Chg.refl (fun y => y = rb) w6) (.inl rfl) (.string ⟨#[]⟩) (.int .i64 0) (.int .i64 0) (.int .i64 0) (.string ⟨#[]⟩) (.slice none 0 0)
      generalize ((((((w6.setCell ⟨rb, 0, none⟩ (.string ⟨#[]⟩)).setCell ⟨rb, 1, none⟩ (.int .i64 0)).setCell ⟨rb, 2, none⟩ (.int .i64 0)).setCell ⟨rb, 3, none⟩ (.int .i64 0)).setCell ⟨rb, 4, none⟩ (.string ⟨#[]⟩)).setCell ⟨rb, 5, none⟩ (.slice none 0 0)) = wf at *
      refine bodyPost_ret (v := .tuple #[.agg zD6, .int .i64 5]) (by simp [results, Tryd.results13, go_sem, e0, e1, e2, e3, e4, e5, zD6]) rfl ⟨hfin, ?_⟩
      rw [Hres.out]
    | some d =>
      have Hwf := Lib.hid (build_wf Hcnt.out Hbf.out.symm)
      change Hid (res = if goodD d = true then .ok d else .error 5) at Hres
      obtain ⟨v5, rfl, s5, kb5, ko5, rfl, hs5⟩ := he5
      have hs50 := hs5
      obtain ⟨⟨q5, c5, rfl, -, -, -⟩, -⟩ := hs5
      have hal6 := (Chg.refl NoB w5).alloc (.cells (drvC d (.slice q5 d.ins.length c5)) 28)
      have hb6 := heap_alloc_new w5 (.cells (drvC d (.slice q5 d.ins.length c5)) 28)
      have hgd := dgood_any d Hwf.out (NewB w4 w5) (.agg (drvC d (.slice q5 d.ins.length c5))) _ ⟨_, kb5, ko5, rfl, hs50.keep hal6 fun _ _ => id⟩
      unfold drvC at *
      have Hs5 := Lib.hid hs50
      obtain ⟨l5, hl5⟩ : ∃ l, l = d.ins.length := ⟨_, rfl⟩
      rw [← hl5] at hal6 hb6 hgd Hs5 ⊢
      obtain ⟨name, hnm⟩ : ∃ x, d.name = x := ⟨_, rfl⟩
      obtain ⟨tool, htl⟩ : ∃ x, d.tool = x := ⟨_, rfl⟩
      obtain ⟨da, hda⟩ : ∃ x, d.a = x := ⟨_, rfl⟩
      obtain ⟨db, hdb⟩ : ∃ x, d.b = x := ⟨_, rfl⟩
      obtain ⟨dc, hdc⟩ : ∃ x, d.c = x := ⟨_, rfl⟩
      have Hval : Hid (drvC d (.slice q5 l5 c5) = #[.string (tx name), .int .i64 da, .int .i64 db, .int .i64 dc, .string (tx tool), .slice q5 l5 c5]) := Lib.hid (by unfold drvC; rw [hnm, htl, hda, hdb, hdc])
      rw [hnm, htl, hda, hdb, hdc] at hal6 hb6 hgd ⊢
      clear hl5 hnm htl hda hdb hdc hs50
      obtain ⟨w6, hw6⟩ : ∃ w6, w5.alloc (.cells #[.string (tx name), .int .i64 da, .int .i64 db, .int .i64 dc, .string (tx tool), .slice q5 l5 c5] 28) = w6 := ⟨_, rfl⟩
      obtain ⟨xb, hxb⟩ : ∃ xb, xb = w5.heap.size := ⟨_, rfl⟩
      rw [hw6] at hal6 hb6 hgd
      rw [← hxb] at hb6
      have Hw6 := Lib.hid hw6
      have Hxb := Lib.hid hxb
      have Hal6 := Lib.hid hal6
      have Hgd := Lib.hid hgd
      have Hb6 := Lib.hid hb6
      have Hz45 := Lib.hid hc5.size
      clear hw6 hxb hal6 hgd hb6 hc5
      obtain ⟨gd, hgd⟩ : ∃ g, g = goodD d := ⟨_, rfl⟩
      rw [← hgd] at Hgd Hres
      clear hgd
      go_upto_region 5 with fail
      rw [Hw6.out, ← Hxb.out]
      obtain ⟨f0, f1, f2, f3, f4, f5⟩ := var6 Hb6.out
      go_wp2_with fail
      refine Hgd.out.mono ?_
      rintro e w7 ⟨rfl, hc7⟩
      have Hc57 := Lib.hid (Hal6.out.trans hc7)
      have Hc7 := Lib.hid (Hc5.out.trans Hc57.out)
      have Hr7 := Lib.hid (row_kept Hc57.out Hr5.out id)
      have Hb7 := Lib.hid (row_kept hc7 Hb6.out id)
      have Hs7 := Lib.hid (Hs5.out.keep Hc57.out fun _ _ => id)
      clear f0 f1 f2 f3 f4 f5 hc7
      obtain ⟨r0, r1, r2, r3, r4, r5⟩ := var6 Hr7.out
      have rf := row_free Hr7.out
      cases gd with
      | false =>
        rw [if_neg (by decide)] at Hres
        go_wp2_with fail
        obtain ⟨e0, e1, e2, e3, e4, e5⟩ := var6 (box6 Hr7.out (.string ⟨#[]⟩) (.int .i64 0) (.int .i64 0) (.int .i64 0) (.string ⟨#[]⟩) (.slice none 0 0))
        have hfin := box6_chg (b := rb) Hc7.out (.inr Hwr.out) (.string ⟨#[]⟩) (.int .i64 0) (.int .i64 0) (.int .i64 0) (.string ⟨#[]⟩) (.slice none 0 0)
        have hst := box6_chg (b := rb) (Chg.refl (fun y => y = rb) w7) (.inl rfl) (.string ⟨#[]⟩) (.int .i64 0) (.int .i64 0) (.int .i64 0) (.string ⟨#[]⟩) (.slice none 0 0)
        generalize ((((((w7.setCell ⟨rb, 0, none⟩ (.string ⟨#[]⟩)).setCell ⟨rb, 1, none⟩ (.int .i64 0)).setCell ⟨rb, 2, none⟩ (.int .i64 0)).setCell ⟨rb, 3, none⟩ (.int .i64 0)).setCell ⟨rb, 4, none⟩ (.string ⟨#[]⟩)).setCell ⟨rb, 5, none⟩ (.slice none 0 0)) = wf at *
        refine bodyPost_ret (v := .tuple #[.agg zD6, .int .i64 5]) (by simp [results, Tryd.results13, go_sem, e0, e1, e2, e3, e4, e5, zD6]) rfl ⟨hfin, ?_⟩
        rw [Hres.out]
      | true =>
        rw [if_pos rfl] at Hres
        obtain ⟨f0, f1, f2, f3, f4, f5⟩ := var6 Hb7.out
        go_wp2_with fail
        obtain ⟨e0, e1, e2, e3, e4, e5⟩ := var6 (box6 Hr7.out (.string (tx name)) (.int .i64 da) (.int .i64 db) (.int .i64 dc) (.string (tx tool)) (.slice q5 l5 c5))
        have hfin := box6_chg (b := rb) Hc7.out (.inr Hwr.out) (.string (tx name)) (.int .i64 da) (.int .i64 db) (.int .i64 dc) (.string (tx tool)) (.slice q5 l5 c5)
        have hst := box6_chg (b := rb) (Chg.refl (fun y => y = rb) w7) (.inl rfl) (.string (tx name)) (.int .i64 da) (.int .i64 db) (.int .i64 dc) (.string (tx tool)) (.slice q5 l5 c5)
        generalize ((((((w7.setCell ⟨rb, 0, none⟩ (.string (tx name))).setCell ⟨rb, 1, none⟩ (.int .i64 da)).setCell ⟨rb, 2, none⟩ (.int .i64 db)).setCell ⟨rb, 3, none⟩ (.int .i64 dc)).setCell ⟨rb, 4, none⟩ (.string (tx tool))).setCell ⟨rb, 5, none⟩ (.slice q5 l5 c5)) = wf at *
        refine bodyPost_ret (v := .tuple #[.agg #[.string (tx name), .int .i64 da, .int .i64 db, .int .i64 dc, .string (tx tool), .slice q5 l5 c5], .int .i64 0]) (by simp [results, Tryd.results13, go_sem, e0, e1, e2, e3, e4, e5]) rfl ⟨hfin, ?_⟩
        rw [Hres.out]
        have hrw : rb < w4.heap.size := lt_of_block Hr4.out
        have hz4 := Hc4.out.size
        have hz5 := Hc57.out.size
        have hz := hst.size
        refine ⟨_, rfl, _, kb5, ko5, by rw [Hval.out], (Hs7.out.keep hst fun y hy e => ?_).mono fun y hy => ?_⟩
        · have h1 : w4.heap.size ≤ y := hy.1
          have h2 : y = rb := e
          omega
        · have h1 : w4.heap.size ≤ y := hy.1
          have h2 : y < w5.heap.size := hy.2
          exact (show w.heap.size ≤ y ∧ y < wf.heap.size by omega)
theorem tx_beq (l m : List UInt8) : ((tx l).toList == (tx m).toList) = decide (l = m) := by
  rw [Lib.toList_data, Lib.toList_data, tx_list, tx_list]
  by_cases h : l = m
  · subst h; simp
  · simp [h]
theorem wf_i64 {n : Int} (h : -9223372036854775808 ≤ n ∧ n ≤ 9223372036854775807) : (Lit.int .i64 n).wf = true := by
  simp [Lit.wf, IntKind.min, IntKind.max, IntKind.signed, IntKind.bits]; omega
theorem ver_eq (a1 b1 c1 a2 b2 c2 : Int) (w : World) (w1 : (Lit.int .i64 a1).wf = true) (w2 : (Lit.int .i64 b1).wf = true) (w3 : (Lit.int .i64 c1).wf = true) (w4 : (Lit.int .i64 a2).wf = true) (w5 : (Lit.int .i64 b2).wf = true) (w6 : (Lit.int .i64 c2).wf = true) : ∃ r : Bool, Sem.run Tryd.prog (Op.equalIn 9999 23 (.agg #[.int .i64 a1, .int .i64 b1, .int .i64 c1]) (.agg #[.int .i64 a2, .int .i64 b2, .int .i64 c2])) w = .ok r w ∧ (r = true ↔ a1 = a2 ∧ b1 = b2 ∧ c1 = c2) := by
  have cv : Tryd.prog.cellsOf 23 = 3 := by kernel_rfl
  have ci : Tryd.prog.cellsOf 3 = 1 := by kernel_rfl
  obtain ⟨r, h1, h2⟩ := run_equalIn_deep (P := Tryd.prog) 9997 2 23 (by kernel_rfl) w 2 2 (.agg #[.int .i64 a1, .int .i64 b1, .int .i64 c1]) (.agg #[.int .i64 a2, .int .i64 b2, .int .i64 c2]) [.int .i64 a1, .int .i64 b1, .int .i64 c1] [.int .i64 a2, .int .i64 b2, .int .i64 c2] (by kernel_rfl) (by kernel_rfl) (by simp [Program.keyLits, Value.cells, Tryd.underlying23, Tryd.underlying3, cv, ci, w1, w2, w3, show List.range 3 = [0, 1, 2] from rfl]) (by simp [Program.keyLits, Value.cells, Tryd.underlying23, Tryd.underlying3, cv, ci, w4, w5, w6, show List.range 3 = [0, 1, 2] from rfl])
  exact ⟨r, h1, h2.trans (by simp)⟩
def SameD (a b : DrvL) (w : World) (e : Ending) (w' : World) : Prop := (∃ c : Bool, e = .returned (.bool c) ∧ (c = true ↔ a = b)) ∧ Chg NoB w w'
set_option maxHeartbeats 2000000 in
set_option maxRecDepth 20000 in
theorem dsame_any (a b : DrvL) (ha : a.wf) (hbw : b.wf) (S T : Nat → Prop) (v u : Value) (w : World) (hv : DrvV w S v a) (hu : DrvV w T u b) (hb : a.ins.length ≤ 131072) :
    Calls Tryd.prog 14 #[v, u] w (SameD a b w) := by
  obtain ⟨s, kb, ko, rfl, hs⟩ := hv
  obtain ⟨s', jb, jo, rfl, ht⟩ := hu
  obtain ⟨n1, a1, b1, c1, t1, ps⟩ := a
  obtain ⟨n2, a2, b2, c2, t2, qs⟩ := b
  unfold drvC
  simp only at hs ht hb ⊢
  obtain ⟨⟨q, c, rfl, h1, h2, h3⟩, hat⟩ := hs
  obtain ⟨⟨q', c', rfl, h1', h2', h3'⟩, hat'⟩ := ht
  obtain ⟨len, hlen⟩ : ∃ len, len = ps.length := ⟨_, rfl⟩
  obtain ⟨len', hlen'⟩ : ∃ len, len = qs.length := ⟨_, rfl⟩
  rw [← hlen] at h1 hb ⊢
  rw [← hlen'] at h1' ⊢
  have H3 := Lib.hid h3
  have Hat := Lib.hid hat
  have Hlen := Lib.hid hlen
  have H3' := Lib.hid h3'
  have Hat' := Lib.hid hat'
  have Hlen' := Lib.hid hlen'
  unfold maxLen at h2 h2'
  clear h3 hat hlen h3' hat' hlen'
  have hal := (Chg.refl NoB w).alloc (.cells #[.string (tx n1), .int .i64 a1, .int .i64 b1, .int .i64 c1, .string (tx t1), .slice q len c] 28)
  have hb1 := heap_alloc_new w (.cells #[.string (tx n1), .int .i64 a1, .int .i64 b1, .int .i64 c1, .string (tx t1), .slice q len c] 28)
  obtain ⟨vb, hvb⟩ : ∃ b, b = w.heap.size := ⟨_, rfl⟩
  obtain ⟨w1, hw1⟩ : ∃ w1, w.alloc (.cells #[.string (tx n1), .int .i64 a1, .int .i64 b1, .int .i64 c1, .string (tx t1), .slice q len c] 28) = w1 := ⟨_, rfl⟩
  rw [hw1] at hal hb1
  rw [← hvb] at hb1
  have hs1 : w1.heap.size = vb + 1 := by rw [← hw1, hvb]; exact alloc_size _ _
  have hal2 := (Chg.refl NoB w1).alloc (.cells #[.string (tx n2), .int .i64 a2, .int .i64 b2, .int .i64 c2, .string (tx t2), .slice q' len' c'] 28)
  have hb2 := heap_alloc_new w1 (.cells #[.string (tx n2), .int .i64 a2, .int .i64 b2, .int .i64 c2, .string (tx t2), .slice q' len' c'] 28)
  obtain ⟨w2, hw2⟩ : ∃ w2, w1.alloc (.cells #[.string (tx n2), .int .i64 a2, .int .i64 b2, .int .i64 c2, .string (tx t2), .slice q' len' c'] 28) = w2 := ⟨_, rfl⟩
  obtain ⟨ub, hub⟩ : ∃ b, b = vb + 1 := ⟨_, rfl⟩
  rw [hw2] at hal2 hb2
  rw [hs1, ← hub] at hb2
  have Hw1 := Lib.hid hw1
  have Hw2 := Lib.hid hw2
  have Hvb := Lib.hid hvb
  have Hub := Lib.hid hub
  have Hc2 := Lib.hid (hal.trans hal2)
  have Hv2 := Lib.hid (row_kept hal2 hb1 id)
  have Hu2 := Lib.hid hb2
  clear hw1 hw2 hvb hub hal hal2 hb1 hb2 hs1
  go_enter Tryd.func14, Tryd.ntmps14
  go_upto_region 1 with fail
  rw [Hw1.out, Hw2.out, ← Hvb.out, ← Hub.out]
  obtain ⟨f0, f1, f2, f3, f4, f5⟩ := var6 Hv2.out
  obtain ⟨g0, g1, g2, g3, g4, g5⟩ := var6 Hu2.out
  have hsn := tx_beq n1 n2
  have hst := tx_beq t1 t2
  obtain ⟨e1, he1⟩ : ∃ b, b = decide (n1 = n2) := ⟨_, rfl⟩
  obtain ⟨e2, he2, hE2⟩ := ver_eq a1 b1 c1 a2 b2 c2 w2 (wf_i64 ha.a) (wf_i64 ha.b) (wf_i64 ha.c) (wf_i64 hbw.a) (wf_i64 hbw.b) (wf_i64 hbw.c)
  obtain ⟨e5, he5⟩ : ∃ b, b = decide (t1 = t2) := ⟨_, rfl⟩
  rw [← he1] at hsn
  rw [← he5] at hst
  have E1 := Lib.hid he1
  have E2 := Lib.hid hE2
  have E5 := Lib.hid he5
  clear he1 he5 hE2 ha hbw
  cases e1
  · have Hx : Hid ((⟨n1, a1, b1, c1, t1, ps⟩ : DrvL) ≠ ⟨n2, a2, b2, c2, t2, qs⟩) := Lib.hid fun h => by
      rw [DrvL.mk.injEq] at h
      have := E1.out
      rw [h.1] at this
      simp at this
    clear E1 E2 E5
    go_wp2_with fail
    go_ret
    exact ⟨⟨false, rfl, by simp only [Bool.false_eq_true, false_iff]; exact Hx.out⟩, Hc2.out⟩
  cases e2
  · have Hx : Hid ((⟨n1, a1, b1, c1, t1, ps⟩ : DrvL) ≠ ⟨n2, a2, b2, c2, t2, qs⟩) := Lib.hid fun h => by
      rw [DrvL.mk.injEq] at h
      have := E2.out.2 ⟨h.2.1, h.2.2.1, h.2.2.2.1⟩
      cases this
    clear E1 E2 E5
    go_wp2_with fail
    go_ret
    exact ⟨⟨false, rfl, by simp only [Bool.false_eq_true, false_iff]; exact Hx.out⟩, Hc2.out⟩
  cases e5
  · have Hx : Hid ((⟨n1, a1, b1, c1, t1, ps⟩ : DrvL) ≠ ⟨n2, a2, b2, c2, t2, qs⟩) := Lib.hid fun h => by
      rw [DrvL.mk.injEq] at h
      have := E5.out
      rw [h.2.2.2.2.1] at this
      simp at this
    clear E1 E2 E5
    go_wp2_with fail
    go_ret
    exact ⟨⟨false, rfl, by simp only [Bool.false_eq_true, false_iff]; exact Hx.out⟩, Hc2.out⟩
  have hn : n1 = n2 := of_decide_eq_true E1.out.symm
  obtain ⟨ha, hb', hc'⟩ := E2.out.1 rfl
  have ht' : t1 = t2 := of_decide_eq_true E5.out.symm
  have Heqs : Hid (ps = qs → (⟨n1, a1, b1, c1, t1, ps⟩ : DrvL) = ⟨n2, a2, b2, c2, t2, qs⟩) := Lib.hid fun h => by rw [hn, ha, hb', hc', ht', h]
  clear hn ha hb' hc' ht' E1 E2 E5
  by_cases hll : (len : Int) = (len' : Int)
  · have hll' : len = len' := by omega
    subst hll'
    clear hll
    go_wp2_with fail
    clear hsn hst he2 f0 f1 f2 f3 f4 f5 g0 g1 g2 g3 g4 g5
    go_loopw [5, 30] (fun _ i wr => ∃ k : Nat, k ≤ len ∧ i = .int .i64 k ∧ (∀ j (hj : j < ps.length) (hj' : j < qs.length), j < k → ps[j] = qs[j]) ∧ Chg NoB w2 wr) (fun _ i _ => len - (intOf i).toNat)
    case atStart => exact ⟨0, Nat.zero_le _, rfl, fun j _ _ hj => absurd hj (Nat.not_lt_zero _), Chg.refl _ _⟩
    case round =>
      obtain ⟨k, hk, rfl, hno, hch⟩ := hrel
      have Hno := Lib.hid hno
      have Hch := Lib.hid hch
      have Hcw := Lib.hid (Hc2.out.trans hch)
      clear hno hch
      by_cases hlt : k < len
      · have hp : k < ps.length := by rw [← Hlen.out]; exact hlt
        have hq : k < qs.length := by rw [← Hlen'.out]; exact hlt
        obtain ⟨rfl, -⟩ := H3.out (by rintro rfl; simp at hp)
        obtain ⟨rfl, -⟩ := H3'.out (by rintro rfl; simp at hq)
        obtain ⟨c0, c1'⟩ := Hat.out k hp
        obtain ⟨d0, d1⟩ := Hat'.out k hq
        have c0 := Hcw.out.keep c0
        have c1' := Hcw.out.keep c1'
        have d0 := Hcw.out.keep d0
        have d1 := Hcw.out.keep d1
        have f5 := (var6 (row_kept Hch.out Hv2.out id)).2.2.2.2.2
        have g5 := (var6 (row_kept Hch.out Hu2.out id)).2.2.2.2.2
        have Hgo : Hid (ps[k] = qs[k] → ∀ j (hj : j < ps.length) (hj' : j < qs.length), j < k + 1 → ps[j] = qs[j]) := Lib.hid fun h j hj hj' hjk => by
          by_cases e : j = k
          · subst e; exact h
          · exact Hno.out j hj hj' (by omega)
        have Hne : Hid (ps[k] ≠ qs[k] → ps ≠ qs) := Lib.hid fun h e => by subst e; exact h rfl
        generalize ps[k] = x at *
        generalize qs[k] = y at *
        have hA := And.intro c0 (And.intro c1' (And.intro d0 (And.intro d1 (And.intro f5 g5))))
        have hsb1 := tx_beq x.1 y.1
        have hsb2 := tx_beq x.2 y.2
        have hxy : x = y ↔ decide (x.1 = y.1) = true ∧ decide (x.2 = y.2) = true := by
          obtain ⟨s1, s2⟩ := x
          obtain ⟨u1, u2⟩ := y
          simp
        have Hxy := Lib.hid hxy
        obtain ⟨z1, hz1⟩ : ∃ b, b = decide (x.1 = y.1) := ⟨_, rfl⟩
        obtain ⟨z2, hz2⟩ : ∃ b, b = decide (x.2 = y.2) := ⟨_, rfl⟩
        rw [← hz1] at hsb1
        rw [← hz2] at hsb2
        rw [← hz1, ← hz2] at Hxy
        clear hxy hz1 hz2
        go_upto_region 6 with fail
        clear c0 c1' d0 d1 f5 g5
        cases z1 <;> cases z2
        all_goals
          go_region_held3 (fun w' => w'.cell? ⟨kb, ko + k * 2, none⟩ = some (.string (tx x.1)) ∧ w'.cell? ⟨kb, ko + k * 2 + 1, none⟩ = some (.string (tx x.2)) ∧ w'.cell? ⟨jb, jo + k * 2, none⟩ = some (.string (tx y.1)) ∧ w'.cell? ⟨jb, jo + k * 2 + 1, none⟩ = some (.string (tx y.2)) ∧ w'.cell? ⟨vb, 5, none⟩ = some (.slice (some ⟨kb, ko, none⟩) len c) ∧ w'.cell? ⟨ub, 5, none⟩ = some (.slice (some ⟨jb, jo, none⟩) len c'))
            (exact hA)
            (fail)
        all_goals
          first
            | (have Heq := Lib.hid (Hgo.out (Hxy.out.2 ⟨rfl, rfl⟩))
               clear Hgo Hne Hxy
               go_wp2_with fail
               go_roundw
               case rel => exact ⟨k + 1, by omega, by go_num, Heq.out, Hch.out.drew⟩
               case measure => simp [intOf]; omega)
            | (have hn1 : x ≠ y := fun e => by have := Hxy.out.1 e; simp at this
               have Hpq := Lib.hid (Hne.out hn1)
               clear hn1 Hgo Hne Hxy
               go_wp2_with fail
               go_ret
               refine ⟨⟨false, rfl, ?_⟩, Hcw.out.drew⟩
               simp only [Bool.false_eq_true, DrvL.mk.injEq, false_iff]
               exact fun h => Hpq.out h.2.2.2.2.2)
      · obtain rfl : k = len := by omega
        have heq : ps = qs := List.ext_getElem (by rw [← Hlen.out, Hlen'.out]) fun j hj hj' => Hno.out j hj hj' (by rw [Hlen.out]; exact hj)
        have Heq := Lib.hid (Heqs.out heq)
        clear heq
        go_wp2_with fail
        go_ret
        exact ⟨⟨true, rfl, fun _ => Heq.out, fun _ => rfl⟩, Hcw.out⟩
  · have hne : ((len : Int) != (len' : Int)) = true := by rw [bne_iff_ne]; exact hll
    have Hpq : Hid (ps ≠ qs) := Lib.hid fun e => hll (by rw [Hlen.out, Hlen'.out, e])
    clear hll
    go_wp2_with fail
    go_ret
    refine ⟨⟨false, rfl, ?_⟩, Hc2.out⟩
    simp only [Bool.false_eq_true, DrvL.mk.injEq, false_iff]
    exact fun h => Hpq.out h.2.2.2.2.2
open Go.ChangeMaps (open_string shut_string)
theorem gSyn : Tryd.prog.globalNamed "strconv.ErrSyntax" = some 2 := by kernel_rfl
theorem gRng : Tryd.prog.globalNamed "strconv.ErrRange" = some 3 := by kernel_rfl
theorem ml_of (W : World) (h : W.ShapedOpen Tryd.prog) : ∃ m, W.cell? ⟨1, 0, none⟩ = some (.int .i64 m) :=
  cell_of_shapedOpen_int (k := .i64) h (of_decide_eq_true (by kernel_rfl)) (t := 3) (zero := #[.int .i64 0]) (by kernel_rfl) rfl (by kernel_rfl) (by kernel_rfl) (by kernel_rfl)
theorem star_es : "*" ++ "errors.errorString" = "*errors.errorString" := by decide
theorem row_es (u : TypeId) (h : Tryd.prog.typeName? 3 u = some "*errors.errorString") : u = 153 :=
  typeName_ptr_named (nm := "errors.errorString") (by rw [star_es]; kernel_rfl) (by kernel_rfl) (by decide) u (by rw [star_es]; exact h)
theorem syn_of {r : List (String × DataW Unit)} {W : World} (h : laidMet Tryd.prog (("strconv.ErrSyntax", Rows.laid_strconv_ErrSyntax) :: r) W) : ∃ tp p, W.var? Tryd.prog "strconv.ErrSyntax" = some #[.iface tp p] := by
  obtain ⟨a, s, hv, _⟩ := laid_sentinel h gSyn (ti := 109) (by kernel_rfl) Tryd.underlying109 row_es Tryd.underlying153 Tryd.underlying155 rfl rfl Tryd.underlying9 (by kernel_rfl) (by kernel_rfl)
  exact ⟨_, _, hv⟩
theorem rng_of {r : List (String × DataW Unit)} {W : World} (h : laidMet Tryd.prog (("strconv.ErrRange", Rows.laid_strconv_ErrRange) :: r) W) : ∃ tp p, W.var? Tryd.prog "strconv.ErrRange" = some #[.iface tp p] := by
  obtain ⟨a, s, hv, _⟩ := laid_sentinel h gRng (ti := 109) (by kernel_rfl) Tryd.underlying109 row_es Tryd.underlying153 Tryd.underlying155 rfl rfl Tryd.underlying9 (by kernel_rfl) (by kernel_rfl)
  exact ⟨_, _, hv⟩
theorem lb_of {W : World} (h : laidMet Tryd.prog [("math/bits.deBruijn32tab", Rows.laid_math_bits_deBruijn32tab), ("math/bits.deBruijn64tab", Rows.laid_math_bits_deBruijn64tab), ("internal/strconv.uint64pow10", Rows.laid_internal_strconv_uint64pow10), ("unicode/utf8.acceptRanges", Rows.laid_unicode_utf8_acceptRanges), ("strconv.ErrRange", Rows.laid_strconv_ErrRange), ("strconv.ErrSyntax", Rows.laid_strconv_ErrSyntax), ("unicode/utf8.first", Rows.laid_unicode_utf8_first)] W) (hs : W.ShapedOpen Tryd.prog) : Lb W.heap.size W := by
  obtain ⟨tp, p, h1⟩ := syn_of h.tail.tail.tail.tail.tail
  obtain ⟨tq, q, h2⟩ := rng_of h.tail.tail.tail.tail
  obtain ⟨m, h3⟩ := ml_of W hs
  refine ⟨Nat.le_refl _, Lib.tabBelow_of_tabIs (tb_of h (.tail _ (.tail _ (.head _)))), ⟨tp, p, fun w' hb => Joins.var_stays gSyn h1 hb (Nat.le_refl _)⟩, ⟨tq, q, fun w' hb => Joins.var_stays gRng h2 hb (Nat.le_refl _)⟩, ⟨m, fun w' hb => ?_⟩⟩
  rw [← h3]
  exact World.cell?_of_block (hb.block _ (World.block_lt_of_cell? W _ h3))
/- two builds that can be: their bytes are the same just if they are -/
theorem enc_same {a b : DrvL} (h1 : (encD a).2 = 0) (h2 : (encD b).2 = 0) : (encD a).1 = (encD b).1 ↔ a = b := by
  constructor
  · intro h
    rcases encD_cases a with ⟨_, ga, xs, hx, hxd⟩ | ⟨h0, _⟩
    · rcases encD_cases b with ⟨_, gb, ys, hy, hyd⟩ | ⟨h0, _⟩
      · rw [hx, hy] at h
        have hxy : xs = ys := by rw [← tx_list xs, h, tx_list]
        subst hxy
        have e1 := decD_of hxd ga
        have e2 := decD_of hyd gb
        rw [e1] at e2
        exact Except.ok.inj e2
      · exact absurd h2 h0
    · exact absurd h1 h0
  · rintro rfl
    rfl
theorem enc_dec_same {a : DrvL} (h1 : (encD a).2 = 0) : ∃ xs, (encD a).1 = tx xs ∧ xs.length ≤ 65536 ∧ decD xs = .ok a := by
  rcases encD_cases a with ⟨_, ga, xs, hx, hxd⟩ | ⟨h0, _⟩
  · exact ⟨xs, hx, (decR_ok hxd).1, decD_of hxd ga⟩
  · exact absurd h1 h0
set_option maxHeartbeats 4000000 in
set_option maxRecDepth 20000 in
theorem drvTells_all (a : DrvL) (va : Value) (b : DrvL) (vb : Value) (W : World) (hwa : a.wf0) (hva : DrvV W (OldB W) va a) (hwb : b.wf0) (hvb : DrvV W (OldB W) vb b) (hl : Lb W.heap.size W) : Calls Tryd.prog 4 #[va, vb] W fun e w' => e = .returned (.bool true) ∧ Chg NoB W w' := by
  obtain ⟨s1, kb1, ko1, rfl, s1h⟩ := hva
  have s10 := s1h
  obtain ⟨⟨q1, p1, rfl, -, -, -⟩, -⟩ := s1h
  have hD1 : ∀ w', Chg NoB W w' → DrvV w' (OldB W) (.agg (drvC a (.slice q1 a.ins.length p1))) a := fun w' h => ⟨_, kb1, ko1, rfl, s10.keep h fun _ _ => id⟩
  have HD1 := Lib.hid hD1
  clear hD1 s10
  have hal1 := (Chg.refl NoB W).alloc (.cells (drvC a (.slice q1 a.ins.length p1)) 28)
  have hb1 := heap_alloc_new W (.cells (drvC a (.slice q1 a.ins.length p1)) 28)
  unfold drvC at *
  obtain ⟨l1, hle⟩ : ∃ l, l = a.ins.length := ⟨_, rfl⟩
  rw [← hle] at HD1 hal1 hb1 ⊢
  clear hle
  obtain ⟨n1, hnm⟩ : ∃ x, a.name = x := ⟨_, rfl⟩
  obtain ⟨t1, htl⟩ : ∃ x, a.tool = x := ⟨_, rfl⟩
  obtain ⟨a1, hda⟩ : ∃ x, a.a = x := ⟨_, rfl⟩
  obtain ⟨b1, hdb⟩ : ∃ x, a.b = x := ⟨_, rfl⟩
  obtain ⟨c1, hdc⟩ : ∃ x, a.c = x := ⟨_, rfl⟩
  rw [hnm, htl, hda, hdb, hdc] at HD1 hal1 hb1 ⊢
  clear hnm htl hda hdb hdc
  obtain ⟨vb1, hvb1⟩ : ∃ b, b = W.heap.size := ⟨_, rfl⟩
  rw [← hvb1] at hb1
  obtain ⟨w1, hw1⟩ : ∃ w1, W.alloc (.cells #[.string (tx n1), .int .i64 a1, .int .i64 b1, .int .i64 c1, .string (tx t1), .slice q1 l1 p1] 28) = w1 := ⟨_, rfl⟩
  rw [hw1] at hal1 hb1
  have Hw1 := Lib.hid hw1
  obtain ⟨s2, kb2, ko2, rfl, s2h⟩ := hvb
  have s20 := s2h
  obtain ⟨⟨q2, p2, rfl, -, -, -⟩, -⟩ := s2h
  have hD2 : ∀ w', Chg NoB W w' → DrvV w' (OldB W) (.agg (drvC b (.slice q2 b.ins.length p2))) b := fun w' h => ⟨_, kb2, ko2, rfl, s20.keep h fun _ _ => id⟩
  have HD2 := Lib.hid hD2
  clear hD2 s20
  have hal2 := (Chg.refl NoB w1).alloc (.cells (drvC b (.slice q2 b.ins.length p2)) 28)
  have hb2 := heap_alloc_new w1 (.cells (drvC b (.slice q2 b.ins.length p2)) 28)
  unfold drvC at *
  obtain ⟨l2, hle⟩ : ∃ l, l = b.ins.length := ⟨_, rfl⟩
  rw [← hle] at HD2 hal2 hb2 ⊢
  clear hle
  obtain ⟨n2, hnm⟩ : ∃ x, b.name = x := ⟨_, rfl⟩
  obtain ⟨t2, htl⟩ : ∃ x, b.tool = x := ⟨_, rfl⟩
  obtain ⟨a2, hda⟩ : ∃ x, b.a = x := ⟨_, rfl⟩
  obtain ⟨b2, hdb⟩ : ∃ x, b.b = x := ⟨_, rfl⟩
  obtain ⟨c2, hdc⟩ : ∃ x, b.c = x := ⟨_, rfl⟩
  rw [hnm, htl, hda, hdb, hdc] at HD2 hal2 hb2 ⊢
  clear hnm htl hda hdb hdc
  obtain ⟨vb2, hvb2⟩ : ∃ b, b = w1.heap.size := ⟨_, rfl⟩
  rw [← hvb2] at hb2
  obtain ⟨w2, hw2⟩ : ∃ wn, w1.alloc (.cells #[.string (tx n2), .int .i64 a2, .int .i64 b2, .int .i64 c2, .string (tx t2), .slice q2 l2 p2] 28) = wn := ⟨_, rfl⟩
  rw [hw2] at hal2 hb2
  have Hw2 := Lib.hid hw2
  have hs1 : w1.heap.size = vb1 + 1 := by rw [← hw1, hvb1]; exact alloc_size _ _
  rw [hs1] at hvb2
  have Hvb1 := Lib.hid hvb1
  have Hvb2 := Lib.hid hvb2
  have Hc2 := Lib.hid (hal1.trans hal2)
  have Hb2 := Lib.hid (row_kept hal2 hb1 id)
  have Hg2 := Lib.hid hb2
  have Hl := Lib.hid hl
  have Hwa := Lib.hid hwa
  have Hwb := Lib.hid hwb
  clear hs1 hvb1 hvb2 hal1 hal2 hb1 hb2 hw1 hw2 hl hwa hwb
  go_enter Tryd.func4, Tryd.ntmps4
  go_upto_region 1 with fail
  rw [Hw1.out, Hw2.out, ← Hvb1.out, ← Hvb2.out]
  obtain ⟨f0, f1, f2, f3, f4, f5⟩ := var6 Hb2.out
  obtain ⟨g0, g1, g2, g3, g4, g5⟩ := var6 Hg2.out
  go_wp2_with fail
  refine (alive_any _ w2 (Hl.out.keep Hc2.out).lw).mono ?_
  rintro e w3 ⟨rfl, hc3⟩
  have Hc3 := Lib.hid (Hc2.out.trans hc3)
  have Hb3 := Lib.hid (row_kept hc3 Hb2.out id)
  have Hg3 := Lib.hid (row_kept hc3 Hg2.out id)
  clear f0 f1 f2 f3 f4 f5 g0 g1 g2 g3 g4 g5 hc3
  have Hgr := Lib.hid (great_any a Hwa.out _ _ w3 (HD1.out _ Hc3.out))
  obtain ⟨gr, hgr⟩ : ∃ g, g = greatD a := ⟨_, rfl⟩
  rw [← hgr] at Hgr
  have Hga := Lib.hid hgr
  clear hgr
  obtain ⟨f0, f1, f2, f3, f4, f5⟩ := var6 Hb3.out
  obtain ⟨g0, g1, g2, g3, g4, g5⟩ := var6 Hg3.out
  go_wp2_with fail
  refine (Hgr.out).mono ?_
  rintro e w4 ⟨rfl, hc4⟩
  have Hc4 := Lib.hid (Hc3.out.trans hc4)
  have Hb4 := Lib.hid (row_kept hc4 Hb3.out id)
  have Hg4 := Lib.hid (row_kept hc4 Hg3.out id)
  clear f0 f1 f2 f3 f4 f5 g0 g1 g2 g3 g4 g5 hc4
  clear Hgr
  cases gr with
  | true =>
    go_wp2_with fail
    go_ret
    exact ⟨rfl, Hc4.out⟩
  | false =>
  have Hgr := Lib.hid (great_any b Hwb.out _ _ w4 (HD2.out _ Hc4.out))
  obtain ⟨gr, hgr⟩ : ∃ g, g = greatD b := ⟨_, rfl⟩
  rw [← hgr] at Hgr
  have Hgb := Lib.hid hgr
  clear hgr
  obtain ⟨f0, f1, f2, f3, f4, f5⟩ := var6 Hb4.out
  obtain ⟨g0, g1, g2, g3, g4, g5⟩ := var6 Hg4.out
  go_wp2_with fail
  refine (Hgr.out).mono ?_
  rintro e w5 ⟨rfl, hc5⟩
  have Hc5 := Lib.hid (Hc4.out.trans hc5)
  have Hb5 := Lib.hid (row_kept hc5 Hb4.out id)
  have Hg5 := Lib.hid (row_kept hc5 Hg4.out id)
  clear f0 f1 f2 f3 f4 f5 g0 g1 g2 g3 g4 g5 hc5
  clear Hgr
  cases gr with
  | true =>
    go_wp2_with fail
    go_ret
    exact ⟨rfl, Hc5.out⟩
  | false =>
  have hfa := wf_of Hwa.out Hga.out.symm
  have hfb := wf_of Hwb.out Hgb.out.symm
  have Hfa := Lib.hid hfa
  have Hfb := Lib.hid hfb
  have HEa := Lib.hid (fun w' (h : Chg NoB W w') => dencode_any a hfa _ _ _ w' (Hl.out.keep h).lw (HD1.out _ h))
  have HEb := Lib.hid (fun w' (h : Chg NoB W w') => dencode_any b hfb _ _ _ w' (Hl.out.keep h).lw (HD2.out _ h))
  obtain ⟨x1, hx1⟩ : ∃ x, x = (encD a).1 := ⟨_, rfl⟩
  obtain ⟨x2, hx2⟩ : ∃ x, x = (encD a).2 := ⟨_, rfl⟩
  obtain ⟨y1, hy1⟩ : ∃ x, x = (encD b).1 := ⟨_, rfl⟩
  obtain ⟨y2, hy2⟩ : ∃ x, x = (encD b).2 := ⟨_, rfl⟩
  rw [← hx1, ← hx2] at HEa
  rw [← hy1, ← hy2] at HEb
  have HSame := Lib.hid (fun w' (h : Chg NoB W w') => dsame_any a b hfa hfb _ _ _ _ w' (HD1.out _ h) (HD2.out _ h) (by have := hfa.len; omega))
  have Henc : Hid (x2 = 0 → y2 = 0 → (x1 = y1 ↔ a = b)) := Lib.hid fun h1 h2 => by rw [hx1, hy1]; exact enc_same (by rw [← hx2]; exact h1) (by rw [← hy2]; exact h2)
  have Hdecb : Hid (y2 = 0 → ∃ ys, y1 = tx ys) := Lib.hid fun h1 => by
    obtain ⟨ys, h, -, -⟩ := enc_dec_same (a := b) (by rw [← hy2]; exact h1)
    exact ⟨ys, by rw [hy1]; exact h⟩
  have Hdec : Hid (x2 = 0 → ∃ xs, x1 = tx xs ∧ xs.length ≤ 65536 ∧ decD xs = .ok a) := Lib.hid fun h1 => by rw [hx1]; exact enc_dec_same (by rw [← hx2]; exact h1)
  clear hfa hfb hx1 hx2 hy1 hy2 Hga Hgb Hwa Hwb
  obtain ⟨f0, f1, f2, f3, f4, f5⟩ := var6 Hb5.out
  obtain ⟨g0, g1, g2, g3, g4, g5⟩ := var6 Hg5.out
  go_wp2_with fail
  refine (HEa.out _ Hc5.out).mono ?_
  rintro e w6 ⟨hc6, rfl⟩
  have Hc6 := Lib.hid (Hc5.out.trans hc6)
  have Hb6 := Lib.hid (row_kept hc6 Hb5.out id)
  have Hg6 := Lib.hid (row_kept hc6 Hg5.out id)
  clear f0 f1 f2 f3 f4 f5 g0 g1 g2 g3 g4 g5 hc6
  obtain ⟨f0, f1, f2, f3, f4, f5⟩ := var6 Hb6.out
  obtain ⟨g0, g1, g2, g3, g4, g5⟩ := var6 Hg6.out
  go_wp2_with fail
  refine (HEb.out _ Hc6.out).mono ?_
  rintro e w7 ⟨hc7, rfl⟩
  have Hc7 := Lib.hid (Hc6.out.trans hc7)
  have Hb7 := Lib.hid (row_kept hc7 Hb6.out id)
  have Hg7 := Lib.hid (row_kept hc7 Hg6.out id)
  clear f0 f1 f2 f3 f4 f5 g0 g1 g2 g3 g4 g5 hc7
  clear HEa HEb
  by_cases hx : x2 = 0
  · subst hx
    obtain ⟨xs, rfl, hxl, hxd⟩ := Hdec.out (by simp)
    have hdd := ddec_any xs _ w7 (Hl.out.keep Hc7.out) (by omega)
    rw [hxd] at hdd
    have Hdd := Lib.hid hdd
    clear hxl hxd hdd Hdec
    go_wp2_with fail
    refine Hdd.out.mono ?_
    rintro e w8 ⟨hc8, v8, rfl, hv8⟩
    obtain ⟨s8, kb8, ko8, rfl, hs8⟩ := hv8
    have hs80 := hs8
    obtain ⟨⟨q8, p8, rfl, -, -, -⟩, -⟩ := hs8
    have hal9 := (Chg.refl NoB w8).alloc (.cells (drvC a (.slice q8 a.ins.length p8)) 28)
    have hb9 := heap_alloc_new w8 (.cells (drvC a (.slice q8 a.ins.length p8)) 28)
    have hv9 : ∀ w', Chg NoB w8 w' → DrvV w' (NewB w7 w8) (.agg (drvC a (.slice q8 a.ins.length p8))) a := fun w' h => ⟨_, kb8, ko8, rfl, hs80.keep h fun _ _ => id⟩
    have Hsc := Lib.hid (fun w' (h : Chg NoB w8 w') (h' : Chg NoB W w') => dsame_any a a Hfa.out Hfa.out _ _ _ _ w' (hv9 w' h) (HD1.out w' h') (by have := Hfa.out.len; omega))
    unfold drvC at *
    obtain ⟨l8, hl8⟩ : ∃ l, l = a.ins.length := ⟨_, rfl⟩
    rw [← hl8] at hal9 hb9 Hsc ⊢
    clear hl8 hv9 hs80
    have Hal9 := Lib.hid hal9
    have Hc9 := Lib.hid (Hc7.out.trans (hc8.trans hal9))
    have Hb9 := Lib.hid (row_kept (hc8.trans hal9) Hb7.out id)
    have Hg9 := Lib.hid (row_kept (hc8.trans hal9) Hg7.out id)
    have Hr9 := Lib.hid hb9
    clear hc8 hal9 hb9 Hdd
    go_upto_region 9 with fail
    obtain ⟨xb, hxb⟩ : ∃ b, b = w8.heap.size := ⟨_, rfl⟩
    rw [← hxb] at Hr9 ⊢
    clear hxb
    generalize w8.alloc (.cells #[.string (tx a.name), .int .i64 a.a, .int .i64 a.b, .int .i64 a.c, .string (tx a.tool), .slice q8 l8 p8] 28) = w9 at *
    obtain ⟨f0, f1, f2, f3, f4, f5⟩ := var6 Hb9.out
    obtain ⟨g0, g1, g2, g3, g4, g5⟩ := var6 Hg9.out
    obtain ⟨r0, r1, r2, r3, r4, r5⟩ := var6 Hr9.out
    go_wp2_with fail
    refine (Hsc.out w9 Hal9.out Hc9.out).mono ?_
    rintro e w10 ⟨⟨cb, rfl, hcb⟩, hc10⟩
    obtain rfl : cb = true := hcb.2 rfl
    have Hc10 := Lib.hid (Hc9.out.trans hc10)
    have Hb10 := Lib.hid (row_kept hc10 Hb9.out id)
    have Hg10 := Lib.hid (row_kept hc10 Hg9.out id)
    clear f0 f1 f2 f3 f4 f5 g0 g1 g2 g3 g4 g5 r0 r1 r2 r3 r4 r5 hc10 hcb Hsc Hal9 Hr9
    by_cases hy : y2 = 0
    · subst hy
      obtain ⟨ys, rfl⟩ := Hdecb.out (by simp)
      have hsb := tx_beq xs ys
      obtain ⟨zb, hzb⟩ : ∃ z, z = decide (xs = ys) := ⟨_, rfl⟩
      rw [← hzb] at hsb
      have Hz : Hid (zb = true ↔ a = b) := Lib.hid (by
        rw [hzb, decide_eq_true_eq, ← Henc.out (by simp) (by simp)]
        exact ⟨fun h => by rw [h], fun h => by rw [← tx_list xs, h, tx_list]⟩)
      clear hzb
      obtain ⟨f0, f1, f2, f3, f4, f5⟩ := var6 Hb10.out
      obtain ⟨g0, g1, g2, g3, g4, g5⟩ := var6 Hg10.out
      go_wp2_with fail
      refine (HSame.out w10 Hc10.out).mono ?_
      rintro e w11 ⟨⟨cb, rfl, hcb⟩, hc11⟩
      have hzc : zb = cb := by
        have h : zb = true ↔ cb = true := Hz.out.trans hcb.symm
        cases zb <;> cases cb <;> simp_all
      subst hzc
      have Hc11 := Lib.hid (Hc10.out.trans hc11)
      clear f0 f1 f2 f3 f4 f5 g0 g1 g2 g3 g4 g5 hc11 hcb Hz HSame
      go_wp2_with fail
      go_ret
      exact ⟨by simp, Hc11.out⟩
    · have hyb : (y2 == 0) = false := by rw [beq_eq_false_iff_ne]; exact hy
      go_wp2_with fail
      go_ret
      exact ⟨rfl, Hc10.out⟩
  · have hxb : (x2 == 0) = false := by rw [beq_eq_false_iff_ne]; exact hx
    clear Hdec Hdecb Henc
    go_wp2_with fail
    go_ret
    exact ⟨rfl, Hc7.out⟩
/-FRAME-/
set_option maxRecDepth 100000 in
theorem drvTells_lifted (os : Os) (started : os.Started) (H : Type) (enc : TypeId × Value → H) :
    ReturnsInHanded {} Tryd.checked os 4 .any (fun w args => (Rows.drvTellsSpec.pre enc Tryd.prog Tryd.f4 [] false w args ∧ laidMetH Tryd.prog Rows.drvTellsRow.laid w) ∧ sizedMet enc Tryd.prog Tryd.f4 (OpenSpec.ofChange Rows.drvTellsSpec) false w args)
      (Rows.drvTellsSpec.post enc Tryd.prog Tryd.f4 false true false false) := by
  refine returns_both (C := Tryd.checked) (X := fun w _ => laidMetH Tryd.prog Rows.drvTellsRow.laid w) (fun _ _ _ hh h => h.of_heap hh) Tryd.own started (by kernel_rfl) Tryd.func4
    (ChangeSpec.witness_shaped (enc := enc) (C := Tryd.checked) (os := os) (X := fun w _ => laidMetH Tryd.prog Rows.drvTellsRow.laid w) false (World.laidAll Tryd.prog os Rows.drvTellsRow.laid) #[.agg #[.string ByteArray.empty, .int .i64 0, .int .i64 0, .int .i64 0, .string ByteArray.empty, .slice none 0 0], .agg #[.string ByteArray.empty, .int .i64 0, .int .i64 0, .int .i64 0, .string ByteArray.empty, .slice none 0 0]] 8 (World.laidAll_os _ _ _)
      (World.shaped_of_ZipB (by kernel_rfl) (by kernel_rfl)) (by kernel_rfl) (by kernel_rfl) (by kernel_rfl)
      (by rw [MakeChecks.laidMetH_plain _ _ _ (by kernel_rfl)]; exact laidMet_laidAll _ (by kernel_rfl) (by kernel_rfl))) ?_
  intro W base args ds gs before hval0 hW _ hsz hL hsh _
  have hval : ∀ (j : Nat) t v, Tryd.f4.params[j]? = some t → args[j]? = some v → Value.okWide Tryd.prog W .any base t v := hval0
  have hW' := hW
  obtain ⟨p, q, hA0, hV, rfl, _, _⟩ := hW
  have hA : DataW.TrodAll enc Tryd.prog W 0 (fun _ => true) true Tryd.f4.params.toList args.toList ds p := hA0
  have hsz1 : (DataW.weightsEach Tryd.prog (Tryd.f4.params.toList ++ Rows.drvTellsSpec.plain.varTypes Tryd.prog) (ds ++ gs)).all (· ≤ reachBytes) = true := hsz
  rw [Tryd.params4] at hA hval hsz1
  obtain ⟨v0, v1, d0, d1, p0, p1, rfl, rfl, rfl, h0, h1⟩ := trodAll_two hA
  obtain ⟨rfl, rfl⟩ := trodVars_none hV
  obtain ⟨D0, hw0, hn0⟩ := open_drv (hval 0 28 v0 rfl rfl) h0 (fun m hm => of_decide_eq_true (List.all_eq_true.1 hsz1 m (DataW.weights_mem_each (j := 0) (t := 28) (d := d0) rfl rfl m hm)))
  obtain ⟨D1, hw1, hn1⟩ := open_drv (hval 1 28 v1 rfl rfl) h1 (fun m hm => of_decide_eq_true (List.all_eq_true.1 hsz1 m (DataW.weights_mem_each (j := 1) (t := 28) (d := d1) rfl rfl m hm)))
  simp only [List.append_nil] at hW'
  rw [MakeChecks.laidMetH_plain _ _ _ (by kernel_rfl)] at hL
  have hL' : laidMet Tryd.prog [("math/bits.deBruijn32tab", Rows.laid_math_bits_deBruijn32tab), ("math/bits.deBruijn64tab", Rows.laid_math_bits_deBruijn64tab), ("internal/strconv.uint64pow10", Rows.laid_internal_strconv_uint64pow10), ("unicode/utf8.acceptRanges", Rows.laid_unicode_utf8_acceptRanges), ("strconv.ErrRange", Rows.laid_strconv_ErrRange), ("strconv.ErrSyntax", Rows.laid_strconv_ErrSyntax), ("unicode/utf8.first", Rows.laid_unicode_utf8_first)] W := hL
  have hlb : Lb W.heap.size W := lb_of hL' hsh
  clear hA0 hval0
  refine (drvTells_all D0 _ D1 _ W hw0 hn0 hw1 hn1 hlb).mono fun e W' ⟨he, hb⟩ => ?_
  subst he
  exact ⟨_, rfl, _, _, _, [], _, [], hW', trodAll_mk1 (shut_bool Tryd.underlying4 _), (trodAll_cons_mk (drv_stays h0 hb.below) (trodAll_cons_mk (drv_stays h1 hb.below) trodAll_mk0)), rfl, hb.below.frame _, fun h => by cases h⟩
theorem drvTells_holds : Rows.DrvTellsSaid :=
  OpenClaim.holds_of_wide 4 Tryd.f4 rfl rfl rfl rfl rfl rfl rfl ⟨rfl, rfl, rfl, rfl, rfl⟩ rfl rfl rfl rfl rfl (by kernel_rfl) Tryd.func4 (by kernel_rfl)
    (of_decide_eq_true (by kernel_rfl)) (by unfold Func.isWrapper; first | (rw [if_pos (by decide +kernel)]; kernel_rfl) | (rw [if_neg (by decide +kernel)]; exact ⟨rfl, rfl⟩))
    (fun os started H enc _ => drvTells_lifted os started H enc)
theorem drvTells_card : Rows.DrvTellsCardSaid :=
  Claim7.holds_tied_plain_at .later [] [.data, .data, .data, .data, .sentinel, .sentinel, .pinned] true (true, "5cc813bd2af3009976ad7e83c6d7ed04faf454e9199cf750540c15f70c026c99") true drvTells_holds (fun _ h => by cases h) (by kernel_rfl) (fun _ h => by cases h) drvTells_row_tie rfl ⟨rfl, rfl⟩ (by kernel_rfl) rfl
    (fun f fn hf hfn => by
      obtain rfl : f = 4 := Option.some.inj ((show Tryd.prog.funcNamed "sapling/saplinglaw18.DrvTells" = some 4 by kernel_rfl).symm.trans hf) |>.symm
      obtain rfl : fn = Tryd.f4 := (Option.some.inj (Tryd.func4.symm.trans hfn)).symm
      exact ⟨by kernel_rfl, fun j t ht => by
        rw [Tryd.params4] at ht
        have hm : t ∈ [28, 28] := by simpa using Array.mem_of_getElem? ht
        have hall : ([28, 28].all fun u => !Tryd.prog.wantsStandIn u) = true := by kernel_rfl
        exact (show Tryd.prog.wantsStandIn t = false by simpa using List.all_eq_true.1 hall t hm)⟩)
    (by kernel_rfl)
#print axioms drvTells_card
end Go.Proofs.YtnipiphhkcafhaaDoor
