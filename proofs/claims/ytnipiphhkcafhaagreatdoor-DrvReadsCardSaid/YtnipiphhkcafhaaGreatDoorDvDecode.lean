/- The contract of the program's Decode of a build. Condition: at most 2^20 bytes; the library's variables read as the program's text lays them. -/
import Derived.Test.YtnipiphhkcafhaaGreatDoorDvBuild
namespace Go.Proofs.YtnipiphhkcafhaaGreatDoor
set_option linter.unusedVariables false
open Go.ChangeShapes Go.WideShapes Go.ChangeAt Go.RowKit
def DDecP (r : Except Int DrvL) (w : World) (e : Ending) (w' : World) : Prop := Chg NoB w w' ∧ match r with
  | .error y => e = .returned (.tuple #[.agg zD6, .int .i64 y])
  | .ok d => ∃ v, e = .returned (.tuple #[v, .int .i64 0]) ∧ DrvV w' (NewB w w') v d
noncomputable def backG (r : Option DrvL) : Except Int DrvL := match r with
  | none => .error 5
  | some d => if goodD d = true then .ok d else .error 5
set_option maxHeartbeats 4000000 in
set_option maxRecDepth 20000 in
theorem ddec_any (s : List UInt8) (base : Nat) (w : World) (hl : Lb base w) (hs : s.length ≤ 1048576) : Calls Tryz.prog 5 #[.string (tx s)] w (DDecP (decD s) w) := by
  have hal := (Chg.refl NoB w).alloc (.cells #[.string ⟨#[]⟩, .int .i64 0, .int .i64 0, .int .i64 0, .string ⟨#[]⟩, .slice none 0 0] 29)
  have hb := heap_alloc_new w (.cells #[.string ⟨#[]⟩, .int .i64 0, .int .i64 0, .int .i64 0, .string ⟨#[]⟩, .slice none 0 0] 29)
  obtain ⟨rb, hrb⟩ : ∃ b, b = w.heap.size := ⟨_, rfl⟩
  obtain ⟨w1, hw1⟩ : ∃ w1, w.alloc (.cells #[.string ⟨#[]⟩, .int .i64 0, .int .i64 0, .int .i64 0, .string ⟨#[]⟩, .slice none 0 0] 29) = w1 := ⟨_, rfl⟩
  rw [hw1] at hal hb
  rw [← hrb] at hb
  have Hw1 := Lib.hid hw1
  have Hrb := Lib.hid hrb
  have Hwr := Lib.hid (show w.heap.size ≤ rb by omega)
  have Hc1 := Lib.hid hal
  have Hr1 := Lib.hid hb
  have hl1 := hl.keep hal
  have Hd := Lib.hid (dec_any s w1 hl1.top hs)
  have Hl := Lib.hid hl
  obtain ⟨res, hres⟩ : ∃ r, r = decD s := ⟨_, rfl⟩
  have hdd : res = match decR s with
      | .error y => .error y
      | .ok n => backG (buildF n) := by
    rw [hres]
    unfold decD
    cases decR s <;> rfl
  rw [← hres]
  have Hres := Lib.hid hdd
  clear hal hb hrb hw1 hl1 hl hs hres hdd
  go_enter Tryz.func5, Tryz.ntmps5
  go_upto_region 1 with fail
  rw [Hw1.out, ← Hrb.out]
  cases hdec : decR s with
  | error y =>
    obtain ⟨y0, y1⟩ := decR_err hdec
    have hyb : (y != 0) = true := by rw [bne_iff_ne]; omega
    rw [hdec] at Hd Hres
    clear hdec
    unfold DecP nodeZ at Hd
    go_wp2_with fail
    refine Hd.out.mono ?_
    rintro e w3 ⟨hc3, rfl⟩
    have hc3' := hc3.alloc (.cells #[.bool false, .string ⟨#[]⟩, .slice none 0 0] 39)
    have Hc3 := Lib.hid (Hc1.out.trans hc3')
    have Hr3 := Lib.hid (row_kept hc3' Hr1.out id)
    clear hc3 hc3'
    go_upto_region 2 with fail
    generalize w3.alloc (.cells #[.bool false, .string ⟨#[]⟩, .slice none 0 0] 39) = w4 at *
    obtain ⟨r0, r1, r2, r3, r4, r5⟩ := var6 Hr3.out
    have rf := row_free Hr3.out
    go_wp2_with fail
    obtain ⟨e0, e1, e2, e3, e4, e5⟩ := var6 (box6 Hr3.out (.string ⟨#[]⟩) (.int .i64 0) (.int .i64 0) (.int .i64 0) (.string ⟨#[]⟩) (.slice none 0 0))
    have hfin := box6_chg (b := rb) Hc3.out (.inr Hwr.out) (.string ⟨#[]⟩) (.int .i64 0) (.int .i64 0) (.int .i64 0) (.string ⟨#[]⟩) (.slice none 0 0)
    have hst := box6_chg (b := rb) (Chg.refl (fun y => y = rb) w4) (.inl rfl) (.string ⟨#[]⟩) (.int .i64 0) (.int .i64 0) (.int .i64 0) (.string ⟨#[]⟩) (.slice none 0 0)
    generalize ((((((w4.setCell ⟨rb, 0, none⟩ (.string ⟨#[]⟩)).setCell ⟨rb, 1, none⟩ (.int .i64 0)).setCell ⟨rb, 2, none⟩ (.int .i64 0)).setCell ⟨rb, 3, none⟩ (.int .i64 0)).setCell ⟨rb, 4, none⟩ (.string ⟨#[]⟩)).setCell ⟨rb, 5, none⟩ (.slice none 0 0)) = wf at *
    refine bodyPost_ret (v := .tuple #[.agg zD6, .int .i64 y]) (by simp [results, Tryz.results5, go_sem, e0, e1, e2, e3, e4, e5, zD6]) rfl ⟨hfin, ?_⟩
    rw [Hres.out]
  | ok n =>
    have Hcnt := Lib.hid (dec_count hdec)
    rw [hdec] at Hd Hres
    clear hdec
    go_wp2_with fail
    refine Hd.out.mono ?_
    rintro e w3 ⟨hc3, v3, rfl, hv3⟩
    obtain ⟨ha3, q, len, c, kb, ko, rfl, hs3⟩ := hv3.shape
    have hal4 := (Chg.refl NoB w3).alloc (.cells #[.bool n.leaf, .string n.atom, .slice q len c] 39)
    have hb4 := heap_alloc_new w3 (.cells #[.bool n.leaf, .string n.atom, .slice q len c] 39)
    obtain ⟨w4, hw4⟩ : ∃ w4, w3.alloc (.cells #[.bool n.leaf, .string n.atom, .slice q len c] 39) = w4 := ⟨_, rfl⟩
    obtain ⟨nb, hnb⟩ : ∃ nb, nb = w3.heap.size := ⟨_, rfl⟩
    rw [hw4] at hal4 hb4
    rw [← hnb] at hb4
    have Hnb := Lib.hid hnb
    have Hw4 := Lib.hid hw4
    have Hc4 := Lib.hid (Hc1.out.trans (hc3.trans hal4))
    have Hr4 := Lib.hid (row_kept (hc3.trans hal4) Hr1.out id)
    have hbd := dbuild_any n Hcnt.out _ _ base w4 (Hl.out.keep Hc4.out) (hv3.keep hal4 fun _ _ => id)
    obtain ⟨n0, n1, n2⟩ := var3 hb4
    have Hbd := Lib.hid hbd
    obtain ⟨bf, hbf⟩ : ∃ b, b = buildF n := ⟨_, rfl⟩
    rw [← hbf] at Hbd
    rw [← hbf] at Hres
    have Hbf := Lib.hid hbf
    clear hc3 hal4 hb4 hw4 hnb hv3 hs3 ha3 hbd hbf Hd
    go_upto_region 2 with fail
    rw [Hw4.out, ← Hnb.out]
    go_wp2_with fail
    refine Hbd.out.mono ?_
    rintro e w5 ⟨hc5, he5⟩
    have Hc5 := Lib.hid (Hc4.out.trans hc5)
    have Hr5 := Lib.hid (row_kept hc5 Hr4.out id)
    clear n0 n1 n2 Hbd
    cases bf with
    | none =>
      change Hid (res = .error 5) at Hres
      replace he5 : e = .returned (.tuple #[.agg zD6, .bool false]) := he5
      subst he5
      unfold zD6
      have hal6 := (Chg.refl NoB w5).alloc (.cells #[.string ⟨#[]⟩, .int .i64 0, .int .i64 0, .int .i64 0, .string ⟨#[]⟩, .slice none 0 0] 29)
      have Hc6 := Lib.hid (Hc5.out.trans hal6)
      have Hr6 := Lib.hid (row_kept hal6 Hr5.out id)
      clear hc5 hal6
      go_upto_region 5 with fail
      generalize w5.alloc (.cells #[.string ⟨#[]⟩, .int .i64 0, .int .i64 0, .int .i64 0, .string ⟨#[]⟩, .slice none 0 0] 29) = w6 at *
      obtain ⟨r0, r1, r2, r3, r4, r5⟩ := var6 Hr6.out
      have rf := row_free Hr6.out
      go_wp2_with fail
      obtain ⟨e0, e1, e2, e3, e4, e5⟩ := var6 (box6 Hr6.out (.string ⟨#[]⟩) (.int .i64 0) (.int .i64 0) (.int .i64 0) (.string ⟨#[]⟩) (.slice none 0 0))
      have hfin := box6_chg (b := rb) Hc6.out (.inr Hwr.out) (.string ⟨#[]⟩) (.int .i64 0) (.int .i64 0) (.int .i64 0) (.string ⟨#[]⟩) (.slice none 0 0)
      have hst := box6_chg (b := rb) (Chg.refl (fun y => y = rb) w6) (.inl rfl) (.string ⟨#[]⟩) (.int .i64 0) (.int .i64 0) (.int .i64 0) (.string ⟨#[]⟩) (.slice none 0 0)
      generalize ((((((w6.setCell ⟨rb, 0, none⟩ (.string ⟨#[]⟩)).setCell ⟨rb, 1, none⟩ (.int .i64 0)).setCell ⟨rb, 2, none⟩ (.int .i64 0)).setCell ⟨rb, 3, none⟩ (.int .i64 0)).setCell ⟨rb, 4, none⟩ (.string ⟨#[]⟩)).setCell ⟨rb, 5, none⟩ (.slice none 0 0)) = wf at *
      refine bodyPost_ret (v := .tuple #[.agg zD6, .int .i64 5]) (by simp [results, Tryz.results5, go_sem, e0, e1, e2, e3, e4, e5, zD6]) rfl ⟨hfin, ?_⟩
      rw [Hres.out]
    | some d =>
      have Hwf := Lib.hid (build_wf Hcnt.out Hbf.out.symm)
      change Hid (res = if goodD d = true then .ok d else .error 5) at Hres
      obtain ⟨v5, rfl, s5, kb5, ko5, rfl, hs5⟩ := he5
      have hs50 := hs5
      obtain ⟨⟨q5, c5, rfl, -, -, -⟩, -⟩ := hs5
      have hal6 := (Chg.refl NoB w5).alloc (.cells (drvC d (.slice q5 d.ins.length c5)) 29)
      have hb6 := heap_alloc_new w5 (.cells (drvC d (.slice q5 d.ins.length c5)) 29)
      have hgd := dgood_any d Hwf.out (NewB w4 w5) (.agg (drvC d (.slice q5 d.ins.length c5))) _ ⟨_, kb5, ko5, rfl, hs50.keep hal6 fun _ _ => id⟩
      unfold drvC at *
      have Hs5 := Lib.hid hs50
      obtain ⟨l5, hl5⟩ : ∃ l, l = d.ins.length := ⟨_, rfl⟩
      rw [← hl5] at hal6 hb6 hgd Hs5 ⊢
      obtain ⟨name, hnm⟩ : ∃ x, d.name = x := ⟨_, rfl⟩
      obtain ⟨tool, htl⟩ : ∃ x, d.tool = x := ⟨_, rfl⟩
      obtain ⟨da, hda⟩ : ∃ x, d.a = x := ⟨_, rfl⟩
      obtain ⟨db, hdb⟩ : ∃ x, d.b = x := ⟨_, rfl⟩
      obtain ⟨dc, hdc⟩ : ∃ x, d.c = x := ⟨_, rfl⟩
      have Hval : Hid (drvC d (.slice q5 l5 c5) = #[.string (tx name), .int .i64 da, .int .i64 db, .int .i64 dc, .string (tx tool), .slice q5 l5 c5]) := Lib.hid (by unfold drvC; rw [hnm, htl, hda, hdb, hdc])
      rw [hnm, htl, hda, hdb, hdc] at hal6 hb6 hgd ⊢
      clear hl5 hnm htl hda hdb hdc hs50
      obtain ⟨w6, hw6⟩ : ∃ w6, w5.alloc (.cells #[.string (tx name), .int .i64 da, .int .i64 db, .int .i64 dc, .string (tx tool), .slice q5 l5 c5] 29) = w6 := ⟨_, rfl⟩
      obtain ⟨xb, hxb⟩ : ∃ xb, xb = w5.heap.size := ⟨_, rfl⟩
      rw [hw6] at hal6 hb6 hgd
      rw [← hxb] at hb6
      have Hw6 := Lib.hid hw6
      have Hxb := Lib.hid hxb
      have Hal6 := Lib.hid hal6
      have Hgd := Lib.hid hgd
      have Hb6 := Lib.hid hb6
      have Hz45 := Lib.hid hc5.size
      clear hw6 hxb hal6 hgd hb6 hc5
      obtain ⟨gd, hgd⟩ : ∃ g, g = goodD d := ⟨_, rfl⟩
      rw [← hgd] at Hgd Hres
      clear hgd
      go_upto_region 5 with fail
      rw [Hw6.out, ← Hxb.out]
      obtain ⟨f0, f1, f2, f3, f4, f5⟩ := var6 Hb6.out
      go_wp2_with fail
      refine Hgd.out.mono ?_
      rintro e w7 ⟨rfl, hc7⟩
      have Hc57 := Lib.hid (Hal6.out.trans hc7)
      have Hc7 := Lib.hid (Hc5.out.trans Hc57.out)
      have Hr7 := Lib.hid (row_kept Hc57.out Hr5.out id)
      have Hb7 := Lib.hid (row_kept hc7 Hb6.out id)
      have Hs7 := Lib.hid (Hs5.out.keep Hc57.out fun _ _ => id)
      clear f0 f1 f2 f3 f4 f5 hc7
      obtain ⟨r0, r1, r2, r3, r4, r5⟩ := var6 Hr7.out
      have rf := row_free Hr7.out
      cases gd with
      | false =>
        rw [if_neg (by decide)] at Hres
        go_wp2_with fail
        obtain ⟨e0, e1, e2, e3, e4, e5⟩ := var6 (box6 Hr7.out (.string ⟨#[]⟩) (.int .i64 0) (.int .i64 0) (.int .i64 0) (.string ⟨#[]⟩) (.slice none 0 0))
        have hfin := box6_chg (b := rb) Hc7.out (.inr Hwr.out) (.string ⟨#[]⟩) (.int .i64 0) (.int .i64 0) (.int .i64 0) (.string ⟨#[]⟩) (.slice none 0 0)
        have hst := box6_chg (b := rb) (Chg.refl (fun y => y = rb) w7) (.inl rfl) (.string ⟨#[]⟩) (.int .i64 0) (.int .i64 0) (.int .i64 0) (.string ⟨#[]⟩) (.slice none 0 0)
        generalize ((((((w7.setCell ⟨rb, 0, none⟩ (.string ⟨#[]⟩)).setCell ⟨rb, 1, none⟩ (.int .i64 0)).setCell ⟨rb, 2, none⟩ (.int .i64 0)).setCell ⟨rb, 3, none⟩ (.int .i64 0)).setCell ⟨rb, 4, none⟩ (.string ⟨#[]⟩)).setCell ⟨rb, 5, none⟩ (.slice none 0 0)) = wf at *
        refine bodyPost_ret (v := .tuple #[.agg zD6, .int .i64 5]) (by simp [results, Tryz.results5, go_sem, e0, e1, e2, e3, e4, e5, zD6]) rfl ⟨hfin, ?_⟩
        rw [Hres.out]
      | true =>
        rw [if_pos rfl] at Hres
        obtain ⟨f0, f1, f2, f3, f4, f5⟩ := var6 Hb7.out
        go_wp2_with fail
        obtain ⟨e0, e1, e2, e3, e4, e5⟩ := var6 (box6 Hr7.out (.string (tx name)) (.int .i64 da) (.int .i64 db) (.int .i64 dc) (.string (tx tool)) (.slice q5 l5 c5))
        have hfin := box6_chg (b := rb) Hc7.out (.inr Hwr.out) (.string (tx name)) (.int .i64 da) (.int .i64 db) (.int .i64 dc) (.string (tx tool)) (.slice q5 l5 c5)
        have hst := box6_chg (b := rb) (Chg.refl (fun y => y = rb) w7) (.inl rfl) (.string (tx name)) (.int .i64 da) (.int .i64 db) (.int .i64 dc) (.string (tx tool)) (.slice q5 l5 c5)
        generalize ((((((w7.setCell ⟨rb, 0, none⟩ (.string (tx name))).setCell ⟨rb, 1, none⟩ (.int .i64 da)).setCell ⟨rb, 2, none⟩ (.int .i64 db)).setCell ⟨rb, 3, none⟩ (.int .i64 dc)).setCell ⟨rb, 4, none⟩ (.string (tx tool))).setCell ⟨rb, 5, none⟩ (.slice q5 l5 c5)) = wf at *
        refine bodyPost_ret (v := .tuple #[.agg #[.string (tx name), .int .i64 da, .int .i64 db, .int .i64 dc, .string (tx tool), .slice q5 l5 c5], .int .i64 0]) (by simp [results, Tryz.results5, go_sem, e0, e1, e2, e3, e4, e5]) rfl ⟨hfin, ?_⟩
        rw [Hres.out]
        have hrw : rb < w4.heap.size := lt_of_block Hr4.out
        have hz4 := Hc4.out.size
        have hz5 := Hc57.out.size
        have hz := hst.size
        refine ⟨_, rfl, _, kb5, ko5, by rw [Hval.out], (Hs7.out.keep hst fun y hy e => ?_).mono fun y hy => ?_⟩
        · have h1 : w4.heap.size ≤ y := hy.1
          have h2 : y = rb := e
          omega
        · have h1 : w4.heap.size ≤ y := hy.1
          have h2 : y < w5.heap.size := hy.2
          exact (show w.heap.size ≤ y ∧ y < wf.heap.size by omega)
end Go.Proofs.YtnipiphhkcafhaaGreatDoor
