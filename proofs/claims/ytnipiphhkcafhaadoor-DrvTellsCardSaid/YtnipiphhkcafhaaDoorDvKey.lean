/- The contracts of the document's Encode, and of both Keys. Condition: texts of at most 2^16 bytes; the list of powers reads as the program's text lays it. -/
import Derived.Test.YtnipiphhkcafhaaDoorDvNode
namespace Go.Proofs.YtnipiphhkcafhaaDoor
set_option linter.unusedVariables false
open Go.ChangeShapes Go.WideShapes Go.ChangeAt Go.RowKit
theorem Mix.textR_nat (n : Int) (k : Nat) (w : World) (hn : n = (k : Int)) (hk : k < 18446744073709551616) :
    Calls Tryd.prog 24 #[.int .u64 n] w fun e w' => e = .returned (.string ⟨(Mix.textL k).toArray⟩) ∧ Mix.Grown w w' := by
  subst hn
  have h := Mix.textR_any (BitVec.ofNat 64 k) w
  rw [BitVec.toNat_ofNat, Nat.mod_eq_of_lt (by omega)] at h
  exact h
noncomputable def keyD (d : DrvL) (k : Int) : ByteArray × Int := if (encD d).2 = 0 then (tx (Mix.textL (Mix.narrowN (Mix.ofB (encD d).1.data.toList).toNat k)), 0) else (⟨#[]⟩, (encD d).2)
set_option maxHeartbeats 2000000 in
set_option maxRecDepth 20000 in
theorem refEncode_any (d : DrvL) (hw : d.wf) (S : Nat → Prop) (v : Value) (base : Nat) (w : World) (hl : Lw base w) (hv : DrvV w S v d) : Calls Tryd.prog 8 #[v] w fun e w' => Chg NoB w w' ∧ e = .returned (.tuple #[.string (encD d).1, .int .i64 (encD d).2]) := by
  have hv0 := hv
  obtain ⟨ec, hec⟩ : ∃ x, x = encD d := ⟨_, rfl⟩
  rw [← hec]
  have Hec := Lib.hid hec
  obtain ⟨gd, hgd⟩ : ∃ b, b = goodD d := ⟨_, rfl⟩
  have Hgd := Lib.hid hgd
  obtain ⟨s, kb, ko, rfl, hs⟩ := hv
  have hs0 := hs
  obtain ⟨⟨q, c, rfl, h1, h2, h3⟩, hat⟩ := hs
  have HE := Lib.hid (fun w' (h : Chg NoB w w') => refGood_any d hw S (.agg (drvC d (.slice q d.ins.length c))) w' ⟨_, kb, ko, rfl, hs0.keep h fun _ _ => id⟩)
  rw [← hgd] at HE
  have HN := Lib.hid (fun w' (h : Chg NoB w w') (hg : goodD d = true) => refNode_any d hw hg S (.agg (drvC d (.slice q d.ins.length c))) base w' (hl.keep h) ⟨_, kb, ko, rfl, hs0.keep h fun _ _ => id⟩)
  have hal := (Chg.refl NoB w).alloc (.cells (drvC d (.slice q d.ins.length c)) 28)
  have hb := heap_alloc_new w (.cells (drvC d (.slice q d.ins.length c)) 28)
  unfold drvC at *
  have Hl := Lib.hid hl
  clear hs0 hl hat h3 h1 h2 hw
  obtain ⟨len, hle⟩ : ∃ l, l = d.ins.length := ⟨_, rfl⟩
  rw [← hle] at HE HN hal hb ⊢
  clear hle
  obtain ⟨name, hnm⟩ : ∃ x, d.name = x := ⟨_, rfl⟩
  obtain ⟨tool, htl⟩ : ∃ x, d.tool = x := ⟨_, rfl⟩
  obtain ⟨da, hda⟩ : ∃ x, d.a = x := ⟨_, rfl⟩
  obtain ⟨db, hdb⟩ : ∃ x, d.b = x := ⟨_, rfl⟩
  obtain ⟨dc, hdc⟩ : ∃ x, d.c = x := ⟨_, rfl⟩
  rw [hnm, htl, hda, hdb, hdc] at HE HN hal hb ⊢
  clear hnm htl hda hdb hdc
  obtain ⟨vb, hvb⟩ : ∃ b, b = w.heap.size := ⟨_, rfl⟩
  rw [← hvb] at hb
  have Hvb := Lib.hid hvb
  obtain ⟨w1, hw1⟩ : ∃ w1, w.alloc (.cells #[.string (tx name), .int .i64 da, .int .i64 db, .int .i64 dc, .string (tx tool), .slice q len c] 28) = w1 := ⟨_, rfl⟩
  rw [hw1] at hal hb
  have Hw1 := Lib.hid hw1
  have Hal := Lib.hid hal
  have Hb := Lib.hid hb
  obtain ⟨f0, f1, f2, f3, f4, f5⟩ := var6 hb
  clear hal hb hvb hw1
  clear hec hgd hv0
  go_enter Tryd.func8, Tryd.ntmps8
  go_upto_region 1 with fail
  rw [Hw1.out, ← Hvb.out]
  go_wp2_with fail
  refine (HE.out _ Hal.out).mono ?_
  rintro e w2 ⟨rfl, hc2⟩
  have Hc2 := Lib.hid (Hal.out.trans hc2)
  have hb2 := row_kept hc2 Hb.out id
  have Hb2 := Lib.hid hb2
  clear f0 f1 f2 f3 f4 f5 hc2
  obtain ⟨f0, f1, f2, f3, f4, f5⟩ := var6 hb2
  clear hb2
  cases gd with
  | false =>
    have he : ec = (⟨#[]⟩, 1) := by rw [Hec.out]; unfold encD; rw [← Hgd.out]; rfl
    subst he
    go_wp2_with fail
    go_ret2
    exact ⟨Hc2.out, rfl⟩
  | true =>
    have he : ec = encO (putN (nodeD d) 0 []) := by rw [Hec.out]; unfold encD; rw [if_pos Hgd.out.symm]
    have He := Lib.hid he
    have HN2 := Lib.hid (HN.out _ Hc2.out Hgd.out.symm)
    have Hcnt3 := Lib.hid (show (nodeD d).count ≤ 1048576 by have := (drv_cnt Hgd.out.symm).2; omega)
    clear HN HE he Hec
    go_wp2_with fail
    refine HN2.out.mono ?_
    rintro e w3 ⟨hc3, v3, rfl, hv3⟩
    have Hc3 := Lib.hid (Hc2.out.trans hc3)
    have Hpn := Lib.hid ((encR_any (nodeD d) Hcnt3.out _ v3 w3 hv3 (fun k hk => hk.2) ((Hl.out.keep (Hc2.out.trans hc3)).top)).mono fun e w' h => h.val)
    clear hc3 hv3 HN2 f0 f1 f2 f3 f4 f5
    go_wp2_with fail
    refine Hpn.out.mono ?_
    rintro e w4 ⟨hc4, rfl⟩
    rw [← He.out]
    go_wp2_with fail
    go_ret2
    exact ⟨Hc3.out.trans hc4, rfl⟩
set_option maxHeartbeats 2000000 in
set_option maxRecDepth 20000 in
theorem dkey_any (d : DrvL) (hw : d.wf) (k : Int) (S : Nat → Prop) (v : Value) (base : Nat) (w : World) (hl : Lw base w) (hv : DrvV w S v d) : Calls Tryd.prog 9 #[v, .int .i64 k] w fun e w' => Chg NoB w w' ∧ e = .returned (.tuple #[.string (keyD d k).1, .int .i64 (keyD d k).2]) := by
  obtain ⟨ec, hec⟩ : ∃ x, x = encD d := ⟨_, rfl⟩
  have Hec := Lib.hid hec
  have Hkd : Hid (keyD d k = if ec.2 = 0 then (tx (Mix.textL (Mix.narrowN (Mix.ofB ec.1.data.toList).toNat k)), 0) else (⟨#[]⟩, ec.2)) := Lib.hid (by rw [hec]; rfl)
  obtain ⟨kd, hkd⟩ : ∃ x, x = keyD d k := ⟨_, rfl⟩
  rw [← hkd] at Hkd ⊢
  have Hcase := Lib.hid (encD_cases d)
  rw [← hec] at Hcase
  obtain ⟨s, kb, ko, rfl, hs⟩ := hv
  have hs0 := hs
  obtain ⟨⟨q, c, rfl, h1, h2, h3⟩, hat⟩ := hs
  have HE := Lib.hid (fun w' (h : Chg NoB w w') => dencode_any d hw S (.agg (drvC d (.slice q d.ins.length c))) base w' (hl.keep h) ⟨_, kb, ko, rfl, hs0.keep h fun _ _ => id⟩)
  rw [← hec] at HE
  have hal := (Chg.refl NoB w).alloc (.cells (drvC d (.slice q d.ins.length c)) 28)
  have hb := heap_alloc_new w (.cells (drvC d (.slice q d.ins.length c)) 28)
  unfold drvC at *
  have Hl := Lib.hid hl
  clear hs0 hl hat h3 h1 h2 hw
  obtain ⟨len, hle⟩ : ∃ l, l = d.ins.length := ⟨_, rfl⟩
  rw [← hle] at HE hal hb ⊢
  clear hle
  obtain ⟨name, hnm⟩ : ∃ x, d.name = x := ⟨_, rfl⟩
  obtain ⟨tool, htl⟩ : ∃ x, d.tool = x := ⟨_, rfl⟩
  obtain ⟨da, hda⟩ : ∃ x, d.a = x := ⟨_, rfl⟩
  obtain ⟨db, hdb⟩ : ∃ x, d.b = x := ⟨_, rfl⟩
  obtain ⟨dc, hdc⟩ : ∃ x, d.c = x := ⟨_, rfl⟩
  rw [hnm, htl, hda, hdb, hdc] at HE hal hb ⊢
  clear hnm htl hda hdb hdc
  obtain ⟨vb, hvb⟩ : ∃ b, b = w.heap.size := ⟨_, rfl⟩
  rw [← hvb] at hb
  have Hvb := Lib.hid hvb
  obtain ⟨w1, hw1⟩ : ∃ w1, w.alloc (.cells #[.string (tx name), .int .i64 da, .int .i64 db, .int .i64 dc, .string (tx tool), .slice q len c] 28) = w1 := ⟨_, rfl⟩
  rw [hw1] at hal hb
  have Hw1 := Lib.hid hw1
  have Hal := Lib.hid hal
  have Hb := Lib.hid hb
  obtain ⟨f0, f1, f2, f3, f4, f5⟩ := var6 hb
  clear hal hb hvb hw1
  clear hec hkd
  go_enter Tryd.func9, Tryd.ntmps9
  go_upto_region 1 with fail
  rw [Hw1.out, ← Hvb.out]
  go_wp2_with fail
  refine (HE.out _ Hal.out).mono ?_
  rintro e w2 ⟨hc2, rfl⟩
  have Hc2 := Lib.hid (Hal.out.trans hc2)
  clear f0 f1 f2 f3 f4 f5 hc2
  obtain ⟨x1, x2⟩ := ec
  rcases Hcase.out with ⟨h0, hg, ys, hy, hd⟩ | ⟨h0, hy⟩
  · obtain rfl : x2 = 0 := h0
    obtain rfl : x1 = tx ys := hy
    have Hsz := Lib.hid (show (tx ys).size ≤ maxLen by rw [tx_size]; have := (decR_ok hd).1; unfold maxLen; omega)
    have hk2 := Hkd.out
    rw [if_pos rfl] at hk2
    simp only at hk2
    have hlt := (Mix.ofB (tx ys).data.toList).isLt
    have hof := Mix.of_any (tx ys) w2 Hsz.out
    obtain ⟨h, hh⟩ : ∃ h, h = (Mix.ofB (tx ys).data.toList).toNat := ⟨_, rfl⟩
    rw [← hh] at hlt hk2 hof
    have hnr := Mix.narrow_any h k h w2 rfl hlt
    have hln : Mix.narrowN h k < 18446744073709551616 := Nat.lt_of_le_of_lt (by unfold Mix.narrowN; exact Nat.mod_le _ _) hlt
    obtain ⟨n, hn⟩ : ∃ n, n = Mix.narrowN h k := ⟨_, rfl⟩
    rw [← hn] at hk2 hnr hln
    have htx := Mix.text_nat n n w2 rfl hln
    subst hk2
    have Hof := Lib.hid hof
    have Hnr := Lib.hid hnr
    have Htx := Lib.hid htx
    clear hd hg hlt hof hh hnr hln hn htx
    go_wp2_with fail
    refine Hof.out.mono ?_
    rintro e w3 ⟨rfl, rfl⟩
    go_wp2_with fail
    refine Hnr.out.mono ?_
    rintro e w3 ⟨rfl, rfl⟩
    go_wp2_with fail
    refine Htx.out.mono ?_
    rintro e w3 ⟨rfl, hg⟩
    have Hc3 := Lib.hid (Hc2.out.trans (chg_of_below hg))
    clear hg
    go_wp2_with fail
    go_ret2
    exact ⟨Hc3.out, rfl⟩
  · have h0 : x2 ≠ 0 := h0
    have hk2 := Hkd.out
    rw [if_neg h0] at hk2
    simp only at hk2
    subst hk2
    have hyb : (x2 == 0) = false := by rw [beq_eq_false_iff_ne]; exact h0
    go_wp2_with fail
    go_ret2
    exact ⟨Hc2.out, rfl⟩
set_option maxHeartbeats 2000000 in
set_option maxRecDepth 20000 in
theorem refKey_any (d : DrvL) (hw : d.wf) (k : Int) (S : Nat → Prop) (v : Value) (base : Nat) (w : World) (hl : Lw base w) (hv : DrvV w S v d) : Calls Tryd.prog 10 #[v, .int .i64 k] w fun e w' => Chg NoB w w' ∧ e = .returned (.tuple #[.string (keyD d k).1, .int .i64 (keyD d k).2]) := by
  obtain ⟨ec, hec⟩ : ∃ x, x = encD d := ⟨_, rfl⟩
  have Hec := Lib.hid hec
  have Hkd : Hid (keyD d k = if ec.2 = 0 then (tx (Mix.textL (Mix.narrowN (Mix.ofB ec.1.data.toList).toNat k)), 0) else (⟨#[]⟩, ec.2)) := Lib.hid (by rw [hec]; rfl)
  obtain ⟨kd, hkd⟩ : ∃ x, x = keyD d k := ⟨_, rfl⟩
  rw [← hkd] at Hkd ⊢
  have Hcase := Lib.hid (encD_cases d)
  rw [← hec] at Hcase
  obtain ⟨s, kb, ko, rfl, hs⟩ := hv
  have hs0 := hs
  obtain ⟨⟨q, c, rfl, h1, h2, h3⟩, hat⟩ := hs
  have HE := Lib.hid (fun w' (h : Chg NoB w w') => refEncode_any d hw S (.agg (drvC d (.slice q d.ins.length c))) base w' (hl.keep h) ⟨_, kb, ko, rfl, hs0.keep h fun _ _ => id⟩)
  rw [← hec] at HE
  have hal := (Chg.refl NoB w).alloc (.cells (drvC d (.slice q d.ins.length c)) 28)
  have hb := heap_alloc_new w (.cells (drvC d (.slice q d.ins.length c)) 28)
  unfold drvC at *
  have Hl := Lib.hid hl
  clear hs0 hl hat h3 h1 h2 hw
  obtain ⟨len, hle⟩ : ∃ l, l = d.ins.length := ⟨_, rfl⟩
  rw [← hle] at HE hal hb ⊢
  clear hle
  obtain ⟨name, hnm⟩ : ∃ x, d.name = x := ⟨_, rfl⟩
  obtain ⟨tool, htl⟩ : ∃ x, d.tool = x := ⟨_, rfl⟩
  obtain ⟨da, hda⟩ : ∃ x, d.a = x := ⟨_, rfl⟩
  obtain ⟨db, hdb⟩ : ∃ x, d.b = x := ⟨_, rfl⟩
  obtain ⟨dc, hdc⟩ : ∃ x, d.c = x := ⟨_, rfl⟩
  rw [hnm, htl, hda, hdb, hdc] at HE hal hb ⊢
  clear hnm htl hda hdb hdc
  obtain ⟨vb, hvb⟩ : ∃ b, b = w.heap.size := ⟨_, rfl⟩
  rw [← hvb] at hb
  have Hvb := Lib.hid hvb
  obtain ⟨w1, hw1⟩ : ∃ w1, w.alloc (.cells #[.string (tx name), .int .i64 da, .int .i64 db, .int .i64 dc, .string (tx tool), .slice q len c] 28) = w1 := ⟨_, rfl⟩
  rw [hw1] at hal hb
  have Hw1 := Lib.hid hw1
  have Hal := Lib.hid hal
  have Hb := Lib.hid hb
  obtain ⟨f0, f1, f2, f3, f4, f5⟩ := var6 hb
  clear hal hb hvb hw1
  clear hec hkd
  go_enter Tryd.func10, Tryd.ntmps10
  go_upto_region 1 with fail
  rw [Hw1.out, ← Hvb.out]
  go_wp2_with fail
  refine (HE.out _ Hal.out).mono ?_
  rintro e w2 ⟨hc2, rfl⟩
  have Hc2 := Lib.hid (Hal.out.trans hc2)
  clear f0 f1 f2 f3 f4 f5 hc2
  obtain ⟨x1, x2⟩ := ec
  rcases Hcase.out with ⟨h0, hg, ys, hy, hd⟩ | ⟨h0, hy⟩
  · obtain rfl : x2 = 0 := h0
    obtain rfl : x1 = tx ys := hy
    have Hsz := Lib.hid (show (tx ys).size ≤ maxLen by rw [tx_size]; have := (decR_ok hd).1; unfold maxLen; omega)
    have hk2 := Hkd.out
    rw [if_pos rfl] at hk2
    simp only at hk2
    have hlt := (Mix.ofB (tx ys).data.toList).isLt
    have hof := Mix.ofR_any (tx ys) w2 Hsz.out
    obtain ⟨h, hh⟩ : ∃ h, h = (Mix.ofB (tx ys).data.toList).toNat := ⟨_, rfl⟩
    rw [← hh] at hlt hk2 hof
    have hnr := Mix.narrowR_any h k h w2 rfl hlt
    have hln : Mix.narrowN h k < 18446744073709551616 := Nat.lt_of_le_of_lt (by unfold Mix.narrowN; exact Nat.mod_le _ _) hlt
    obtain ⟨n, hn⟩ : ∃ n, n = Mix.narrowN h k := ⟨_, rfl⟩
    rw [← hn] at hk2 hnr hln
    have htx := Mix.textR_nat n n w2 rfl hln
    subst hk2
    have Hof := Lib.hid hof
    have Hnr := Lib.hid hnr
    have Htx := Lib.hid htx
    clear hd hg hlt hof hh hnr hln hn htx
    go_wp2_with fail
    refine Hof.out.mono ?_
    rintro e w3 ⟨rfl, rfl⟩
    go_wp2_with fail
    refine Hnr.out.mono ?_
    rintro e w3 ⟨rfl, rfl⟩
    go_wp2_with fail
    refine Htx.out.mono ?_
    rintro e w3 ⟨rfl, hg⟩
    have Hc3 := Lib.hid (Hc2.out.trans (chg_of_below hg))
    clear hg
    go_wp2_with fail
    go_ret2
    exact ⟨Hc3.out, rfl⟩
  · have h0 : x2 ≠ 0 := h0
    have hk2 := Hkd.out
    rw [if_neg h0] at hk2
    simp only at hk2
    subst hk2
    have hyb : (x2 == 0) = false := by rw [beq_eq_false_iff_ne]; exact h0
    go_wp2_with fail
    go_ret2
    exact ⟨Hc2.out, rfl⟩
end Go.Proofs.YtnipiphhkcafhaaDoor
