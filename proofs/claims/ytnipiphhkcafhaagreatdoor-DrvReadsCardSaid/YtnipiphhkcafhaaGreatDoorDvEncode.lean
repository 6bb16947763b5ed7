/- The contract of the program's Encode of a build. Condition: texts of at most 2^16 bytes; the list of powers reads as the program's text lays it. -/
import Derived.Test.YtnipiphhkcafhaaGreatDoorDvStep
namespace Go.Proofs.YtnipiphhkcafhaaGreatDoor
set_option linter.unusedVariables false
open Go.ChangeShapes Go.WideShapes Go.ChangeAt Go.RowKit
set_option maxHeartbeats 8000000 in
set_option maxRecDepth 20000 in
theorem dencode_any (d : DrvL) (hw : d.wf) (S : Nat → Prop) (v : Value) (base : Nat) (w : World) (hl : Lw base w) (hv : DrvV w S v d) : Calls Tryz.prog 8 #[v] w fun e w' => Chg NoB w w' ∧ e = .returned (.tuple #[.string (encD d).1, .int .i64 (encD d).2]) := by
  obtain ⟨s, kb, ko, rfl, hs⟩ := hv
  have hs0 := hs
  obtain ⟨⟨q, c, rfl, h1, h2, h3⟩, hat⟩ := hs
  obtain ⟨ec, hec⟩ : ∃ x, x = encD d := ⟨_, rfl⟩
  rw [← hec]
  have Hec := Lib.hid hec
  have HG := Lib.hid (fun w' (h : Chg NoB w w') => dgood_any d hw S (.agg (drvC d (.slice q d.ins.length c))) w' ⟨_, kb, ko, rfl, hs0.keep h fun _ _ => id⟩)
  have Hs := Lib.hid hs0
  have Hl := Lib.hid hl
  have Hw := Lib.hid hw
  have hlen := hw.len
  have Hat := Lib.hid hat
  have H3 := Lib.hid h3
  obtain ⟨gd, hgd⟩ : ∃ b, b = goodD d := ⟨_, rfl⟩
  rw [← hgd] at HG
  have Hgd := Lib.hid hgd
  have Hd : Hid (d = ⟨d.name, d.a, d.b, d.c, d.tool, d.ins⟩) := Lib.hid rfl
  have hal := (Chg.refl NoB w).alloc (.cells (drvC d (.slice q d.ins.length c)) 29)
  have hb := heap_alloc_new w (.cells (drvC d (.slice q d.ins.length c)) 29)
  unfold drvC at *
  clear hec hgd hs0 hl hw hat h3
  obtain ⟨len, hle⟩ : ∃ l, l = d.ins.length := ⟨_, rfl⟩
  rw [← hle] at h1 HG Hs hlen hal hb ⊢
  have Hlen := Lib.hid hle
  clear hle
  unfold maxLen at h2
  obtain ⟨name, hnm⟩ : ∃ x, d.name = x := ⟨_, rfl⟩
  obtain ⟨tool, htl⟩ : ∃ x, d.tool = x := ⟨_, rfl⟩
  obtain ⟨da, hda⟩ : ∃ x, d.a = x := ⟨_, rfl⟩
  obtain ⟨db, hdb⟩ : ∃ x, d.b = x := ⟨_, rfl⟩
  obtain ⟨dc, hdc⟩ : ∃ x, d.c = x := ⟨_, rfl⟩
  have Hnm := Lib.hid hnm
  have Htl := Lib.hid htl
  have Hda := Lib.hid hda
  have Hdb := Lib.hid hdb
  have Hdc := Lib.hid hdc
  rw [hnm, htl, hda, hdb, hdc] at HG hal hb ⊢
  clear hnm htl hda hdb hdc
  obtain ⟨vb, hvb⟩ : ∃ b, b = w.heap.size := ⟨_, rfl⟩
  rw [← hvb] at hb
  have Hvb := Lib.hid hvb
  obtain ⟨w1, hw1⟩ : ∃ w1, w.alloc (.cells #[.string (tx name), .int .i64 da, .int .i64 db, .int .i64 dc, .string (tx tool), .slice q len c] 29) = w1 := ⟨_, rfl⟩
  rw [hw1] at hal hb
  have Hw1 := Lib.hid hw1
  have Hal := Lib.hid hal
  have Hb := Lib.hid hb
  obtain ⟨f0, f1, f2, f3, f4, f5⟩ := var6 hb
  clear hal hb hvb hw1
  go_enter Tryz.func8, Tryz.ntmps8
  go_upto_region 1 with fail
  rw [Hw1.out, ← Hvb.out]
  go_wp2_with fail
  refine (HG.out _ Hal.out).mono ?_
  rintro e w2 ⟨rfl, hc2⟩
  have Hc2 := Lib.hid (Hal.out.trans hc2)
  have hb2 := row_kept hc2 Hb.out id
  have Hb2 := Lib.hid hb2
  clear f0 f1 f2 f3 f4 f5 hc2
  obtain ⟨f0, f1, f2, f3, f4, f5⟩ := var6 hb2
  clear hb2
  cases gd with
  | false =>
    have he : ec = (⟨#[]⟩, 1) := by rw [Hec.out]; unfold encD; rw [← Hgd.out]; rfl
    subst he
    go_wp2_with fail
    go_ret2
    exact ⟨Hc2.out, rfl⟩
  | true =>
    have hgood := (goodD_iff d).1 Hgd.out.symm
    have hcnt := drv_cnt Hgd.out.symm
    have Hgood := Lib.hid hgood
    have Hcnt := Lib.hid hcnt
    have hl40 : len ≤ 40 := by rw [Hlen.out]; exact hgood.2.2.2.1
    have hkb0 : Kb w2 w2.heap.size (.slice none 0 0) ((d.ins.map inputF).take 0) := Kb.nil _ _ (Nat.le_refl _)
    obtain ⟨lo, hlo⟩ : ∃ lo, lo = w2.heap.size := ⟨_, rfl⟩
    rw [← hlo] at hkb0
    have Hlo := Lib.hid hlo
    have Hkb0 := Lib.hid hkb0
    obtain ⟨i0, hi, hz0, hz1, hz2⟩ := info_parts nodeInfo
    have Hi := Lib.hid hi
    have Hz0 := Lib.hid hz0
    have Hz1 := Lib.hid hz1
    have Hz2 := Lib.hid hz2
    clear hkb0 hlo hgood hcnt hi hz0 hz1 hz2
    go_wp2_with fail
    clear f0 f1 f2 f3 f4 f5
    go_loopw [4, 14] (fun lv i wr => ∃ k : Nat, k ≤ len ∧ i = .int .i64 k ∧ Kb wr lo lv ((d.ins.map inputF).take k) ∧ Chg NoB w2 wr) (fun _ i _ => len - (intOf i).toNat)
    case atStart => exact ⟨0, Nat.zero_le _, rfl, Hkb0.out, Chg.refl _ _⟩
    case round =>
      obtain ⟨k, hk, rfl, hkd, hch⟩ := hrel
      have Hkd := Lib.hid hkd
      have Hch := Lib.hid hch
      clear hkd hch Hkb0
      by_cases hlt : k < len
      · have hlt' : k < d.ins.length := by rw [← Hlen.out]; exact hlt
        obtain ⟨rfl, -⟩ := H3.out (by intro e; rw [e] at hlt'; simp at hlt')
        obtain ⟨c0, c1⟩ := Hat.out k hlt'
        have hcw := Hc2.out.trans Hch.out
        have c0 := hcw.keep c0
        have c1 := hcw.keep c1
        have Htk : Hid ((d.ins.map inputF).take (k + 1) = (d.ins.map inputF).take k ++ [inputF d.ins[k]]) := Lib.hid (by
          rw [List.take_add_one, List.getElem?_eq_getElem (by rw [List.length_map]; exact hlt'), List.getElem_map]; rfl)
        have Hwx := Lib.hid (Hw.out.ins k hlt')
        clear hcw
        generalize d.ins[k] = x at *
        obtain ⟨x, y⟩ := x
        simp only at c0 c1 Hwx
        have hal6 := (Chg.refl NoB wr).alloc (.cells #[.string (tx x), .string (tx y)] 48)
        have hb6 := heap_alloc_new wr (.cells #[.string (tx x), .string (tx y)] 48)
        obtain ⟨ib, hib⟩ : ∃ b, b = wr.heap.size := ⟨_, rfl⟩
        obtain ⟨w6, hw6⟩ : ∃ w6, wr.alloc (.cells #[.string (tx x), .string (tx y)] 48) = w6 := ⟨_, rfl⟩
        rw [hw6] at hal6 hb6
        rw [← hib] at hb6
        have Hw6 := Lib.hid hw6
        have Hib := Lib.hid hib
        obtain ⟨a0, a1⟩ := var2 hb6
        obtain ⟨acc, hacc⟩ : ∃ acc, acc = (d.ins.map inputF).take k := ⟨_, rfl⟩
        rw [← hacc] at Hkd Htk
        have hna : acc.length = k := by rw [hacc, List.length_take, List.length_map, ← Hlen.out]; omega
        have Hna := Lib.hid hna
        have Hal6 := Lib.hid hal6
        have Hch6 := Lib.hid (Hch.out.trans hal6)
        have hkd6 := Hkd.out.keep (T := NoB) hal6 fun _ _ _ => id
        obtain ⟨hlo6, xs, hown, hrow⟩ := hkd6
        obtain ⟨q0, n0, cap0, hu6⟩ : ∃ q n cap, u4 = Value.slice q n cap := Hkd.out.shape2
        subst hu6
        have Hown := Lib.hid hown
        have Hrow := Lib.hid hrow
        have Hlo6 := Lib.hid hlo6
        have HNi := Lib.hid (show some ib ≠ (Value.slice q0 n0 cap0).ownBlock from fun e => by have h1 := (Hkd.out.2.choose_spec.1.lt ib e.symm).2; omega)
        have HN := Lib.hid (show ∀ j, (Value.slice q0 n0 cap0).ownBlock = some j → j < w6.heap.size from fun j hj => (hown.lt j hj).2)
        have hcount : Nd.counts [atomF x, atomF y] ≤ 1048576 := by
          rw [Nd.counts, Nd.counts, Nd.counts, atom_cnt, atom_cnt]
          have := Hwx.out
          omega
        have htx : (tx x).size ≤ maxLen := by rw [tx_size]; unfold maxLen; have := Hwx.out; omega
        have hty : (tx y).size ≤ maxLen := by rw [tx_size]; unfold maxLen; have := Hwx.out; omega
        have Hcount := Lib.hid hcount
        have Htx := Lib.hid htx
        have Hty := Lib.hid hty
        have M1 := Lib.hid (show k + 1 ≤ maxLen by unfold maxLen; omega)
        have M2 := Lib.hid (show (k + 1) * 48 ≤ 140737488355328 by omega)
        have hownK : ∀ w', Chg NoB w6 w' → Hid (w'.ownsRow lo 39 3 (.slice q0 n0 cap0) k xs) := fun w' h => Lib.hid (by have := ownsRow_chg Hown.out h fun _ _ => id; rwa [Hna.out] at this)
        have HownK := Lib.hid hownK
        clear hal6 hb6 hib hw6 hacc hna hown hrow hlo6 hcount htx hty hownK Hkd
        go_upto_region 7 with fail
        rw [Hw6.out, ← Hib.out]
        have hdr : Chg NoB w6 w6.drew := (Chg.refl NoB w6).drew
        have hA := And.intro a0 a1
        have hA2 := And.intro (hdr.keep a0) (hdr.keep a1)
        clear c0 c1
        go_region_held3 (fun w' => w'.cell? ⟨ib, 0, none⟩ = some (.string (tx x)) ∧ w'.cell? ⟨ib, 1, none⟩ = some (.string (tx y)))
          (first | exact hA | exact hA2 | exact hB | exact hC | exact hD | exact hE | exact hF | exact hG)
          (first
            | (go_at_call 18; refine (new_any (tx x) w6.drew).mono ?_; rintro e w7 ⟨rfl, hc7'⟩; have hc7 : Chg NoB w6 w7 := hdr.trans hc7'; have hB := And.intro (hc7.keep a0) (hc7.keep a1))
            | (go_at_call 18; refine (new_any (tx y) w7).mono ?_; rintro e w8 ⟨rfl, hc8'⟩; have hc8 := hc7.trans hc8'; have hC := And.intro (hc8.keep a0) (hc8.keep a1); have hc8r := hc8.alloc (.cells #[.bool true, .string (tx x), .slice none 0 0, .bool true, .string (tx y), .slice none 0 0] 39); have hD := And.intro (hc8r.keep a0) (hc8r.keep a1))
            | (go_at_call 17; refine (list_new [atomF x, atomF y] Hcount.out _ _ _ _ _ (nds_two w8 (tx x) (tx y) Htx.out Hty.out)).mono ?_; rintro e w9 ⟨hc9', v9, rfl, hv9⟩; obtain ⟨-, sl9, kb9, ko9, rfl, hs9⟩ := hv9; obtain ⟨q9, c9, e9, -, -, -⟩ := hs9.sh; replace e9 : sl9 = .slice q9 2 c9 := e9; subst e9; simp only [Nd.leaf, Nd.atom, Nd.kids] at *; have hc9 := hc8r.trans hc9'; have hE := And.intro (hc9.keep a0) (hc9.keep a1); have hc10 := hc9.alloc (.cells #[.bool false, .string ⟨#[]⟩, .slice q9 2 c9] 39); have hF := And.intro (hc10.keep a0) (hc10.keep a1); have Hs9 := Lib.hid hs9; have Hc9 := Lib.hid hc9; have Hc10 := Lib.hid hc10; have Hown10 := HownK.out _ hc10)
            | (refine step_append_at (by rfl) _ (.tmp 18) (.tmp 27) 37 (by rfl) lo 39 i0 (.agg #[.bool false, .string ⟨#[]⟩, .slice none 0 0]) 3 48 Tryz.underlying37 Hi.out Hz0.out Hz1.out Hz2.out rfl (by decide) _ k _ (by rfl) Hown10.out ⟨w9.heap.size, 0, none⟩ 1 1 [.bool false, .string ⟨#[]⟩, .slice q9 2 c9] (by rfl) rfl (lit3 w9 _ _ _ _) (one3 _ _ _ _ _) M1.out M2.out (Nat.le_trans Hlo6.out Hc10.out.size) ?_; intro v11 w11 hown11 hgr11 hpl11; have Hown11 := Lib.hid hown11; have Hgr11 := Lib.hid hgr11; have Hpl11 := Lib.hid hpl11; have hG : w11.cell? ⟨ib, 0, none⟩ = some (.string (tx x)) ∧ w11.cell? ⟨ib, 1, none⟩ = some (.string (tx y)) := ⟨hgr11.cell hF.1 HNi.out, hgr11.cell hF.2 HNi.out⟩; clear hown11 hgr11 hpl11))
        all_goals
          clear hA hA2 hB hC hD hE hF hG a0 a1 hdr
          try clear hHeld
          have hz68 : w6.heap.size ≤ w8.heap.size := hc8.size
          have hz8r := hc8r.size
          have hrow9 := Hrow.out.keep (S' := KbS lo (.slice q0 n0 cap0) w9) Hc9.out (fun _ _ => id) fun j hj => ⟨⟨hj.1.1, Nat.lt_of_lt_of_le hj.1.2 Hc9.out.size⟩, hj.2⟩
          have hs9' := Hs9.out.mono (T := fun j => w6.heap.size ≤ j ∧ j < w9.heap.size) fun j hj => ⟨Nat.le_trans hz8r hj.1, hj.2⟩
          have hal10 := (Chg.refl NoB w9).alloc (.cells #[.bool false, .string ⟨#[]⟩, .slice q9 2 c9] 39)
          have hkd11 : Kb w11 lo v11 (acc ++ [inputF (x, y)]) := Kb.push (n := inputF (x, y)) HN.out Hlo6.out Hc9.out.size hrow9 (Nat.zero_le _) hs9' hal10 (by rw [Hna.out]; exact Hown11.out) Hgr11.out Hpl11.out
          rw [← Htk.out] at hkd11
          have hgc11 : Chg (fun j => (Value.slice q0 n0 cap0).ownBlock = some j) _ w11 := (Chg.refl _ _).grown Hgr11.out fun j hj => .inl hj
          have h611 : Chg (fun j => (Value.slice q0 n0 cap0).ownBlock = some j) w6 w11 := (Hc10.out.mono fun _ _ x => x.elim).trans hgc11
          have hch11 : Chg NoB w2 w11 := Chg.above Hch6.out h611 fun j hj => by have := (Hown.out.lt j hj).1; have := Hlo.out; omega
          have Hkd11 := Lib.hid hkd11
          have Hch11 := Lib.hid hch11
          clear hc7 hc8 hc8r hz68 hz8r hrow9 hs9' hal10 hkd11 hgc11 h611 hch11
          go_wp2_with fail
          go_roundw
          case rel => exact ⟨k + 1, by omega, by go_num, Hkd11.out, Hch11.out⟩
          case measure => simp [intOf]; omega
      · obtain rfl : k = len := by omega
        have htk : (d.ins.map inputF).take k = d.ins.map inputF := by rw [Hlen.out]; exact List.take_of_length_le (by rw [List.length_map]; exact Nat.le_refl _)
        rw [htk] at Hkd
        obtain ⟨nb, no, hnds⟩ := Hkd.out.nds
        have Hnds := Lib.hid hnds
        obtain ⟨q0, n0, cap0, hu6⟩ : ∃ q n cap, u4 = Value.slice q n cap := Hkd.out.shape2
        subst hu6
        have Hcr := Lib.hid (Hc2.out.trans Hch.out)
        have hbr := row_kept Hch.out Hb2.out id
        have Hbr := Lib.hid hbr
        obtain ⟨f0, f1, f2, f3, f4, f5⟩ := var6 hbr
        have Hvt := Lib.hid (vtext_any da db dc base wr (Hl.out.keep Hcr.out) (by rw [← Hda.out, ← Hdb.out, ← Hdc.out]; exact Hgood.out.2.1))
        clear hnds htk hbr
        go_wp2_with fail
        refine Hvt.out.mono ?_
        rintro e w8 ⟨rfl, hc8⟩
        have Hc8 := Lib.hid (Hcr.out.trans hc8)
        have hb8 := row_kept hc8 Hbr.out id
        have Hn8 := Lib.hid (Hnds.out.keep hc8 fun _ _ => id)
        clear f0 f1 f2 f3 f4 f5 hc8
        obtain ⟨f0, f1, f2, f3, f4, f5⟩ := var6 hb8
        clear hb8 Hbr Hvt
        obtain ⟨tv, htv⟩ : ∃ t, t = Ver.dotL da.toNat db.toNat dc.toNat := ⟨_, rfl⟩
        have htl : tv.length ≤ 11 := by rw [htv, ← Hda.out, ← Hdb.out, ← Hdc.out]; exact dot_len Hgood.out.2.1
        rw [← htv]
        have Htv := Lib.hid htv
        have hnl : name.length ≤ 65536 := by rw [← Hnm.out]; exact Hw.out.name
        have htol : tool.length ≤ 65536 := by rw [← Htl.out]; exact Hw.out.tool
        have Z1 := Lib.hid (show (tx name).size ≤ maxLen by rw [tx_size]; unfold maxLen; omega)
        have Z2 := Lib.hid (show (tx tv).size ≤ maxLen by rw [tx_size]; unfold maxLen; omega)
        have Z3 := Lib.hid (show (tx tool).size ≤ maxLen by rw [tx_size]; unfold maxLen; omega)
        have Z0 := Lib.hid (show (⟨#[100, 114, 118]⟩ : ByteArray).size ≤ maxLen by decide)
        have Hnode : Hid (nodeD d = .mk false ⟨#[]⟩ [.mk true ⟨#[100, 114, 118]⟩ [], .mk true (tx name) [], .mk true (tx tv) [], .mk true (tx tool) [], .mk false ⟨#[]⟩ (d.ins.map inputF)]) := Lib.hid (by
          rw [Htv.out, ← Hnm.out, ← Htl.out, ← Hda.out, ← Hdb.out, ← Hdc.out]
          rfl)
        have hcnt2 : Nd.counts [.mk true ⟨#[100, 114, 118]⟩ [], .mk true (tx name) [], .mk true (tx tv) [], .mk true (tx tool) [], .mk false ⟨#[]⟩ (d.ins.map inputF)] ≤ 1048576 := by
          have h := Hcnt.out.2
          rw [Hnode.out, Nd.count] at h
          omega
        have Hcnt2 := Lib.hid hcnt2
        have Hcnt1 := Lib.hid (show Nd.counts (d.ins.map inputF) ≤ 1048576 by have := Hcnt.out.1; omega)
        have Hcnt3 := Lib.hid (show (nodeD d).count ≤ 1048576 by have := Hcnt.out.2; omega)
        obtain ⟨mi, hmi⟩ : ∃ m, m = (d.ins.map inputF).length := ⟨_, rfl⟩
        have Hmi := Lib.hid hmi
        clear htv htl hnl htol hcnt2 hmi
        have hdr : Chg NoB w8 w8.drew := (Chg.refl NoB w8).drew
        have hA := And.intro f0 f4
        have hA2 := And.intro (hdr.keep f0) (hdr.keep f4)
        go_wp2_with fail
        go_region_held3 (fun w' => w'.cell? ⟨vb, 0, none⟩ = some (.string (tx name)) ∧ w'.cell? ⟨vb, 4, none⟩ = some (.string (tx tool)))
          (first | exact hA | exact hA2 | exact hB | exact hC | exact hD | exact hE | exact hF | exact hG | exact hJ | exact hK)
          (first
            | (go_at_call 18; refine (new_any ⟨#[100, 114, 118]⟩ w8.drew).mono ?_; rintro e w9 ⟨rfl, hc9'⟩; have hc9 : Chg NoB w8 w9 := hdr.trans hc9'; have hB := And.intro (hc9.keep f0) (hc9.keep f4))
            | (go_at_call 18; refine (new_any (tx name) w9).mono ?_; rintro e w10 ⟨rfl, hc10'⟩; have hc10 := hc9.trans hc10'; have hC := And.intro (hc10.keep f0) (hc10.keep f4))
            | (go_at_call 18; refine (new_any (tx tv) w10).mono ?_; rintro e w11 ⟨rfl, hc11'⟩; have hc11 := hc10.trans hc11'; have hD := And.intro (hc11.keep f0) (hc11.keep f4))
            | (go_at_call 18; refine (new_any (tx tool) w11).mono ?_; rintro e w12 ⟨rfl, hc12'⟩; have hc12 := hc11.trans hc12'; have hE := And.intro (hc12.keep f0) (hc12.keep f4); have Hc12 := Lib.hid hc12)
            | (go_at_call 17; refine (list_new (d.ins.map inputF) Hcnt1.out _ _ nb no w12 (Hn8.out.keep Hc12.out fun _ _ => id)).mono ?_; rintro e w13 ⟨hc13', v13, rfl, hv13⟩; obtain ⟨-, sl13, kb13, ko13, rfl, hs13⟩ := hv13; obtain ⟨q13, c13, e13, -, -, -⟩ := hs13.sh; replace e13 : sl13 = .slice q13 mi c13 := (by rw [Hmi.out]; exact e13); subst e13; simp only [Nd.leaf, Nd.atom, Nd.kids] at *; have hc13 := hc12.trans hc13'; have hF := And.intro (hc13.keep f0) (hc13.keep f4); have Hs13 := Lib.hid hs13; have hc13r := hc13.alloc (.cells #[.bool true, .string ⟨#[100, 114, 118]⟩, .slice none 0 0, .bool true, .string (tx name), .slice none 0 0, .bool true, .string (tx tv), .slice none 0 0, .bool true, .string (tx tool), .slice none 0 0, .bool false, .string ⟨#[]⟩, .slice q13 mi c13] 39); have hG := And.intro (hc13r.keep f0) (hc13r.keep f4))
            | (go_at_call 17; refine (list_new [.mk true ⟨#[100, 114, 118]⟩ [], .mk true (tx name) [], .mk true (tx tv) [], .mk true (tx tool) [], .mk false ⟨#[]⟩ (d.ins.map inputF)] Hcnt2.out _ _ _ _ _ (nds_five (w := w13) ⟨#[100, 114, 118]⟩ (tx name) (tx tv) (tx tool) Z0.out Z1.out Z2.out Z3.out Hs13.out)).mono ?_; rintro e w14 ⟨hc14', v14, rfl, hv14⟩; have hc14 := hc13r.trans hc14'; have hJ := And.intro (hc14.keep f0) (hc14.keep f4); have Hv14 := Lib.hid (hv14.mono (T := fun j => j < w14.heap.size) fun j hj => hj.2); have Hc14 := Lib.hid hc14)
            | (go_at_call 20; refine ((enc_any (nodeD d) Hcnt3.out (fun j => j < w14.heap.size) v14 w14 (by rw [Hnode.out]; exact Hv14.out) (fun j hj => hj) ((Hl.out.keep (Hc8.out.trans Hc14.out)).top)).mono fun e w' h => h.val).mono ?_; rintro e w15 ⟨hc15', rfl⟩; have hc15 := hc14.trans hc15'; have hK := And.intro (hc15.keep f0) (hc15.keep f4); have Hc15 := Lib.hid hc15))
        all_goals
          have he : ec = encO (putN (nodeD d) 0 []) := by rw [Hec.out]; unfold encD; rw [if_pos Hgd.out.symm]
          have He := Lib.hid he
          clear hA hA2 hB hC hD hE hF hG hJ hK he
          try clear hHeld
          go_wp2_with fail
          go_ret2
          refine ⟨Hc8.out.trans Hc15.out, ?_⟩
          rw [He.out]
          rfl
end Go.Proofs.YtnipiphhkcafhaaGreatDoor
