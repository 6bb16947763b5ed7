/- The contracts of the document's Node and Encode of a build. Condition: texts of at most 2^16 bytes; the list of powers reads as the program's text lays it. -/
import Derived.Test.YtnipiphhkcafhaaGreatDoorDvEncode
namespace Go.Proofs.YtnipiphhkcafhaaGreatDoor
set_option linter.unusedVariables false
open Go.ChangeShapes Go.WideShapes Go.ChangeAt Go.RowKit
theorem ratom_any (a : ByteArray) (w : World) : Calls Tryz.prog 37 #[.string a] w fun e w' => e = .returned (.agg #[.bool true, .string a, .slice none 0 0]) ∧ Chg NoB w w' := by
  have hal := (Chg.refl NoB w).alloc (.cells #[.bool false, .string ⟨#[]⟩, .slice none 0 0] 39)
  have hb := heap_alloc_new w (.cells #[.bool false, .string ⟨#[]⟩, .slice none 0 0] 39)
  obtain ⟨b, hbb⟩ : ∃ b, b = w.heap.size := ⟨_, rfl⟩
  obtain ⟨w1, hw1⟩ : ∃ w1, w.alloc (.cells #[.bool false, .string ⟨#[]⟩, .slice none 0 0] 39) = w1 := ⟨_, rfl⟩
  rw [hw1] at hal hb
  rw [← hbb] at hb
  have Hw1 := Lib.hid hw1
  have Hbb := Lib.hid hbb
  have Hal := Lib.hid hal
  have Hb := Lib.hid hb
  obtain ⟨d0, d1, d2⟩ := var3 hb
  have df := row_free hb
  clear hw1 hbb hal hb
  go_enter Tryz.func37, Tryz.ntmps37
  go_upto_region 1 with fail
  rw [Hw1.out, ← Hbb.out]
  go_wp2_with fail
  obtain ⟨e0, e1, e2⟩ := var3 (box3 Hb.out (.bool true) (.string a) (.slice none 0 0))
  have hfin := box3_chg (b := b) Hal.out (Nat.le_of_eq Hbb.out.symm) (.bool true) (.string a) (.slice none 0 0)
  generalize ((w1.setCell ⟨b, 0, none⟩ (.bool true)).setCell ⟨b, 1, none⟩ (.string a)).setCell ⟨b, 2, none⟩ (.slice none 0 0) = wf at *
  exact bodyPost_ret (v := .agg #[.bool true, .string a, .slice none 0 0]) (by simp [results, Tryz.results37, go_sem, e0, e1, e2]) rfl ⟨rfl, hfin⟩
theorem lit3s (w : World) (h : Obj) (a : Bool) (b : ByteArray) (s : Value) : ∀ (j : Nat) (u : Value), [Value.bool a, .string b, s][j]? = some u → ((w.alloc h).alloc (.cells #[.bool a, .string b, s] 39)).cell? ((⟨w.heap.size + 1, 0, none⟩ : Addr).add j) = some u := by
  have := lit3 (w.alloc h) (.bool a) (.string b) s 39
  rwa [alloc_size] at this
set_option maxHeartbeats 8000000 in
set_option maxRecDepth 20000 in
theorem refNode_any (d : DrvL) (hw : d.wf) (hg : goodD d = true) (S : Nat → Prop) (v : Value) (base : Nat) (w : World) (hl : Lw base w) (hv : DrvV w S v d) : Calls Tryz.prog 16 #[v] w fun e w' => Chg NoB w w' ∧ ∃ v', e = .returned v' ∧ NdV w' (NewB w w') v' (nodeD d) := by
  obtain ⟨s, kb, ko, rfl, hs⟩ := hv
  obtain ⟨⟨q, c, rfl, h1, h2, h3⟩, hat⟩ := hs
  have Hl := Lib.hid hl
  have Hw := Lib.hid hw
  have Hat := Lib.hid hat
  have H3 := Lib.hid h3
  have Hgood := Lib.hid ((goodD_iff d).1 hg)
  have Hcnt := Lib.hid (drv_cnt hg)
  have hal := (Chg.refl NoB w).alloc (.cells (drvC d (.slice q d.ins.length c)) 29)
  have hb := heap_alloc_new w (.cells (drvC d (.slice q d.ins.length c)) 29)
  unfold drvC at *
  clear hl hw hat h3 hg
  obtain ⟨len, hle⟩ : ∃ l, l = d.ins.length := ⟨_, rfl⟩
  rw [← hle] at h1 hal hb ⊢
  have hl40 : len ≤ 40 := by rw [hle]; exact Hgood.out.2.2.2.1
  have Hlen := Lib.hid hle
  clear hle
  unfold maxLen at h2
  obtain ⟨name, hnm⟩ : ∃ x, d.name = x := ⟨_, rfl⟩
  obtain ⟨tool, htl⟩ : ∃ x, d.tool = x := ⟨_, rfl⟩
  obtain ⟨da, hda⟩ : ∃ x, d.a = x := ⟨_, rfl⟩
  obtain ⟨db, hdb⟩ : ∃ x, d.b = x := ⟨_, rfl⟩
  obtain ⟨dc, hdc⟩ : ∃ x, d.c = x := ⟨_, rfl⟩
  have Hnm := Lib.hid hnm
  have Htl := Lib.hid htl
  have Hda := Lib.hid hda
  have Hdb := Lib.hid hdb
  have Hdc := Lib.hid hdc
  rw [hnm, htl, hda, hdb, hdc] at hal hb ⊢
  clear hnm htl hda hdb hdc
  obtain ⟨vb, hvb⟩ : ∃ b, b = w.heap.size := ⟨_, rfl⟩
  obtain ⟨w1, hw1⟩ : ∃ w1, w.alloc (.cells #[.string (tx name), .int .i64 da, .int .i64 db, .int .i64 dc, .string (tx tool), .slice q len c] 29) = w1 := ⟨_, rfl⟩
  rw [hw1] at hal hb
  rw [← hvb] at hb
  have hs1 : w1.heap.size = vb + 1 := by rw [← hw1, hvb]; exact alloc_size _ _
  have hal2 := (Chg.refl NoB w1).alloc (.cells #[.bool false, .string ⟨#[]⟩, .slice none 0 0] 39)
  have hb2 := heap_alloc_new w1 (.cells #[.bool false, .string ⟨#[]⟩, .slice none 0 0] 39)
  obtain ⟨w2, hw2⟩ : ∃ w2, w1.alloc (.cells #[.bool false, .string ⟨#[]⟩, .slice none 0 0] 39) = w2 := ⟨_, rfl⟩
  obtain ⟨rb, hrb⟩ : ∃ b, b = vb + 1 := ⟨_, rfl⟩
  rw [hw2] at hal2 hb2
  rw [hs1, ← hrb] at hb2
  have hs2 : w2.heap.size = rb + 1 := by rw [← hw2, hrb, ← hs1]; exact alloc_size _ _
  have hal3 := (Chg.refl NoB w2).alloc (.cells #[.bool false, .string ⟨#[]⟩, .slice none 0 0] 39)
  have hb3 := heap_alloc_new w2 (.cells #[.bool false, .string ⟨#[]⟩, .slice none 0 0] 39)
  obtain ⟨w3, hw3⟩ : ∃ w3, w2.alloc (.cells #[.bool false, .string ⟨#[]⟩, .slice none 0 0] 39) = w3 := ⟨_, rfl⟩
  obtain ⟨wb, hwb⟩ : ∃ b, b = rb + 1 := ⟨_, rfl⟩
  rw [hw3] at hal3 hb3
  rw [hs2, ← hwb] at hb3
  have hs3 : w3.heap.size = wb + 1 := by rw [← hw3, hwb, ← hs2]; exact alloc_size _ _
  have Hw1 := Lib.hid hw1
  have Hw2 := Lib.hid hw2
  have Hw3 := Lib.hid hw3
  have Hvb := Lib.hid hvb
  have Hs1 := Lib.hid hs1
  have Hs2 := Lib.hid hs2
  have Hs3 := Lib.hid hs3
  have Hrb := Lib.hid hrb
  have Hwb := Lib.hid hwb
  have Hc3 := Lib.hid (hal.trans (hal2.trans hal3))
  have Hv3 := Lib.hid (row_kept (hal2.trans hal3) hb id)
  have Hr3 := Lib.hid (row_kept hal3 hb2 id)
  have Hb3 := Lib.hid hb3
  clear hal hb hw1 hvb hs1 hal2 hb2 hw2 hrb hs2 hal3 hb3 hw3 hwb hs3
  go_enter Tryz.func16, Tryz.ntmps16
  go_upto_region 1 with fail
  rw [Hw1.out, Hw2.out, ← Hvb.out, ← Hrb.out]
  go_upto_region 2 with fail
  rw [Hw3.out, Hs2.out, ← Hwb.out]
  obtain ⟨f0, f1, f2, f3, f4, f5⟩ := var6 Hv3.out
  obtain ⟨lo, hlo⟩ : ∃ lo, lo = wb + 1 := ⟨_, rfl⟩
  rw [← hlo] at Hs3
  have Hlo := Lib.hid hlo
  have Hkb0 := Lib.hid (Kb.nil w3 lo (Nat.le_of_eq Hs3.out.symm))
  obtain ⟨i0, hi, hz0, hz1, hz2⟩ := info_parts nodeInfo
  have Hi := Lib.hid hi
  have Hz0 := Lib.hid hz0
  have Hz1 := Lib.hid hz1
  have Hz2 := Lib.hid hz2
  have Hord := Lib.hid (show w.heap.size ≤ vb ∧ vb < rb ∧ rb < wb ∧ wb < lo by have := Hvb.out; have := Hrb.out; have := Hwb.out; omega)
  clear hlo hi hz0 hz1 hz2 Hw1 Hw2 Hw3 Hs1 Hs2 Hrb Hwb
  go_wp2_with fail
  clear f0 f1 f2 f3 f4 f5
  go_loopw [10] (fun i wr => ∃ (k : Nat) (lv : Value), k ≤ len ∧ i = .int .i64 k ∧ wr.heap[wb]? = some (.cells #[.bool false, .string ⟨#[]⟩, lv] 39 (0, 0)) ∧ Kb wr lo lv ((d.ins.map inputF).take k) ∧ Chg (fun y => y = wb) w3 wr) (fun i _ => len - (intOf i).toNat)
  case atStart => exact ⟨0, _, Nat.zero_le _, rfl, Hb3.out, Hkb0.out, Chg.refl _ _⟩
  case round =>
    obtain ⟨k, lv, hk, rfl, hob, hkd, hch⟩ := hrel
    have Hkd := Lib.hid hkd
    have Hch := Lib.hid hch
    have Hob := Lib.hid hob
    have hcw : Chg NoB w wr := Hc3.out.above hch fun y hy => by have : y = wb := hy; have := Hord.out; omega
    have Hcw := Lib.hid hcw
    clear hkd hch hob hcw Hkb0
    by_cases hlt : k < len
    · have hlt' : k < d.ins.length := by rw [← Hlen.out]; exact hlt
      obtain ⟨rfl, -⟩ := H3.out (by intro e; rw [e] at hlt'; simp at hlt')
      obtain ⟨c0, c1⟩ := Hat.out k hlt'
      have c0 := Hcw.out.keep c0
      have c1 := Hcw.out.keep c1
      have Htk : Hid ((d.ins.map inputF).take (k + 1) = (d.ins.map inputF).take k ++ [inputF d.ins[k]]) := Lib.hid (by
        rw [List.take_add_one, List.getElem?_eq_getElem (by rw [List.length_map]; exact hlt'), List.getElem_map]; rfl)
      have Hwx := Lib.hid (Hw.out.ins k hlt')
      generalize d.ins[k] = x at *
      obtain ⟨x, y⟩ := x
      simp only at c0 c1 Hwx
      have hal6 := (Chg.refl NoB wr).alloc (.cells #[.string (tx x), .string (tx y)] 48)
      have hb6 := heap_alloc_new wr (.cells #[.string (tx x), .string (tx y)] 48)
      obtain ⟨ib, hib⟩ : ∃ b, b = wr.heap.size := ⟨_, rfl⟩
      obtain ⟨w6, hw6⟩ : ∃ w6, wr.alloc (.cells #[.string (tx x), .string (tx y)] 48) = w6 := ⟨_, rfl⟩
      rw [hw6] at hal6 hb6
      rw [← hib] at hb6
      have Hw6 := Lib.hid hw6
      have Hib := Lib.hid hib
      obtain ⟨a0, a1⟩ := var2 hb6
      obtain ⟨acc, hacc⟩ : ∃ acc, acc = (d.ins.map inputF).take k := ⟨_, rfl⟩
      rw [← hacc] at Hkd Htk
      have hna : acc.length = k := by rw [hacc, List.length_take, List.length_map, ← Hlen.out]; omega
      have Hna := Lib.hid hna
      obtain ⟨q0, n0, cap0, hu6⟩ := Hkd.out.shape2
      subst hu6
      have hkd6 := Hkd.out.keep (T := NoB) hal6 fun _ _ _ => id
      obtain ⟨hlo6, xs, hown, hrow⟩ := hkd6
      have Hown := Lib.hid hown
      have Hrow := Lib.hid hrow
      have Hlo6 := Lib.hid hlo6
      have Hal6 := Lib.hid hal6
      have hob6 := row_kept hal6 Hob.out id
      have Hob6 := Lib.hid hob6
      have HN := Lib.hid (show ∀ j, (Value.slice q0 n0 cap0).ownBlock = some j → j < w6.heap.size from fun j hj => (hown.lt j hj).2)
      have HL := Lib.hid (show ∀ j, (Value.slice q0 n0 cap0).ownBlock = some j → lo ≤ j from fun j hj => (hown.lt j hj).1)
      have htx : (tx x).size ≤ maxLen := by rw [tx_size]; unfold maxLen; have := Hwx.out; omega
      have hty : (tx y).size ≤ maxLen := by rw [tx_size]; unfold maxLen; have := Hwx.out; omega
      have Htx := Lib.hid htx
      have Hty := Lib.hid hty
      have M1 := Lib.hid (show k + 1 ≤ maxLen by unfold maxLen; omega)
      have M2 := Lib.hid (show (k + 1) * 48 ≤ 140737488355328 by omega)
      have hownK : ∀ w', Chg NoB w6 w' → Hid (w'.ownsRow lo 39 3 (.slice q0 n0 cap0) k xs) := fun w' h => Lib.hid (by have := ownsRow_chg Hown.out h fun _ _ => id; rwa [Hna.out] at this)
      have HownK := Lib.hid hownK
      have hstep : ∀ (w8 : World), Chg NoB w6 w8 → ∀ (v9 : Value) (w9 : World), w9.ownsRow lo 39 3 v9 (k + 1) (xs ++ [.bool false, .string ⟨#[]⟩, .slice (some ⟨w8.heap.size, 0, none⟩) 2 2]) → ((w8.alloc (.cells #[.bool true, .string (tx x), .slice none 0 0, .bool true, .string (tx y), .slice none 0 0] 39)).alloc (.cells #[.bool false, .string ⟨#[]⟩, .slice (some ⟨w8.heap.size, 0, none⟩) 2 2] 39)).grownBy w9 (Value.slice q0 n0 cap0).ownBlock → (v9.ownBlock = (Value.slice q0 n0 cap0).ownBlock ∨ v9.ownBlock = some ((w8.alloc (.cells #[.bool true, .string (tx x), .slice none 0 0, .bool true, .string (tx y), .slice none 0 0] 39)).alloc (.cells #[.bool false, .string ⟨#[]⟩, .slice (some ⟨w8.heap.size, 0, none⟩) 2 2] 39)).heap.size) →
          Hid (Kb w9 lo v9 ((d.ins.map inputF).take (k + 1))) ∧ Hid (Chg (fun y => y = wb) w3 w9) ∧ Hid (w9.heap[wb]? = some (.cells #[.bool false, .string ⟨#[]⟩, .slice q0 n0 cap0] 39 (0, 0))) ∧ ∃ r9 s9 t9, v9 = .slice r9 s9 t9 := fun w8 hc8 v9 w9 hown9 hgr9 hpl9 => by
        have hal8 := (Chg.refl NoB w8).alloc (.cells #[.bool true, .string (tx x), .slice none 0 0, .bool true, .string (tx y), .slice none 0 0] 39)
        have hsz8 := alloc_size w8 (.cells #[.bool true, .string (tx x), .slice none 0 0, .bool true, .string (tx y), .slice none 0 0] 39)
        have hnd8 := nds_two w8 (tx x) (tx y) Htx.out Hty.out
        generalize w8.alloc (.cells #[.bool true, .string (tx x), .slice none 0 0, .bool true, .string (tx y), .slice none 0 0] 39) = w8r at *
        have hal9 := (Chg.refl NoB w8r).alloc (.cells #[.bool false, .string ⟨#[]⟩, .slice (some ⟨w8.heap.size, 0, none⟩) 2 2] 39)
        generalize w8r.alloc (.cells #[.bool false, .string ⟨#[]⟩, .slice (some ⟨w8.heap.size, 0, none⟩) 2 2] 39) = w10 at *
        have h68 := hc8.trans hal8
        have z8 := hc8.size
        have hrow9 := Hrow.out.keep (S' := KbS lo (.slice q0 n0 cap0) w8r) h68 (fun _ _ => id) fun j hj => ⟨⟨hj.1.1, Nat.lt_of_lt_of_le hj.1.2 h68.size⟩, hj.2⟩
        have hkd9 : Kb w9 lo v9 (acc ++ [inputF (x, y)]) := Kb.push (n := inputF (x, y)) HN.out Hlo6.out h68.size hrow9 (Nat.zero_le _) (hnd8.mono (T := fun j => w6.heap.size ≤ j ∧ j < w8r.heap.size) fun j hj => by have : j = w8.heap.size := hj; omega) hal9 (by rw [Hna.out]; exact hown9) hgr9 hpl9
        rw [← Htk.out] at hkd9
        have hgc9 : Chg (fun j => (Value.slice q0 n0 cap0).ownBlock = some j) w10 w9 := (Chg.refl _ _).grown hgr9 fun j hj => .inl hj
        have h610 := h68.trans hal9
        have h69 : Chg (fun j => (Value.slice q0 n0 cap0).ownBlock = some j) w6 w9 := (h610.mono fun _ _ x => x.elim).trans hgc9
        have hch9 : Chg (fun y => y = wb) w3 w9 := by
          have h1 : Chg (fun y => y = wb) w3 w6 := Hch.out.trans (Hal6.out.mono fun _ _ => False.elim)
          refine ⟨h69.os.trans h1.os, h69.tape.trans h1.tape, h69.output.trans h1.output, Nat.le_trans h1.size h69.size, fun y hy hne => ?_⟩
          rw [h69.block y (Nat.lt_of_lt_of_le hy h1.size) fun e => by have := HL.out y e; have := Hs3.out; omega]
          exact h1.block y hy hne
        obtain ⟨r9, s9, t9, e9⟩ := hkd9.shape2
        exact ⟨Lib.hid hkd9, Lib.hid hch9, Lib.hid (row_kept h69 Hob6.out fun e => by have := HL.out wb e; have := Hord.out; omega), r9, s9, t9, e9⟩
      have Hstep := Lib.hid hstep
      clear hib hw6 hacc hna hown hrow hlo6 htx hty hownK hstep Hkd Hob
      go_upto_region 5 with fail
      rw [Hw6.out, ← Hib.out]
      have hdr : Chg NoB w6 w6.drew := (Chg.refl NoB w6).drew
      obtain ⟨o0, o1, o2⟩ := var3 hob6
      have d0 := hdr.keep a0
      have d1 := hdr.keep a1
      have d2 := hdr.keep o2
      clear c0 c1 hob6 hb6 hal6
      go_region_law (first
        | (go_simp; go_at_call 37; refine (ratom_any (tx x) w6.drew).mono ?_; rintro e w7 ⟨rfl, hc7'⟩; have hc7 : Chg NoB w6 w7 := hdr.trans hc7'; have g0 := hc7.keep a0; have g1 := hc7.keep a1; have g2 := hc7.keep o2)
        | (go_simp; go_at_call 37; refine (ratom_any (tx y) w7).mono ?_; rintro e w8 ⟨rfl, hc8'⟩; have hc8 := hc7.trans hc8'; have h2 := hc8.keep o2; have hc8r := hc8.alloc (.cells #[.bool true, .string (tx x), .slice none 0 0, .bool true, .string (tx y), .slice none 0 0] 39); have k2 := hc8r.keep o2; have hc10 := hc8r.alloc (.cells #[.bool false, .string ⟨#[]⟩, .slice (some ⟨w8.heap.size, 0, none⟩) 2 2] 39); have l2 := hc10.keep o2; have Hc8 := Lib.hid hc8; have Hown10 := HownK.out _ hc10; have Hb10 := Lib.hid (Nat.le_trans Hlo6.out hc10.size))
        | (refine step_append_at (by rfl) _ (.tmp 15) (.tmp 24) 37 (by rfl) lo 39 i0 (.agg #[.bool false, .string ⟨#[]⟩, .slice none 0 0]) 3 48 Tryz.underlying37 Hi.out Hz0.out Hz1.out Hz2.out rfl (by decide) _ k _ (by rfl) Hown10.out ⟨w8.heap.size + 1, 0, none⟩ 1 1 [.bool false, .string ⟨#[]⟩, .slice (some ⟨w8.heap.size, 0, none⟩) 2 2] (by rfl) rfl (lit3s w8 _ _ _ _) (one3 _ _ _ _ _) M1.out M2.out Hb10.out ?_; intro v11 w11 hown11 hgr11 hpl11; obtain ⟨Hkd11, Hch11, Hob11, r11, s11, t11, e11⟩ := Hstep.out w8 Hc8.out v11 w11 hown11 hgr11 hpl11; subst e11; obtain ⟨p0, p1, p2⟩ := var3 Hob11.out; have pf := row_free Hob11.out; clear hown11 hgr11 hpl11))
      all_goals
        clear a0 a1 d0 d1 d2 o0 o1 o2 hdr p0 p1 p2 pf
        try clear g0
        try clear g1
        try clear g2
        clear h2 k2 l2 hc7 hc8 hc8r hc10
        go_wp2_with fail
        go_roundw
        case rel =>
          have hsc : Chg (fun y => y = wb) w11 (w11.setCell ⟨wb, 2, none⟩ (.slice r11 s11 t11)) := (Chg.refl (fun y => y = wb) w11).setCell (p := ⟨wb, 2, none⟩) (.inl rfl) (.slice r11 s11 t11)
          exact ⟨k + 1, .slice r11 s11 t11, by omega, by go_num, heap_set Hob11.out (i := 2) (.slice r11 s11 t11), Hkd11.out.keep hsc fun y _ h1 e => by have : y = wb := e; have := Hord.out; omega, Hch11.out.trans hsc⟩
        case measure => simp [intOf]; omega
    · obtain rfl : k = len := by omega
      have htk : (d.ins.map inputF).take k = d.ins.map inputF := by rw [Hlen.out]; exact List.take_of_length_le (by rw [List.length_map]; exact Nat.le_refl _)
      rw [htk] at Hkd
      obtain ⟨q0, n0, cap0, hu6⟩ := Hkd.out.shape2
      subst hu6
      obtain ⟨nb, no, hnds⟩ := Hkd.out.nds
      have hvb := row_kept Hch.out Hv3.out (by have := Hord.out; omega)
      have hrr := row_kept Hch.out Hr3.out (by have := Hord.out; omega)
      obtain ⟨f0, f1, f2, f3, f4, f5⟩ := var6 hvb
      obtain ⟨o0, o1, o2⟩ := var3 Hob.out
      have Hvb := Lib.hid hvb
      have Hrr := Lib.hid hrr
      have Hnds := Lib.hid hnds
      obtain ⟨tv, htv⟩ : ∃ t, t = Ver.dotL da.toNat db.toNat dc.toNat := ⟨_, rfl⟩
      have htl : tv.length ≤ 11 := by rw [htv, ← Hda.out, ← Hdb.out, ← Hdc.out]; exact dot_len Hgood.out.2.1
      have Htv := Lib.hid htv
      have hnl : name.length ≤ 65536 := by rw [← Hnm.out]; exact Hw.out.name
      have htol : tool.length ≤ 65536 := by rw [← Htl.out]; exact Hw.out.tool
      have Z1 := Lib.hid (show (tx name).size ≤ maxLen by rw [tx_size]; unfold maxLen; omega)
      have Z2 := Lib.hid (show (tx tv).size ≤ maxLen by rw [tx_size]; unfold maxLen; omega)
      have Z3 := Lib.hid (show (tx tool).size ≤ maxLen by rw [tx_size]; unfold maxLen; omega)
      have Z0 := Lib.hid (show (⟨#[100, 114, 118]⟩ : ByteArray).size ≤ maxLen by decide)
      have Hnode : Hid (nodeD d = .mk false ⟨#[]⟩ [.mk true ⟨#[100, 114, 118]⟩ [], .mk true (tx name) [], .mk true (tx tv) [], .mk true (tx tool) [], .mk false ⟨#[]⟩ (d.ins.map inputF)]) := Lib.hid (by
        rw [Htv.out, ← Hnm.out, ← Htl.out, ← Hda.out, ← Hdb.out, ← Hdc.out]
        rfl)
      clear htl htv hnl htol
      have hdr : Chg NoB wr wr.drew := (Chg.refl NoB wr).drew
      have K1 := Lib.hid (show ¬ vb = rb by have := Hord.out; omega)
      have K2 := Lib.hid (show ¬ wb = rb by have := Hord.out; omega)
      have hS : ∀ w', Chg (fun y => y = rb) wr w' → (w'.cell? ⟨vb, 0, none⟩ = some (.string (tx name)) ∧ w'.cell? ⟨vb, 1, none⟩ = some (.int .i64 da) ∧ w'.cell? ⟨vb, 2, none⟩ = some (.int .i64 db) ∧ w'.cell? ⟨vb, 3, none⟩ = some (.int .i64 dc) ∧ w'.cell? ⟨vb, 4, none⟩ = some (.string (tx tool)) ∧ w'.cell? ⟨wb, 0, none⟩ = some (.bool false) ∧ w'.cell? ⟨wb, 1, none⟩ = some (.string ⟨#[]⟩) ∧ w'.cell? ⟨wb, 2, none⟩ = some (.slice q0 n0 cap0)) := fun w' h => ⟨h.cell f0 K1.out, h.cell f1 K1.out, h.cell f2 K1.out, h.cell f3 K1.out, h.cell f4 K1.out, h.cell o0 K2.out, h.cell o1 K2.out, h.cell o2 K2.out⟩
      have hS' := fun w' (h : Chg NoB wr w') => hS w' (h.mono fun _ _ => False.elim)
      have HS := Lib.hid hS'
      have HSr := Lib.hid hS
      have hA := hS' wr (Chg.refl _ _)
      have hA2 := hS' _ hdr
      clear hS hS' hvb hrr hnds f0 f1 f2 f3 f4 f5 o0 o1 o2
      go_wp2_with fail
      go_region_held3 (fun w' => w'.cell? ⟨vb, 0, none⟩ = some (.string (tx name)) ∧ w'.cell? ⟨vb, 1, none⟩ = some (.int .i64 da) ∧ w'.cell? ⟨vb, 2, none⟩ = some (.int .i64 db) ∧ w'.cell? ⟨vb, 3, none⟩ = some (.int .i64 dc) ∧ w'.cell? ⟨vb, 4, none⟩ = some (.string (tx tool)) ∧ w'.cell? ⟨wb, 0, none⟩ = some (.bool false) ∧ w'.cell? ⟨wb, 1, none⟩ = some (.string ⟨#[]⟩) ∧ w'.cell? ⟨wb, 2, none⟩ = some (.slice q0 n0 cap0))
        (first | exact hA | exact hA2 | exact hB | exact hC | exact hD | exact hE | exact hF | exact hG | exact hJ)
        (first
          | (go_at_call 37; refine (ratom_any ⟨#[100, 114, 118]⟩ wr.drew).mono ?_; rintro e w9 ⟨rfl, hc9'⟩; have hc9 : Chg NoB wr w9 := hdr.trans hc9'; have hB := HS.out _ hc9)
          | (go_at_call 37; refine (ratom_any (tx name) w9).mono ?_; rintro e w10 ⟨rfl, hc10'⟩; have hc10 := hc9.trans hc10'; have hC := HS.out _ hc10)
          | (go_at_call 38; refine (vtextR_any da db dc base w10 (Hl.out.keep (Hcw.out.trans hc10)) (by rw [← Hda.out, ← Hdb.out, ← Hdc.out]; exact Hgood.out.2.1)).mono ?_; rintro e w11 ⟨rfl, hc11'⟩; rw [← Htv.out]; have hc11 := hc10.trans hc11'; have hD := HS.out _ hc11)
          | (go_at_call 37; refine (ratom_any (tx tv) w11).mono ?_; rintro e w12 ⟨rfl, hc12'⟩; have hc12 := hc11.trans hc12'; have hE := HS.out _ hc12)
          | (go_at_call 37; refine (ratom_any (tx tool) w12).mono ?_; rintro e w13 ⟨rfl, hc13'⟩; have hc13 := hc12.trans hc13'; have hF := HS.out _ hc13; have hc14 := hc13.alloc (.cells #[.bool true, .string ⟨#[100, 114, 118]⟩, .slice none 0 0, .bool true, .string (tx name), .slice none 0 0, .bool true, .string (tx tv), .slice none 0 0, .bool true, .string (tx tool), .slice none 0 0, .bool false, .string ⟨#[]⟩, .slice q0 n0 cap0] 39); have hG := HS.out _ hc14; obtain ⟨r0, r1, r2⟩ := var3 (row_kept hc14 Hrr.out id); have rf := row_free (row_kept hc14 Hrr.out id); have Hc13 := Lib.hid hc13; have hJ := HSr.out _ ((hc14.mono fun _ _ => False.elim).trans (st3 _ (g := rb) 0 (.bool false) (.string ⟨#[]⟩) (.slice (some ⟨w13.heap.size, 0, none⟩) 5 5)))))
      all_goals
        clear hA hA2 hB hC hD hE hF hG hJ hdr
        try clear hHeld
        go_wp2_with fail
        have hn14 := nds_five (w := w13) ⟨#[100, 114, 118]⟩ (tx name) (tx tv) (tx tool) Z0.out Z1.out Z2.out Z3.out (Hnds.out.keep Hc13.out fun _ _ => id)
        have hrr14 := row_kept hc14 Hrr.out id
        have hsz14 := alloc_size w13 (.cells #[.bool true, .string ⟨#[100, 114, 118]⟩, .slice none 0 0, .bool true, .string (tx name), .slice none 0 0, .bool true, .string (tx tv), .slice none 0 0, .bool true, .string (tx tool), .slice none 0 0, .bool false, .string ⟨#[]⟩, .slice q0 n0 cap0] 39)
        generalize w13.alloc (.cells #[.bool true, .string ⟨#[100, 114, 118]⟩, .slice none 0 0, .bool true, .string (tx name), .slice none 0 0, .bool true, .string (tx tv), .slice none 0 0, .bool true, .string (tx tool), .slice none 0 0, .bool false, .string ⟨#[]⟩, .slice q0 n0 cap0] 39) = w14 at *
        have hbx := box3 hrr14 (.bool false) (.string ⟨#[]⟩) (.slice (some ⟨w13.heap.size, 0, none⟩) 5 5)
        obtain ⟨e0, e1, e2⟩ := var3 hbx
        have hwr : w.heap.size ≤ rb := by have := Hord.out; omega
        have hfin := box3_chg (b := rb) (Hcw.out.trans hc14) hwr (.bool false) (.string ⟨#[]⟩) (.slice (some ⟨w13.heap.size, 0, none⟩) 5 5)
        have hst := st3 w14 (g := rb) 0 (.bool false) (.string ⟨#[]⟩) (.slice (some ⟨w13.heap.size, 0, none⟩) 5 5)
        have hz13 := Hc13.out.size
        have hzr : lo ≤ wr.heap.size := Hkd.out.1
        have hzf := hst.size
        have hnf := hn14.keep hst fun y hy e => by have h2 : y = rb := e; have := Hord.out; rcases hy with hy | hy <;> omega
        generalize ((w14.setCell ⟨rb, 0, none⟩ (.bool false)).setCell ⟨rb, 0 + 1, none⟩ (.string ⟨#[]⟩)).setCell ⟨rb, 0 + 2, none⟩ (.slice (some ⟨w13.heap.size, 0, none⟩) 5 5) = wf at *
        refine bodyPost_ret (v := .agg #[.bool false, .string ⟨#[]⟩, .slice (some ⟨w13.heap.size, 0, none⟩) 5 5]) (by simp [results, Tryz.results16, go_sem, e0, e1, e2]) rfl ⟨hfin, _, rfl, ?_⟩
        rw [Hnode.out]
        refine ⟨Nat.zero_le _, _, _, _, rfl, hnf.mono fun y hy => ?_⟩
        have := Hord.out
        have := Hcw.out.size
        exact (show w.heap.size ≤ y ∧ y < wf.heap.size by rcases hy with hy | hy <;> omega)
end Go.Proofs.YtnipiphhkcafhaaGreatDoor
