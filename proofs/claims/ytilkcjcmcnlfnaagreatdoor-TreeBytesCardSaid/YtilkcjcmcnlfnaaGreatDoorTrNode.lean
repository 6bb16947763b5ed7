/- The contracts of the document's Node and Encode of a tree. Conditions: at most 2^20 files; as a node at most 2^20 bytes. -/
import Derived.Test.YtilkcjcmcnlfnaaGreatDoorTrDm
import Derived.Test.YtilkcjcmcnlfnaaGreatDoorTrRg
import Derived.Test.YtilkcjcmcnlfnaaGreatDoorWrRef
namespace Go.Proofs.YtilkcjcmcnlfnaaGreatDoor
set_option linter.unusedVariables false
open Go.ChangeShapes Go.WideShapes Go.ChangeAt Go.RowKit
theorem inp_sizes {l : List FileL} {x : FileL} (h : x ∈ l) : x.1.length + x.2.length ≤ (treeN l).count := by
  have h1 : inputF x ∈ l.map inputF := List.mem_map_of_mem h
  have h2 := cnt_mem h1
  have h3 : Nd.counts (l.map inputF) ≤ (treeN l).count := (cnt_parts (treeN l)).2
  have h4 : x.1.length + x.2.length ≤ (inputF x).count := by
    unfold inputF
    rw [Nd.count, Nd.counts, Nd.counts, Nd.counts, atom_cnt, atom_cnt]
    omega
  omega
theorem tree_len (l : List FileL) : l.length ≤ (treeN l).count := by
  have h3 : Nd.counts (l.map inputF) ≤ (treeN l).count := (cnt_parts (treeN l)).2
  have h4 := cnt_len (l.map inputF)
  rw [List.length_map] at h4
  omega
theorem lit3s (w : World) (h : Obj) (a : Bool) (b : ByteArray) (s : Value) : ∀ (j : Nat) (u : Value), [Value.bool a, .string b, s][j]? = some u → ((w.alloc h).alloc (.cells #[.bool a, .string b, s] 71)).cell? ((⟨w.heap.size + 1, 0, none⟩ : Addr).add j) = some u := by
  have := lit3 (w.alloc h) (.bool a) (.string b) s 71
  rwa [alloc_size] at this
theorem one3b (a : Bool) (b : ByteArray) (q : Option Addr) (n c : Nat) : ∀ u ∈ [Value.bool a, .string b, .slice q n c], u.oneCell' = true := by
  intro u hu
  simp only [List.mem_cons, List.not_mem_nil, or_false] at hu
  rcases hu with rfl | rfl | rfl <;> rfl
set_option maxHeartbeats 8000000 in
set_option maxRecDepth 20000 in
theorem tnode_any (l : List FileL) (hc : (treeN l).count ≤ 1048576) (S : Nat → Prop) (v : Value) (kb ko : Nat) (w : World) (hs : InpS w S v l kb ko) :
    Calls Tryz.prog 62 #[.agg #[v]] w fun e w' => Chg NoB w w' ∧ ∃ v', e = .returned v' ∧ NdV w' (NewB w w') v' (treeN l) := by
  obtain ⟨⟨q, c, rfl, h1, h2, h3⟩, hat⟩ := hs
  have hl := tree_len l
  have Hsz := Lib.hid (fun x (hx : x ∈ l) => inp_sizes hx)
  have Hcc := Lib.hid hc
  obtain ⟨len, hle⟩ : ∃ n, n = l.length := ⟨_, rfl⟩
  rw [← hle] at h1 hl ⊢
  have hlb : len ≤ 1048576 := by omega
  have Hlen := Lib.hid hle
  have H3 := Lib.hid h3
  have Hat := Lib.hid hat
  unfold maxLen at h2
  clear hle h3 hat hc hl
  have hal_ := (Chg.refl NoB w).alloc (.cells #[.slice q len c] 26)
  have hb_ := heap_alloc_new w (.cells #[.slice q len c] 26)
  obtain ⟨tb, hxb_⟩ : ∃ b, b = w.heap.size := ⟨_, rfl⟩
  obtain ⟨w1, hw_⟩ : ∃ w_, w.alloc (.cells #[.slice q len c] 26) = w_ := ⟨_, rfl⟩
  have hz_ : w1.heap.size = tb + 1 := by rw [← hw_, hxb_]; exact alloc_size _ _
  rw [hw_] at hal_ hb_
  rw [← hxb_] at hb_
  have Hw1 := Lib.hid hw_
  have Hx1 := Lib.hid hxb_
  have Ha1 := Lib.hid hal_
  have Hb1 := Lib.hid hb_
  have Hz1 := Lib.hid hz_
  clear hal_ hb_ hxb_ hw_ hz_
  have hal_ := (Chg.refl NoB w1).alloc (.cells #[.bool false, .string ⟨#[]⟩, .slice none 0 0] 71)
  have hb_ := heap_alloc_new w1 (.cells #[.bool false, .string ⟨#[]⟩, .slice none 0 0] 71)
  obtain ⟨rb, hxb_⟩ : ∃ b, b = w1.heap.size := ⟨_, rfl⟩
  obtain ⟨w2, hw_⟩ : ∃ w_, w1.alloc (.cells #[.bool false, .string ⟨#[]⟩, .slice none 0 0] 71) = w_ := ⟨_, rfl⟩
  have hz_ : w2.heap.size = rb + 1 := by rw [← hw_, hxb_]; exact alloc_size _ _
  rw [hw_] at hal_ hb_
  rw [← hxb_] at hb_
  have Hw2 := Lib.hid hw_
  have Hx2 := Lib.hid hxb_
  have Ha2 := Lib.hid hal_
  have Hb2 := Lib.hid hb_
  have Hz2 := Lib.hid hz_
  clear hal_ hb_ hxb_ hw_ hz_
  have hal_ := (Chg.refl NoB w2).alloc (.cells #[.bool false, .string ⟨#[]⟩, .slice none 0 0] 71)
  have hb_ := heap_alloc_new w2 (.cells #[.bool false, .string ⟨#[]⟩, .slice none 0 0] 71)
  obtain ⟨nb, hxb_⟩ : ∃ b, b = w2.heap.size := ⟨_, rfl⟩
  obtain ⟨w3, hw_⟩ : ∃ w_, w2.alloc (.cells #[.bool false, .string ⟨#[]⟩, .slice none 0 0] 71) = w_ := ⟨_, rfl⟩
  have hz_ : w3.heap.size = nb + 1 := by rw [← hw_, hxb_]; exact alloc_size _ _
  rw [hw_] at hal_ hb_
  rw [← hxb_] at hb_
  have Hw3 := Lib.hid hw_
  have Hx3 := Lib.hid hxb_
  have Ha3 := Lib.hid hal_
  have Hb3 := Lib.hid hb_
  have Hz3 := Lib.hid hz_
  clear hal_ hb_ hxb_ hw_ hz_
  have Hr3 := Lib.hid (row_kept Ha3.out Hb2.out id)
  have Ht3 := Lib.hid (row_kept Ha3.out (row_kept Ha2.out Hb1.out id) id)
  have Hc3 := Lib.hid (Ha1.out.trans (Ha2.out.trans Ha3.out))
  obtain ⟨lo, hlo⟩ : ∃ lo, lo = w3.heap.size := ⟨_, rfl⟩
  have Hord := Lib.hid (show w.heap.size ≤ tb ∧ tb < rb ∧ rb < nb ∧ nb < lo ∧ w.heap.size ≤ rb by have := Hz1.out; have := Hz2.out; have := Hz3.out; have := Hx1.out; have := Hx2.out; have := Hx3.out; omega)
  have Hlo := Lib.hid hlo
  have hkb0 : Kb w3 lo (.slice none 0 0) ((l.map inputF).take 0) := Kb.nil _ _ (by omega)
  have Hkb0 := Lib.hid hkb0
  obtain ⟨i0, hi, hz0, hz1, hz2⟩ := info_parts nodeInfo
  have Hi := Lib.hid hi
  have Hz0 := Lib.hid hz0
  have Hzb1 := Lib.hid hz1
  have Hzb2 := Lib.hid hz2
  clear hkb0 hlo hi hz0 hz1 hz2
  go_enter Tryz.func62, Tryz.ntmps62
  go_upto_region 1 with fail
  rw [Hw1.out, Hw2.out, ← Hx1.out]
  have hx2 : tb + 1 = rb := by rw [Hx2.out, Hz1.out]
  rw [hx2]
  go_upto_region 2 with fail
  rw [Hw3.out, ← Hx3.out]
  clear hx2
  have f0 := var1 Ht3.out
  go_wp2_with fail
  clear f0
  go_loopw [12] (fun i wr => ∃ (k : Nat) (lv : Value), k ≤ len ∧ i = .int .i64 k ∧ wr.heap[nb]? = some (.cells #[.bool false, .string ⟨#[]⟩, lv] 71 (0, 0)) ∧ Kb wr lo lv ((l.map inputF).take k) ∧ Chg (fun y => y = nb) w3 wr) (fun i _ => len - (intOf i).toNat)
  case atStart => exact ⟨0, _, Nat.zero_le _, rfl, Hb3.out, Hkb0.out, Chg.refl _ _⟩
  case round =>
    obtain ⟨k, lv, hk, rfl, hob, hkd, hch⟩ := hrel
    have Hkd := Lib.hid hkd
    have Hch := Lib.hid hch
    have Hob := Lib.hid hob
    have hcw : Chg NoB w wr := Hc3.out.above hch fun y hy => by have h : y = nb := hy; have := Hord.out; omega
    have Hcw := Lib.hid hcw
    have Hrr := Lib.hid (row_kept hch Hr3.out (by have := Hord.out; omega))
    obtain ⟨q0, n0, cap0, hu6⟩ : ∃ q n cap, lv = Value.slice q n cap := hkd.shape2
    subst hu6
    clear hkd hch hob hcw Hkb0
    by_cases hlt : k < len
    · have hlt' : k < l.length := by rw [← Hlen.out]; exact hlt
      obtain ⟨rfl, -⟩ := H3.out (by intro e; rw [e] at hlt'; simp at hlt')
      obtain ⟨c0, c1⟩ := Hat.out k hlt'
      have c0 := Hcw.out.keep c0
      have c1 := Hcw.out.keep c1
      have Htk : Hid ((l.map inputF).take (k + 1) = (l.map inputF).take k ++ [inputF l[k]]) := Lib.hid (by
        rw [List.take_add_one, List.getElem?_eq_getElem (by rw [List.length_map]; exact hlt'), List.getElem_map]; rfl)
      have Hwx := Lib.hid (Hsz.out l[k] (List.getElem_mem hlt'))
      generalize l[k] = x at *
      obtain ⟨x, y⟩ := x
      simp only at c0 c1 Hwx
      obtain ⟨acc, hacc⟩ : ∃ acc, acc = (l.map inputF).take k := ⟨_, rfl⟩
      rw [← hacc] at Hkd Htk
      have hna : acc.length = k := by rw [hacc, List.length_take, List.length_map, ← Hlen.out]; omega
      have Hna := Lib.hid hna
      have hal_ := (Chg.refl NoB wr).alloc (.cells #[.string (tx x), .string (tx y)] 33)
      have hb_ := heap_alloc_new wr (.cells #[.string (tx x), .string (tx y)] 33)
      obtain ⟨fb, hxb_⟩ : ∃ b, b = wr.heap.size := ⟨_, rfl⟩
      obtain ⟨w4, hw_⟩ : ∃ w_, wr.alloc (.cells #[.string (tx x), .string (tx y)] 33) = w_ := ⟨_, rfl⟩
      have hz_ : w4.heap.size = fb + 1 := by rw [← hw_, hxb_]; exact alloc_size _ _
      rw [hw_] at hal_ hb_
      rw [← hxb_] at hb_
      have Hw4 := Lib.hid hw_
      have Hx4 := Lib.hid hxb_
      have Ha4 := Lib.hid hal_
      have Hb4 := Lib.hid hb_
      have Hz4 := Lib.hid hz_
      clear hal_ hb_ hxb_ hw_ hz_
      have hal_ := (Chg.refl NoB w4).alloc (.cells #[.bool true, .string (tx x), .slice none 0 0] 71)
      have hb_ := heap_alloc_new w4 (.cells #[.bool true, .string (tx x), .slice none 0 0] 71)
      obtain ⟨pb, hxb_⟩ : ∃ b, b = w4.heap.size := ⟨_, rfl⟩
      obtain ⟨w5, hw_⟩ : ∃ w_, w4.alloc (.cells #[.bool true, .string (tx x), .slice none 0 0] 71) = w_ := ⟨_, rfl⟩
      have hz_ : w5.heap.size = pb + 1 := by rw [← hw_, hxb_]; exact alloc_size _ _
      rw [hw_] at hal_ hb_
      rw [← hxb_] at hb_
      have Hw5 := Lib.hid hw_
      have Hx5 := Lib.hid hxb_
      have Ha5 := Lib.hid hal_
      have Hb5 := Lib.hid hb_
      have Hz5 := Lib.hid hz_
      clear hal_ hb_ hxb_ hw_ hz_
      have hal_ := (Chg.refl NoB w5).alloc (.cells #[.bool true, .string (tx y), .slice none 0 0] 71)
      have hb_ := heap_alloc_new w5 (.cells #[.bool true, .string (tx y), .slice none 0 0] 71)
      obtain ⟨qb, hxb_⟩ : ∃ b, b = w5.heap.size := ⟨_, rfl⟩
      obtain ⟨w6, hw_⟩ : ∃ w_, w5.alloc (.cells #[.bool true, .string (tx y), .slice none 0 0] 71) = w_ := ⟨_, rfl⟩
      have hz_ : w6.heap.size = qb + 1 := by rw [← hw_, hxb_]; exact alloc_size _ _
      rw [hw_] at hal_ hb_
      rw [← hxb_] at hb_
      have Hw6 := Lib.hid hw_
      have Hx6 := Lib.hid hxb_
      have Ha6 := Lib.hid hal_
      have Hb6 := Lib.hid hb_
      have Hz6 := Lib.hid hz_
      clear hal_ hb_ hxb_ hw_ hz_
      have hc46 := Ha4.out.trans (Ha5.out.trans Ha6.out)
      have Hc46 := Lib.hid hc46
      have Hob6 := Lib.hid (row_kept hc46 Hob.out id)
      have Hf4 := Hb4
      have Hf5 := Lib.hid (row_kept Ha5.out Hb4.out id)
      have Hp6 := Lib.hid (row_kept Ha6.out Hb5.out id)
      have hkd6 := Hkd.out.keep (T := NoB) hc46 fun _ _ _ => id
      obtain ⟨hlo6, xs, hown, hrow⟩ := hkd6
      have Hown := Lib.hid hown
      have Hrow := Lib.hid hrow
      have Hlo6 := Lib.hid hlo6
      have HN := Lib.hid (show ∀ j, (Value.slice q0 n0 cap0).ownBlock = some j → j < w6.heap.size from fun j hj => (hown.lt j hj).2)
      have HL := Lib.hid (show ∀ j, (Value.slice q0 n0 cap0).ownBlock = some j → lo ≤ j from fun j hj => (hown.lt j hj).1)
      have htx : (tx x).size ≤ maxLen := by rw [tx_size]; unfold maxLen; have := Hwx.out; have := Hcc.out; omega
      have hty : (tx y).size ≤ maxLen := by rw [tx_size]; unfold maxLen; have := Hwx.out; have := Hcc.out; omega
      have Htwo := Lib.hid (nds_two w6 (tx x) (tx y) htx hty)
      have M1 := Lib.hid (show k + 1 ≤ maxLen by unfold maxLen; omega)
      have M2 := Lib.hid (show (k + 1) * 48 ≤ 140737488355328 by omega)
      have hal7 := (Chg.refl NoB w6).alloc (.cells #[.bool true, .string (tx x), .slice none 0 0, .bool true, .string (tx y), .slice none 0 0] 71)
      have hal8 := (Chg.refl NoB (w6.alloc (.cells #[.bool true, .string (tx x), .slice none 0 0, .bool true, .string (tx y), .slice none 0 0] 71))).alloc (.cells #[.bool false, .string ⟨#[]⟩, .slice (some ⟨w6.heap.size, 0, none⟩) 2 2] 71)
      have Hal7 := Lib.hid hal7
      have Hal8 := Lib.hid hal8
      have Hown8 : Hid (World.ownsRow ((w6.alloc (.cells #[.bool true, .string (tx x), .slice none 0 0, .bool true, .string (tx y), .slice none 0 0] 71)).alloc (.cells #[.bool false, .string ⟨#[]⟩, .slice (some ⟨w6.heap.size, 0, none⟩) 2 2] 71)) lo 71 3 (.slice q0 n0 cap0) k xs) := Lib.hid (by have := ownsRow_chg hown (hal7.trans hal8) fun _ _ => id; rwa [hna] at this)
      have Hlz : Hid (lo ≤ ((w6.alloc (.cells #[.bool true, .string (tx x), .slice none 0 0, .bool true, .string (tx y), .slice none 0 0] 71)).alloc (.cells #[.bool false, .string ⟨#[]⟩, .slice (some ⟨w6.heap.size, 0, none⟩) 2 2] 71)).heap.size) := Lib.hid (Nat.le_trans hlo6 (hal7.trans hal8).size)
      clear hc46 hown hrow hlo6 htx hty hacc hna hal7 hal8 hlt'
      go_upto_region 5 with fail
      rw [Hw4.out, ← Hx4.out]
      clear c0 c1
      have c0 := (var2 Hb4.out).1
      go_upto_region 6 with fail
      rw [Hw5.out, ← Hx5.out]
      clear c0
      have c1 := (var2 Hf5.out).2
      go_upto_region 7 with fail
      rw [Hw6.out, ← Hx6.out]
      clear c1
      obtain ⟨p0, p1, p2⟩ := var3 Hp6.out
      obtain ⟨d0, d1, d2⟩ := var3 Hb6.out
      have o2 := (var3 Hob6.out).2.2
      go_wp2_with (at_builtin; refine wpList_append_at _ rfl (.tmp 23) (.tmp 28) 69 rfl lo 71 i0 (.agg #[.bool false, .string ⟨#[]⟩, .slice none 0 0]) 3 48 Tryz.underlying69 Hi.out Hz0.out Hzb1.out Hzb2.out rfl (by decide) _ k _ rfl Hown8.out _ 1 1 [.bool false, .string ⟨#[]⟩, .slice (some ⟨w6.heap.size, 0, none⟩) 2 2] rfl rfl (by first | exact lit3s w6 _ _ _ _ | exact lit3 _ _ _ _ _) (one3b _ _ _ _ _) M1.out M2.out Hlz.out ?_)
      intro v9 w9 hown9 hgr9 hpl9
      obtain ⟨r9, s9, e9, -, -⟩ := row_shape hown9
      subst e9
      have hs9 : NdS (w6.alloc (.cells #[.bool true, .string (tx x), .slice none 0 0, .bool true, .string (tx y), .slice none 0 0] 71)) (fun j => w6.heap.size ≤ j ∧ j < (w6.alloc (.cells #[.bool true, .string (tx x), .slice none 0 0, .bool true, .string (tx y), .slice none 0 0] 71)).heap.size) (.slice (some ⟨w6.heap.size, 0, none⟩) 2 2) (inputF (x, y)).kids w6.heap.size 0 := Htwo.out.mono fun j hj => by rw [alloc_size, hj]; omega
      have hrow7 := Hrow.out.keep (S' := KbS lo (.slice q0 n0 cap0) (w6.alloc (.cells #[.bool true, .string (tx x), .slice none 0 0, .bool true, .string (tx y), .slice none 0 0] 71))) Hal7.out (fun _ _ => id) fun j hj => ⟨⟨hj.1.1, Nat.lt_of_lt_of_le hj.1.2 Hal7.out.size⟩, hj.2⟩
      have hkd9 : Kb w9 lo (.slice r9 (k + 1) s9) (acc ++ [inputF (x, y)]) := Kb.push (n := inputF (x, y)) HN.out Hlo6.out Hal7.out.size hrow7 (Nat.zero_le _) hs9 Hal8.out (by rw [Hna.out]; exact hown9) hgr9 (by rw [alloc_size, alloc_size]; exact hpl9)
      rw [← Htk.out] at hkd9
      have hgc9 : Chg (fun j => (Value.slice q0 n0 cap0).ownBlock = some j) _ w9 := (Chg.refl _ _).grown hgr9 fun j hj => .inl hj
      have h69 : Chg (fun j => (Value.slice q0 n0 cap0).ownBlock = some j) w6 w9 := ((Hal7.out.trans Hal8.out).mono fun _ _ x => x.elim).trans hgc9
      have hch9 : Chg (fun y => y = nb) w3 w9 := by
        have h1 : Chg (fun y => y = nb) w3 w6 := Hch.out.trans (Hc46.out.mono fun _ _ => False.elim)
        refine ⟨h69.os.trans h1.os, h69.tape.trans h1.tape, h69.output.trans h1.output, Nat.le_trans h1.size h69.size, fun y hy hne => ?_⟩
        rw [h69.block y (Nat.lt_of_lt_of_le hy h1.size) fun e => by have := HL.out y e; have := Hlo.out; omega]
        exact h1.block y hy hne
      have hob9 := row_kept h69 Hob6.out fun e => by have := HL.out nb e; have := Hord.out; omega
      obtain ⟨g0, g1, g2⟩ := var3 hob9
      have gf := row_free hob9
      have Hkd9 := Lib.hid hkd9
      have Hch9 := Lib.hid hch9
      have Hob9 := Lib.hid hob9
      clear hown9 hgr9 hpl9 hs9 hrow7 hkd9 hgc9 h69 hch9 hob9 p0 p1 p2 d0 d1 d2 o2
      go_wp2_with fail
      go_roundw
      case rel =>
        have hsc : Chg (fun y => y = nb) w9 (w9.setCell ⟨nb, 2, none⟩ (.slice r9 (k + 1) s9)) := (Chg.refl (fun y => y = nb) w9).setCell (p := ⟨nb, 2, none⟩) (.inl rfl) _
        exact ⟨k + 1, .slice r9 (k + 1) s9, by omega, by go_num, heap_set Hob9.out (i := 2) _, Hkd9.out.keep hsc fun y _ hy e => by have h2 : y = nb := e; have := Hord.out; omega, Hch9.out.trans hsc⟩
      case measure => simp [intOf]; omega
    · obtain rfl : k = len := by omega
      have htk : (l.map inputF).take k = l.map inputF := by rw [Hlen.out]; exact List.take_of_length_le (by rw [List.length_map]; exact Nat.le_refl _)
      rw [htk] at Hkd
      obtain ⟨nb', no, hnds⟩ := Hkd.out.nds
      have Hnds := Lib.hid hnds
      obtain ⟨o0, o1, o2⟩ := var3 Hob.out
      obtain ⟨r0, r1, r2⟩ := var3 Hrr.out
      have rf := row_free Hrr.out
      clear htk hnds
      go_wp2_with fail
      obtain ⟨e0, e1, e2⟩ := var3 (box3 Hrr.out (.bool false) (.string ⟨#[]⟩) (.slice q0 n0 cap0))
      have hfin := box3_chg (b := rb) Hcw.out Hord.out.2.2.2.2 (.bool false) (.string ⟨#[]⟩) (.slice q0 n0 cap0)
      have hst := st3 wr (g := rb) 0 (.bool false) (.string ⟨#[]⟩) (.slice q0 n0 cap0)
      generalize ((wr.setCell ⟨rb, 0, none⟩ (.bool false)).setCell ⟨rb, 1, none⟩ (.string ⟨#[]⟩)).setCell ⟨rb, 2, none⟩ (.slice q0 n0 cap0) = wf at *
      refine bodyPost_ret (v := .agg #[.bool false, .string ⟨#[]⟩, .slice q0 n0 cap0]) (by simp [results, Tryz.results62, go_sem, e0, e1, e2]) rfl ⟨hfin, _, rfl, Nat.zero_le _, _, nb', no, rfl, ?_⟩
      have ho := Hord.out
      have hz := hst.size
      refine (Hnds.out.keep hst fun y hy e => ?_).mono fun y hy => ?_
      · have h1 := hy.1
        have h2 : y = rb := e
        omega
      · have h1 := hy.1
        have h2 := hy.2
        exact (show w.heap.size ≤ y ∧ y < wf.heap.size by omega)
set_option maxHeartbeats 4000000 in
set_option maxRecDepth 20000 in
theorem rencode_any (l : List FileL) (hl : l.length ≤ 1048576) (hw : ∀ x ∈ l, x.1.length ≤ 131072 ∧ x.2.length ≤ 131072) (S : Nat → Prop) (v : Value) (kb ko : Nat) (base : Nat) (w : World) (hlw : Lw base w) (hs : InpS w S v l kb ko) :
    Calls Tryz.prog 29 #[.agg #[v]] w fun e w' => Chg NoB w w' ∧ e = .returned (.tuple #[.string (encT l).1, .int .i64 (encT l).2]) := by
  have hs0 := hs
  obtain ⟨⟨q, c, rfl, h1, h2, h3⟩, hat⟩ := hs
  obtain ⟨ec, hec⟩ : ∃ x, x = encT l := ⟨_, rfl⟩
  rw [← hec]
  have Hec := Lib.hid hec
  have HG := Lib.hid (fun w' (h : Chg NoB w w') => rgood_any l hl (fun x hx => by have := hw x hx; omega) S _ kb ko w' (hs0.keep h fun _ _ => id))
  have HN := Lib.hid (fun (hc : (treeN l).count ≤ 1048576) w' (h : Chg NoB w w') => tnode_any l hc S _ kb ko w' (hs0.keep h fun _ _ => id))
  have Hl := Lib.hid hlw
  obtain ⟨gd, hgd⟩ : ∃ b, b = goodF l := ⟨_, rfl⟩
  rw [← hgd] at HG
  have Hgd := Lib.hid hgd
  obtain ⟨len, hle⟩ : ∃ n, n = l.length := ⟨_, rfl⟩
  rw [← hle] at HG HN hl ⊢
  have hal_ := (Chg.refl NoB w).alloc (.cells #[.slice q len c] 26)
  have hb_ := heap_alloc_new w (.cells #[.slice q len c] 26)
  obtain ⟨tb, hxb_⟩ : ∃ b, b = w.heap.size := ⟨_, rfl⟩
  obtain ⟨w1, hw_⟩ : ∃ w_, w.alloc (.cells #[.slice q len c] 26) = w_ := ⟨_, rfl⟩
  have hz_ : w1.heap.size = tb + 1 := by rw [← hw_, hxb_]; exact alloc_size _ _
  rw [hw_] at hal_ hb_
  rw [← hxb_] at hb_
  have Hw1 := Lib.hid hw_
  have Hx1 := Lib.hid hxb_
  have Ha1 := Lib.hid hal_
  have Hb1 := Lib.hid hb_
  have Hz1 := Lib.hid hz_
  clear hal_ hb_ hxb_ hw_ hz_
  have f0 := var1 Hb1.out
  clear hec hgd hs0 hlw hw hat h3 h1 h2 hle
  go_enter Tryz.func29, Tryz.ntmps29
  go_upto_region 1 with fail
  rw [Hw1.out, ← Hx1.out]
  go_wp2_with fail
  refine (HG.out _ Ha1.out).mono ?_
  rintro e w2 ⟨rfl, hc2⟩
  have Hc2 := Lib.hid (Ha1.out.trans hc2)
  have hb2 := row_kept hc2 Hb1.out id
  clear f0 hc2
  have f0 := var1 hb2
  clear hb2
  cases gd with
  | false =>
    have he : ec = (⟨#[]⟩, 1) := by rw [Hec.out]; unfold encT; rw [← Hgd.out]; rfl
    subst he
    go_wp2_with fail
    go_ret2
    exact ⟨Hc2.out, rfl⟩
  | true =>
    have hcnt := (tree_cnt Hgd.out.symm).2
    have HN2 := Lib.hid (HN.out (by omega) w2 Hc2.out)
    have Hcnt3 := Lib.hid (show (treeN l).count ≤ 1048576 by omega)
    clear hcnt
    go_wp2_with fail
    refine HN2.out.mono ?_
    rintro e w3 ⟨hc3, v3, rfl, hv3⟩
    have Hc3 := Lib.hid (Hc2.out.trans hc3)
    have Henc := Lib.hid ((encR_any (treeN l) Hcnt3.out (fun j => j < w3.heap.size) v3 w3 (hv3.mono fun j hj => hj.2) (fun j hj => hj) ((Hl.out.keep Hc3.out).top)).mono fun e w' h => h.val)
    have he : ec = encO (putN (treeN l) 0 []) := by rw [Hec.out]; unfold encT; rw [if_pos Hgd.out.symm]
    have He := Lib.hid he
    clear hc3 hv3 he
    go_wp2_with fail
    refine Henc.out.mono ?_
    rintro e w4 ⟨hc4, rfl⟩
    have Hc4 := Lib.hid (Hc3.out.trans hc4)
    clear hc4
    go_wp2_with fail
    go_ret2
    refine ⟨Hc4.out, ?_⟩
    rw [He.out]
    rfl
end Go.Proofs.YtilkcjcmcnlfnaaGreatDoor
