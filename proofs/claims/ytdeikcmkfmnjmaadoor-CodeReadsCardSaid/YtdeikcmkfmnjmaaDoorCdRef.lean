/- The document's Node: a program as a node. Condition: the list of powers reads as the program's text lays it. -/
import Derived.Test.YtdeikcmkfmnjmaaDoorCdGreat
namespace Go.Proofs.YtdeikcmkfmnjmaaDoor
set_option linter.unusedVariables false
open Go.ChangeShapes Go.WideShapes Go.ChangeAt Go.RowKit
theorem kb_one (w : World) (l : List UInt8) (hl : l.length ≤ maxLen) : Kb (w.alloc (.cells #[.bool true, .string (tx l), .slice none 0 0] 49)) w.heap.size (.slice (some ⟨w.heap.size, 0, none⟩) 1 1) [atomF l] := by
  refine ⟨by rw [alloc_size]; omega, _, World.ownsRow_lit (size := 3) w #[.bool true, .string (tx l), .slice none 0 0] 1 (Nat.le_refl _) (by decide) rfl, ?_⟩
  exact ⟨⟨rfl, rfl, by show (tx l).size ≤ _; rw [tx_size]; exact hl, 0, 0, NdS.nil _ _⟩, trivial⟩
theorem kb_two {w : World} {lo : Nat} {v : Value} {a b : List UInt8} (ha : a.length ≤ maxLen) (hb : b.length ≤ maxLen) (hl : lo ≤ w.heap.size) (h : w.ownsRow lo 49 3 v 2 [.bool true, .string (tx a), .slice none 0 0, .bool true, .string (tx b), .slice none 0 0]) : Kb w lo v [atomF a, atomF b] :=
  ⟨hl, _, h, ⟨rfl, rfl, by show (tx a).size ≤ _; rw [tx_size]; exact ha, 0, 0, NdS.nil _ _⟩, ⟨rfl, rfl, by show (tx b).size ≤ _; rw [tx_size]; exact hb, 0, 0, NdS.nil _ _⟩, trivial⟩
/- a list of one atom gets a second one -/
theorem grow_two {wr w9 wb : World} {N nb : Nat} {a b : List UInt8} {v2 : Value} (hc9 : Chg NoB wr w9) (hN : wr.heap.size ≤ N) (hnb : nb = N + 1) (ha : a.length ≤ maxLen) (hb : b.length ≤ maxLen)
    (hn9 : w9.heap[nb]? = some (.cells #[.bool false, .string ⟨#[]⟩, .slice (some ⟨N, 0, none⟩) 1 1] 49 (0, 0)))
    (hown : wb.ownsRow N 49 3 v2 2 [.bool true, .string (tx a), .slice none 0 0, .bool true, .string (tx b), .slice none 0 0])
    (hgr : (w9.alloc (.cells #[.bool true, .string (tx b), .slice none 0 0] 49)).grownBy wb (some N)) (hpl : v2.ownBlock = some N ∨ v2.ownBlock = some (w9.alloc (.cells #[.bool true, .string (tx b), .slice none 0 0] 49)).heap.size) :
    ∃ r s t, v2 = .slice r s t ∧ wb.heap[nb]? = some (.cells #[.bool false, .string ⟨#[]⟩, .slice (some ⟨N, 0, none⟩) 1 1] 49 (0, 0)) ∧ Chg NoB wr (wb.setCell ⟨nb, 2, none⟩ v2) ∧
      (wb.setCell ⟨nb, 2, none⟩ v2).heap[nb]? = some (.cells #[.bool false, .string ⟨#[]⟩, v2] 49 (0, 0)) ∧ Kb (wb.setCell ⟨nb, 2, none⟩ v2) N v2 [atomF a, atomF b] ∧ N ≤ (wb.setCell ⟨nb, 2, none⟩ v2).heap.size := by
  have hlt := lt_of_block hn9
  rw [alloc_size] at hpl
  have hal := (Chg.refl NoB w9).alloc (.cells #[.bool true, .string (tx b), .slice none 0 0] 49)
  have hza := hal.size
  have hna := row_kept hal hn9 id
  have hnB : wb.heap[nb]? = some (.cells #[.bool false, .string ⟨#[]⟩, .slice (some ⟨N, 0, none⟩) 1 1] 49 (0, 0)) := (hgr.block nb (by omega) (by intro e; simp at e; omega)).trans hna
  have hcb : Chg NoB wr wb := (hc9.trans hal).grown hgr fun k hk => .inr (by simp at hk; omega)
  have hzr := hc9.size
  have hcz := hcb.setCell (p := ⟨nb, 2, none⟩) (.inr (by show wr.heap.size ≤ nb; omega)) v2
  have hst : Chg (fun y => y = nb) wb (wb.setCell ⟨nb, 2, none⟩ v2) := (Chg.refl (fun y => y = nb) wb).setCell (p := ⟨nb, 2, none⟩) (.inl rfl) v2
  have hoz := ownsRow_chg hown hst fun k hk e => by
    have e' : k = nb := e
    rcases hpl with h | h
    · rw [h] at hk; simp at hk; omega
    · rw [h] at hk; simp at hk; omega
  have hNz : N ≤ (wb.setCell ⟨nb, 2, none⟩ v2).heap.size := by have := hst.size; have := lt_of_block hnB; omega
  have hkk := kb_two ha hb hNz hoz
  obtain ⟨r, s, t, e⟩ := hkk.shape2
  exact ⟨r, s, t, e, hnB, hcz, heap_set hnB (i := 2) v2, hkk, hNz⟩
theorem step_append_at {P : Program} {ops : Array Oper} {o : Oper} {a : Act} {K : Act → World → Prop} {Q : Exit → Act → World → Prop} {E : Prop} (hgd : o.guard = none) (w : World) (s x : Operand) (t : TypeId)
    (ho : o.op = .call { callee := .builtin .append, args := #[s, x], argTypes := #[t, t] })
    (base : Nat) (e : TypeId) (i : TypeInfo) (z : Value) (size bytes : Nat) (ht : P.underlying t = some (.slice e)) (hi : P.info? e = some i) (hz : i.zero = some z)
    (hsize : i.size = size) (hby : i.bytes = bytes) (hzs : z.cells.size = size) (hsz : 0 < size)
    (v : Value) (n : Nat) (xs : List Value) (hs : a.eval s = v) (hown : w.ownsRow base e size v n xs)
    (ad : Addr) (m c : Nat) (news : List Value) (hx : a.eval x = .slice (some ad) m c) (hl : news.length = m * size) (hnews : ∀ j u, news[j]? = some u → w.cell? (ad.add j) = some u) (h1 : ∀ u ∈ news, u.oneCell' = true)
    (h63 : n + m ≤ maxLen) (hbytes : (n + m) * bytes ≤ 140737488355328) (hbase : base ≤ w.heap.size)
    (h : ∀ v' w', w'.ownsRow base e size v' (n + m) (xs ++ news) → w.grownBy w' v.ownBlock → (v'.ownBlock = v.ownBlock ∨ v'.ownBlock = some w.heap.size) → K (a.put o.dst v') w') :
    if Region.wanted o (yielded ops a.tmps) = true then Oper.wp P o a w K Q else E := by
  have hw : Region.wanted o (yielded ops a.tmps) = true := by simp [Region.wanted, hgd]
  rw [if_pos hw]
  obtain ⟨v', w', hr, h2, h3, h4⟩ := run_append_own (P := P) w base t o.type e i z size bytes ht hi hz hsize hby hzs hsz v n xs hown ad m c news hl hnews h1 h63 hbytes hbase
  have h5 := append_place w base t o.type e i z size bytes ht hi hz hsize hby hzs hsz v n xs hown ad m c news hl hnews h1 h63 hbytes hr
  unfold Oper.wp execOp
  simp only [ho, resolve, invoke, builtin, Sem.run_bind, Sem.run_pure, Result.andThen_ok, List.map_toArray, List.map_cons, List.map_nil, hs, hx, hr]
  exact h v' w' h2 h3 h5
set_option maxHeartbeats 2000000 in
set_option maxRecDepth 20000 in
theorem refNode_any (ps : List InsL) (S : Nat → Prop) (v : Value) (kb ko : Nat) (base : Nat) (w : World) (h : Ev base w) (hl : ps.length ≤ 256) (hst : ∀ i (hi : i < ps.length), ps[i].s.length ≤ 256) (hs : InsS w S v ps kb ko) :
    Calls Tryd.prog 32 #[v] w fun e w' => Chg NoB w w' ∧ ∃ v, e = .returned v ∧ NdV w' (NewB w w') v (progF ps) := by
  obtain ⟨⟨q, c, rfl, h1, h2, h3⟩, hat⟩ := hs
  obtain ⟨len, hlen⟩ : ∃ len, len = ps.length := ⟨_, rfl⟩
  rw [← hlen] at h1 hl ⊢
  have H3 := Lib.hid h3
  have Hat := Lib.hid hat
  have Hlen := Lib.hid hlen
  have Hev := Lib.hid h
  have Hst := Lib.hid hst
  unfold maxLen at h2
  have hal1 := (Chg.refl NoB w).alloc (.cells #[.bool false, .string ⟨#[]⟩, .slice none 0 0] 49)
  have hb1 := heap_alloc_new w (.cells #[.bool false, .string ⟨#[]⟩, .slice none 0 0] 49)
  have hs1 := alloc_size w (.cells #[.bool false, .string ⟨#[]⟩, .slice none 0 0] 49)
  obtain ⟨rb, hrb⟩ : ∃ rb, rb = w.heap.size := ⟨_, rfl⟩
  rw [← hrb] at hb1 hs1
  have Hrb := Lib.hid hrb
  have Hal1 := Lib.hid hal1
  have Hb1 := Lib.hid hb1
  have Hs1 := Lib.hid hs1
  clear h3 hat hlen h hst hal1 hb1 hs1 hrb
  go_enter Tryd.func32, Tryd.ntmps32
  go_upto_region 1 with fail
  rw [← Hrb.out]
  generalize w.alloc (.cells #[.bool false, .string ⟨#[]⟩, .slice none 0 0] 49) = w1 at *
  have hal2 := (Chg.refl NoB w1).alloc (.cells #[.bool false, .string ⟨#[]⟩, .slice none 0 0] 49)
  have hb2 := heap_alloc_new w1 (.cells #[.bool false, .string ⟨#[]⟩, .slice none 0 0] 49)
  have hsz2 := alloc_size w1 (.cells #[.bool false, .string ⟨#[]⟩, .slice none 0 0] 49)
  rw [Hs1.out] at hb2 hsz2
  have hr2 := row_kept hal2 Hb1.out id
  obtain ⟨ob, hob⟩ : ∃ ob, ob = rb + 1 := ⟨_, rfl⟩
  rw [← hob] at hb2 hsz2
  go_upto_region 2 with fail
  rw [Hs1.out, ← hob]
  have Hob := Lib.hid hob
  have Hal2 := Lib.hid (Hal1.out.trans hal2)
  have Hb2 := Lib.hid hb2
  have Hr2 := Lib.hid hr2
  clear hal2 hb2 hr2 hob
  generalize w1.alloc (.cells #[.bool false, .string ⟨#[]⟩, .slice none 0 0] 49) = w2 at *
  obtain ⟨lo, hlo⟩ : ∃ lo, lo = w2.heap.size := ⟨_, rfl⟩
  have hkb0 : Kb w2 lo (.slice none 0 0) [] := Kb.nil _ _ (by omega)
  have Hlo := Lib.hid (show lo = ob + 1 by omega)
  have HW2 := Lib.hid (show w2.heap.size ≤ lo by omega)
  have Hkb0 := Lib.hid hkb0
  clear hkb0 hlo hsz2
  go_wp2_with fail
  go_loopw [11] (fun i wr => ∃ (k : Nat) (lv : Value), k ≤ len ∧ i = .int .i64 k ∧ wr.heap[ob]? = some (.cells #[.bool false, .string ⟨#[]⟩, lv] 49 (0, 0)) ∧ Kb wr lo lv ((ps.map nodeF).take k) ∧ Chg (fun y => y = ob) w2 wr) (fun i _ => len - (intOf i).toNat)
  case atStart => exact ⟨0, _, Nat.zero_le _, rfl, Hb2.out, Hkb0.out, Chg.refl _ _⟩
  case round =>
    obtain ⟨k, lv, hk, rfl, hob, hkb, hch⟩ := hrel
    have HKb := Lib.hid hkb
    have Hch := Lib.hid hch
    have Hobr := Lib.hid hob
    clear hob hkb hch
    have hcw : Chg NoB w wr := Hal2.out.above Hch.out fun y hy => by have : y = ob := hy; have := Hob.out; have := Hrb.out; omega
    have Hcw := Lib.hid hcw
    clear hcw
    by_cases hlt : k < len
    · have hlt' : k < ps.length := by rw [← Hlen.out]; exact hlt
      obtain ⟨rfl, -⟩ := H3.out (by rintro rfl; simp at hlt')
      obtain ⟨hwf, c0, c1, c2⟩ := Hat.out k hlt'
      have c0 := Hcw.out.keep c0
      have c1 := Hcw.out.keep c1
      have c2 := Hcw.out.keep c2
      have hsb := Hst.out k hlt'
      have htk : (ps.map nodeF).take (k + 1) = (ps.map nodeF).take k ++ [nodeF ps[k]] := by
        rw [List.take_add_one, List.getElem?_eq_getElem (by rw [List.length_map]; exact hlt'), List.getElem_map]; rfl
      have Htk := Lib.hid htk
      have Hwf := Lib.hid hwf
      have Hsb := Lib.hid hsb
      clear hwf hsb htk
      generalize ps[k] = x at *
      have hal5 := (Chg.refl NoB wr).alloc (.cells #[.int .i64 x.op, .int .i64 x.n, .string (tx x.s)] 39)
      have hb5 := heap_alloc_new wr (.cells #[.int .i64 x.op, .int .i64 x.n, .string (tx x.s)] 39)
      obtain ⟨xb, hxb⟩ : ∃ xb, xb = wr.heap.size := ⟨_, rfl⟩
      rw [← hxb] at hb5
      have Hal5 := Lib.hid hal5
      have Hb5 := Lib.hid hb5
      have Hxb := Lib.hid hxb
      clear hal5 hb5 hxb
      go_upto_region 5 with fail
      rw [← Hxb.out]
      generalize wr.alloc (.cells #[.int .i64 x.op, .int .i64 x.n, .string (tx x.s)] 39) = w5 at *
      obtain ⟨f0, f1, f2⟩ := var3 Hb5.out
      clear c0 c1 c2
      have Hw := Lib.hid (refWord_any x.op Hwf.out.1.1 Hwf.out.1.2 w5)
      go_wp2_with fail
      refine Hw.out.mono ?_
      rintro e w6 ⟨rfl, hc6⟩
      have Hc6 := Lib.hid (Hal5.out.trans hc6)
      have Hb6 := Lib.hid (row_kept hc6 Hb5.out id)
      clear f0 f1 f2 hc6 Hw
      obtain ⟨f0, f1, f2⟩ := var3 Hb6.out
      go_upto_region 6 with fail
      obtain ⟨w7, hw7⟩ : ∃ w7, w7 = w6.alloc (.cells #[.bool true, .string (tx (wordL x.op)), .slice none 0 0] 49) := ⟨_, rfl⟩
      have hwl : (wordL x.op).length ≤ maxLen := by have := wordL_len x.op; unfold maxLen; omega
      have hk7 := kb_one w6 (wordL x.op) hwl
      have ho7 := World.ownsRow_lit (base := w6.heap.size) (e := 49) (size := 3) w6 #[.bool true, .string (tx (wordL x.op)), .slice none 0 0] 1 (Nat.le_refl _) (by decide) rfl
      have hz7 := alloc_size w6 (.cells #[.bool true, .string (tx (wordL x.op)), .slice none 0 0] 49)
      have hc7 := (Chg.refl NoB w6).alloc (.cells #[.bool true, .string (tx (wordL x.op)), .slice none 0 0] 49)
      rw [← hw7] at hk7 ho7 hz7 hc7 ⊢
      have hc8 := (Chg.refl NoB w7).alloc (.cells #[.bool false, .string ⟨#[]⟩, .slice (some ⟨w6.heap.size, 0, none⟩) 1 1] 49)
      have hb8 := heap_alloc_new w7 (.cells #[.bool false, .string ⟨#[]⟩, .slice (some ⟨w6.heap.size, 0, none⟩) 1 1] 49)
      rw [hz7] at hb8
      have hk8 := hk7.keep (T := NoB) hc8 fun _ _ _ => id
      have Hc8 := Lib.hid (Hc6.out.trans (hc7.trans hc8))
      have Hi8 := Lib.hid (row_kept (hc7.trans hc8) Hb6.out id)
      have Hz68 := Lib.hid (hc7.trans hc8).size
      obtain ⟨nb, hnb⟩ : ∃ nb, nb = w6.heap.size + 1 := ⟨_, rfl⟩
      rw [← hnb] at hb8 ⊢
      have Hn8 := Lib.hid hb8
      have Hk8 := Lib.hid hk8
      have Ho8 := Lib.hid (ownsRow_chg ho7 hc8 fun _ _ => id)
      have Hnb := Lib.hid hnb
      clear hw7 hwl hk7 ho7 hz7 hc7 hc8 hb8 hk8 hnb f0 f1 f2
      generalize w7.alloc (.cells #[.bool false, .string ⟨#[]⟩, .slice (some ⟨w6.heap.size, 0, none⟩) 1 1] 49) = w8 at *
      obtain ⟨f0, f1, f2⟩ := var3 Hi8.out
      have Ht := Lib.hid (refTakes_any x.op Hwf.out.1.1 Hwf.out.1.2 w8)
      go_wp2_with fail
      refine Ht.out.mono ?_
      rintro e w9 ⟨rfl, hc9⟩
      have Hc9 := Lib.hid (Hc8.out.trans hc9)
      have Hi9 := Lib.hid (row_kept hc9 Hi8.out id)
      have Hn9 := Lib.hid (row_kept hc9 Hn8.out id)
      have Ho9 := Lib.hid (ownsRow_chg Ho8.out hc9 fun _ _ => id)
      have Hk9 := Lib.hid (Hk8.out.keep (T := NoB) hc9 fun _ _ _ => id)
      have Hz69 := Lib.hid (Nat.le_trans Hz68.out hc9.size)
      have Hw2 := Lib.hid (show w2.heap.size ≤ lo from HW2.out)
      have hkf : kidsF x = if takesF x.op = 0 then [atomF (wordL x.op)] else if takesF x.op = 2 then [atomF (wordL x.op), atomF x.s] else [atomF (wordL x.op), atomF (Lib.itoa x.n)] := rfl
      have Hkf := Lib.hid hkf
      have Hti := Lib.hid (takesF_in x.op)
      have Hwl := Lib.hid (show (wordL x.op).length ≤ maxLen by have := wordL_len x.op; unfold maxLen; omega)
      have Hxs := Lib.hid (show x.s.length ≤ maxLen by have := Hsb.out; unfold maxLen; omega)
      clear hc9 Ht f0 f1 f2 hkf
      obtain ⟨f0, f1, f2⟩ := var3 Hi9.out
      generalize takesF x.op = t at *
      by_cases h0 : t = 0
      · subst h0
        have hkf := Hkf.out
        rw [if_pos rfl] at hkf
        have Hkf0 := Lib.hid hkf
        have Hcz := Hc9
        have Hnz := Hn9
        have HNz := Hz69
        have HKk : Hid (Kb w9 w6.heap.size (.slice (some ⟨w6.heap.size, 0, none⟩) 1 1) (kidsF x)) := Lib.hid (by rw [hkf]; exact Hk9.out)
        obtain ⟨sv, hsv⟩ : ∃ sv, sv = Value.slice (some ⟨w6.heap.size, 0, none⟩) 1 1 := ⟨_, rfl⟩
        rw [← hsv] at HKk Hnz
        clear hkf hsv f0 f1 f2
        generalize w9 = wz at *
        obtain ⟨kb6, ko6, hs6⟩ := HKk.out.nds
        obtain ⟨q6, cap6, e6, -, -⟩ := HKk.out.shape
        obtain ⟨len6, hl6⟩ : ∃ l, l = (kidsF x).length := ⟨_, rfl⟩
        rw [← hl6] at e6
        subst e6
        clear hl6
        obtain ⟨m0, m1, m2⟩ := var3 Hnz.out
        obtain ⟨o0, o1, o2⟩ := var3 (row_kept Hcz.out Hobr.out id)
        obtain ⟨-, xs, hown, hrow⟩ := HKb.out
        have hz6 := Hcz.out.size
        have hownK := ownsRow_chg hown Hcz.out fun _ _ => id
        have hrowK := hrow.keep (S' := KbS lo lv wz) Hcz.out (fun _ _ => id) fun k hk => ⟨⟨hk.1.1, Nat.lt_of_lt_of_le hk.1.2 hz6⟩, hk.2⟩
        have HN' := Lib.hid (show ∀ k, lv.ownBlock = some k → k < w6.heap.size from fun k hk => Nat.lt_of_lt_of_le (hown.lt k hk).2 Hc6.out.size)
        have HlN := Lib.hid (show lo ≤ w6.heap.size from Nat.le_trans HKb.out.1 Hc6.out.size)
        have HownK := Lib.hid hownK
        have HrowK := Lib.hid hrowK
        have Hs6 := Lib.hid hs6
        obtain ⟨q0, n0, cap0, hu6⟩ := HKb.out.shape2
        subst hu6
        obtain ⟨i0, hi, hz0, hz1, hz2⟩ := info_parts nodeInfo
        have Hi := Lib.hid hi
        have Hz0 := Lib.hid hz0
        have Hz1 := Lib.hid hz1
        have Hz2 := Lib.hid hz2
        have M1 := Lib.hid (show k + 1 ≤ maxLen by unfold maxLen; omega)
        have M2 := Lib.hid (show (k + 1) * 48 ≤ 140737488355328 by omega)
        have hna : ((ps.map nodeF).take k).length = k := by rw [List.length_take, List.length_map, ← Hlen.out]; omega
        have Hna := Lib.hid hna
        have hal7 := (Chg.refl NoB wz).alloc (.cells #[.bool false, .string ⟨#[]⟩, .slice q6 len6 cap6] 49)
        have hown7 := ownsRow_chg HownK.out hal7 fun _ _ => id
        rw [Hna.out] at hown7
        have Hown7 := Lib.hid hown7
        have Hal7 := Lib.hid hal7
        have hb7 : lo ≤ (wz.alloc (.cells #[.bool false, .string ⟨#[]⟩, .slice q6 len6 cap6] 49)).heap.size := Nat.le_trans HlN.out (Nat.le_trans HNz.out Hal7.out.size)
        have hstep : ∀ (v9 : Value) (w9 : World), w9.ownsRow lo 49 3 v9 (k + 1) (xs ++ [.bool false, .string ⟨#[]⟩, .slice q6 len6 cap6]) → (wz.alloc (.cells #[.bool false, .string ⟨#[]⟩, .slice q6 len6 cap6] 49)).grownBy w9 (Value.slice q0 n0 cap0).ownBlock → (v9.ownBlock = (Value.slice q0 n0 cap0).ownBlock ∨ v9.ownBlock = some (wz.alloc (.cells #[.bool false, .string ⟨#[]⟩, .slice q6 len6 cap6] 49)).heap.size) →
            Hid (Kb w9 lo v9 ((ps.map nodeF).take (k + 1))) ∧ Hid (Chg (fun y => y = ob) w2 w9) ∧ Hid (w9.heap[ob]? = some (.cells #[.bool false, .string ⟨#[]⟩, .slice q0 n0 cap0] 49 (0, 0))) ∧ ∃ r9 s9 t9, v9 = .slice r9 s9 t9 := fun v9 w9 hown9 hgr9 hpl9 => by
          have hgc9 : Chg (fun k => (Value.slice q0 n0 cap0).ownBlock = some k) _ w9 := (Chg.refl _ _).grown hgr9 fun k hk => .inl hk
          have h69 : Chg (fun k => (Value.slice q0 n0 cap0).ownBlock = some k) wz w9 := (Hal7.out.mono fun _ _ x => x.elim).trans hgc9
          have hob : ∀ k, (Value.slice q0 n0 cap0).ownBlock = some k → lo ≤ k := fun k hk => (HownK.out.lt k hk).1
          have hkd9 : Kb w9 lo v9 ((ps.map nodeF).take k ++ [.mk false ⟨#[]⟩ (kidsF x)]) := Kb.push (n := .mk false ⟨#[]⟩ (kidsF x)) HN'.out HlN.out HNz.out HrowK.out (Nat.zero_le _) Hs6.out Hal7.out (by rw [Hna.out]; exact hown9) hgr9 hpl9
          have hch9 : Chg (fun y => y = ob) w2 w9 := by
            have h1 : Chg (fun y => y = ob) w2 wz := Hch.out.trans (Hcz.out.mono fun _ _ => False.elim)
            refine ⟨h69.os.trans h1.os, h69.tape.trans h1.tape, h69.output.trans h1.output, Nat.le_trans h1.size h69.size, fun y hy hne => ?_⟩
            rw [h69.block y (Nat.lt_of_lt_of_le hy h1.size) fun e => by have := hob y e; have := Hw2.out; omega]
            exact h1.block y hy hne
          obtain ⟨r9, s9, t9, e9⟩ := hkd9.shape2
          refine ⟨Lib.hid (by rw [Htk.out]; exact hkd9), Lib.hid hch9, Lib.hid ?_, r9, s9, t9, e9⟩
          exact row_kept h69 (row_kept Hcz.out Hobr.out id) fun e => by have := hob ob e; have := Hlo.out; omega
        clear hal7 hown7 hown hrow hownK hrowK hs6 hi hz0 hz1 hz2 hna hz6
        go_wp2_with (at_builtin; refine wpList_append_at _ rfl _ _ 47 rfl lo 49 i0 (.agg #[.bool false, .string ⟨#[]⟩, .slice none 0 0]) 3 48 Tryd.underlying47 Hi.out Hz0.out Hz1.out Hz2.out rfl (by decide) _ k _ rfl Hown7.out ⟨wz.heap.size, 0, none⟩ 1 1 [.bool false, .string ⟨#[]⟩, .slice q6 len6 cap6] rfl rfl (lit3 wz _ _ _ _) (one3 _ _ _ _ _) M1.out M2.out hb7 ?_; intro v9 w9 hown9 hgr9 hpl9; obtain ⟨Hkd9, Hch9, Hob9, r9, s9, t9, e9⟩ := hstep v9 w9 hown9 hgr9 hpl9; subst e9; obtain ⟨o0, o1, o2⟩ := var3 Hob9.out; have of := row_free Hob9.out; clear hown9 hgr9 hpl9)
        clear Hcz Hnz HNz HKk Hs6 HrowK HownK Hal7 Hown7 hstep hb7
        go_roundw
        case rel =>
          have hsc : Chg (fun y => y = ob) w9 (w9.setCell ⟨ob, 2, none⟩ (.slice r9 s9 t9)) := (Chg.refl (fun y => y = ob) w9).setCell (p := ⟨ob, 2, none⟩) (.inl rfl) (.slice r9 s9 t9)
          exact ⟨k + 1, .slice r9 s9 t9, by omega, by go_num, heap_set Hob9.out (i := 2) (.slice r9 s9 t9), Hkd9.out.keep hsc fun y _ h1 e => by have : y = ob := e; have := Hlo.out; omega, Hch9.out.trans hsc⟩
        case measure => simp [intOf]; omega
      · have h0b : (t == 0) = false := by rw [beq_eq_false_iff_ne]; exact h0
        obtain ⟨i0, hi, hz0, hz1, hz2⟩ := info_parts nodeInfo
        have Hi := Lib.hid hi
        have Hz0 := Lib.hid hz0
        have Hz1 := Lib.hid hz1
        have Hz2 := Lib.hid hz2
        have N1 := Lib.hid (show 1 + 1 ≤ maxLen by decide)
        have N2 := Lib.hid (show (1 + 1) * 48 ≤ 140737488355328 by decide)
        clear hi hz0 hz1 hz2
        by_cases h2' : t = 2
        · subst h2'
          have hkf := Hkf.out
          rw [if_neg h0, if_pos rfl] at hkf
          have Hkf0 := Lib.hid hkf
          have hal := (Chg.refl NoB w9).alloc (.cells #[.bool true, .string (tx x.s), .slice none 0 0] 49)
          have Hoa := Lib.hid (ownsRow_chg Ho9.out hal fun _ _ => id)
          have Hal := Lib.hid hal
          have hba : w6.heap.size ≤ (w9.alloc (.cells #[.bool true, .string (tx x.s), .slice none 0 0] 49)).heap.size := Nat.le_trans Hz69.out Hal.out.size
          obtain ⟨m0, m1, m2⟩ := var3 Hn9.out
          clear hkf hal h0 h0b
          go_upto_region 11 with (at_builtin; refine wpList_append_at _ rfl _ _ 47 rfl w6.heap.size 49 i0 (.agg #[.bool false, .string ⟨#[]⟩, .slice none 0 0]) 3 48 Tryd.underlying47 Hi.out Hz0.out Hz1.out Hz2.out rfl (by decide) _ 1 _ rfl Hoa.out ⟨w9.heap.size, 0, none⟩ 1 1 [.bool true, .string (tx x.s), .slice none 0 0] rfl rfl (lit3 w9 _ _ _ _) (one3 _ _ _ _ _) N1.out N2.out hba ?_; intro v2 wb hownb hgrb hplb; obtain ⟨r2, s2, t2, ev2, hnB, hcz, hnz, hkk, hnn⟩ := grow_two Hc9.out Hc6.out.size Hnb.out Hwl.out Hxs.out Hn9.out hownb hgrb hplb; subst ev2; obtain ⟨m0, m1, m2⟩ := var3 hnB; have mf := row_free hnB; clear hownb hgrb hplb hnB)
          have Hcz := Lib.hid hcz
          have Hnz := Lib.hid hnz
          have HNz := Lib.hid hnn
          have HKk : Hid (Kb _ w6.heap.size _ (kidsF x)) := Lib.hid (by rw [Hkf0.out]; exact hkk)
          obtain ⟨sv, hsv⟩ : ∃ sv, sv = Value.slice r2 s2 t2 := ⟨_, rfl⟩
          generalize wb.setCell ⟨nb, 2, none⟩ (.slice r2 s2 t2) = wz at *
          rw [← hsv] at HKk Hnz
          clear hsv f0 f1 f2 m0 m1 m2 mf hcz hnz hkk hnn Hi Hz0 Hz1 Hz2
          obtain ⟨kb6, ko6, hs6⟩ := HKk.out.nds
          obtain ⟨q6, cap6, e6, -, -⟩ := HKk.out.shape
          obtain ⟨len6, hl6⟩ : ∃ l, l = (kidsF x).length := ⟨_, rfl⟩
          rw [← hl6] at e6
          subst e6
          clear hl6
          obtain ⟨m0, m1, m2⟩ := var3 Hnz.out
          obtain ⟨o0, o1, o2⟩ := var3 (row_kept Hcz.out Hobr.out id)
          obtain ⟨-, xs, hown, hrow⟩ := HKb.out
          have hz6 := Hcz.out.size
          have hownK := ownsRow_chg hown Hcz.out fun _ _ => id
          have hrowK := hrow.keep (S' := KbS lo lv wz) Hcz.out (fun _ _ => id) fun k hk => ⟨⟨hk.1.1, Nat.lt_of_lt_of_le hk.1.2 hz6⟩, hk.2⟩
          have HN' := Lib.hid (show ∀ k, lv.ownBlock = some k → k < w6.heap.size from fun k hk => Nat.lt_of_lt_of_le (hown.lt k hk).2 Hc6.out.size)
          have HlN := Lib.hid (show lo ≤ w6.heap.size from Nat.le_trans HKb.out.1 Hc6.out.size)
          have HownK := Lib.hid hownK
          have HrowK := Lib.hid hrowK
          have Hs6 := Lib.hid hs6
          obtain ⟨q0, n0, cap0, hu6⟩ := HKb.out.shape2
          subst hu6
          obtain ⟨i0, hi, hz0, hz1, hz2⟩ := info_parts nodeInfo
          have Hi := Lib.hid hi
          have Hz0 := Lib.hid hz0
          have Hz1 := Lib.hid hz1
          have Hz2 := Lib.hid hz2
          have M1 := Lib.hid (show k + 1 ≤ maxLen by unfold maxLen; omega)
          have M2 := Lib.hid (show (k + 1) * 48 ≤ 140737488355328 by omega)
          have hna : ((ps.map nodeF).take k).length = k := by rw [List.length_take, List.length_map, ← Hlen.out]; omega
          have Hna := Lib.hid hna
          have hal7 := (Chg.refl NoB wz).alloc (.cells #[.bool false, .string ⟨#[]⟩, .slice q6 len6 cap6] 49)
          have hown7 := ownsRow_chg HownK.out hal7 fun _ _ => id
          rw [Hna.out] at hown7
          have Hown7 := Lib.hid hown7
          have Hal7 := Lib.hid hal7
          have hb7 : lo ≤ (wz.alloc (.cells #[.bool false, .string ⟨#[]⟩, .slice q6 len6 cap6] 49)).heap.size := Nat.le_trans HlN.out (Nat.le_trans HNz.out Hal7.out.size)
          have hstep : ∀ (v9 : Value) (w9 : World), w9.ownsRow lo 49 3 v9 (k + 1) (xs ++ [.bool false, .string ⟨#[]⟩, .slice q6 len6 cap6]) → (wz.alloc (.cells #[.bool false, .string ⟨#[]⟩, .slice q6 len6 cap6] 49)).grownBy w9 (Value.slice q0 n0 cap0).ownBlock → (v9.ownBlock = (Value.slice q0 n0 cap0).ownBlock ∨ v9.ownBlock = some (wz.alloc (.cells #[.bool false, .string ⟨#[]⟩, .slice q6 len6 cap6] 49)).heap.size) →
              Hid (Kb w9 lo v9 ((ps.map nodeF).take (k + 1))) ∧ Hid (Chg (fun y => y = ob) w2 w9) ∧ Hid (w9.heap[ob]? = some (.cells #[.bool false, .string ⟨#[]⟩, .slice q0 n0 cap0] 49 (0, 0))) ∧ ∃ r9 s9 t9, v9 = .slice r9 s9 t9 := fun v9 w9 hown9 hgr9 hpl9 => by
            have hgc9 : Chg (fun k => (Value.slice q0 n0 cap0).ownBlock = some k) _ w9 := (Chg.refl _ _).grown hgr9 fun k hk => .inl hk
            have h69 : Chg (fun k => (Value.slice q0 n0 cap0).ownBlock = some k) wz w9 := (Hal7.out.mono fun _ _ x => x.elim).trans hgc9
            have hob : ∀ k, (Value.slice q0 n0 cap0).ownBlock = some k → lo ≤ k := fun k hk => (HownK.out.lt k hk).1
            have hkd9 : Kb w9 lo v9 ((ps.map nodeF).take k ++ [.mk false ⟨#[]⟩ (kidsF x)]) := Kb.push (n := .mk false ⟨#[]⟩ (kidsF x)) HN'.out HlN.out HNz.out HrowK.out (Nat.zero_le _) Hs6.out Hal7.out (by rw [Hna.out]; exact hown9) hgr9 hpl9
            have hch9 : Chg (fun y => y = ob) w2 w9 := by
              have h1 : Chg (fun y => y = ob) w2 wz := Hch.out.trans (Hcz.out.mono fun _ _ => False.elim)
              refine ⟨h69.os.trans h1.os, h69.tape.trans h1.tape, h69.output.trans h1.output, Nat.le_trans h1.size h69.size, fun y hy hne => ?_⟩
              rw [h69.block y (Nat.lt_of_lt_of_le hy h1.size) fun e => by have := hob y e; have := Hw2.out; omega]
              exact h1.block y hy hne
            obtain ⟨r9, s9, t9, e9⟩ := hkd9.shape2
            refine ⟨Lib.hid (by rw [Htk.out]; exact hkd9), Lib.hid hch9, Lib.hid ?_, r9, s9, t9, e9⟩
            exact row_kept h69 (row_kept Hcz.out Hobr.out id) fun e => by have := hob ob e; have := Hlo.out; omega
          clear hal7 hown7 hown hrow hownK hrowK hs6 hi hz0 hz1 hz2 hna hz6
          go_wp2_with (at_builtin; refine wpList_append_at _ rfl _ _ 47 rfl lo 49 i0 (.agg #[.bool false, .string ⟨#[]⟩, .slice none 0 0]) 3 48 Tryd.underlying47 Hi.out Hz0.out Hz1.out Hz2.out rfl (by decide) _ k _ rfl Hown7.out ⟨wz.heap.size, 0, none⟩ 1 1 [.bool false, .string ⟨#[]⟩, .slice q6 len6 cap6] rfl rfl (lit3 wz _ _ _ _) (one3 _ _ _ _ _) M1.out M2.out hb7 ?_; intro v9 w9 hown9 hgr9 hpl9; obtain ⟨Hkd9, Hch9, Hob9, r9, s9, t9, e9⟩ := hstep v9 w9 hown9 hgr9 hpl9; subst e9; obtain ⟨o0, o1, o2⟩ := var3 Hob9.out; have of := row_free Hob9.out; clear hown9 hgr9 hpl9)
          clear Hcz Hnz HNz HKk Hs6 HrowK HownK Hal7 Hown7 hstep hb7
          go_roundw
          case rel =>
            have hsc : Chg (fun y => y = ob) w9 (w9.setCell ⟨ob, 2, none⟩ (.slice r9 s9 t9)) := (Chg.refl (fun y => y = ob) w9).setCell (p := ⟨ob, 2, none⟩) (.inl rfl) (.slice r9 s9 t9)
            exact ⟨k + 1, .slice r9 s9 t9, by omega, by go_num, heap_set Hob9.out (i := 2) (.slice r9 s9 t9), Hkd9.out.keep hsc fun y _ h1 e => by have : y = ob := e; have := Hlo.out; omega, Hch9.out.trans hsc⟩
          case measure => simp [intOf]; omega
        · have h2b : (t == 2) = false := by rw [beq_eq_false_iff_ne]; exact h2'
          have ht0 : 0 < t := by have := Hti.out; omega
          have hkf := Hkf.out
          rw [if_neg h0, if_neg h2'] at hkf
          have Hkf0 := Lib.hid hkf
          have hdr := (Chg.refl NoB w9).drew
          obtain ⟨m0, m1, m2⟩ := var3 Hn9.out
          have m2d := hdr.keep m2
          have f1d := hdr.keep f1
          have Hni := Lib.hid Hwf.out.2.1
          have Hcd := Lib.hid (Hc9.out.trans hdr)
          have Hnd := Lib.hid (row_kept hdr Hn9.out id)
          have Hod := Lib.hid (ownsRow_chg Ho9.out hdr fun _ _ => id)
          have Hzd := Lib.hid (show w6.heap.size ≤ w9.drew.heap.size from Nat.le_trans Hz69.out hdr.size)
          have Hil := Lib.hid (show (Lib.itoa x.n).length ≤ maxLen from Nat.le_trans (Lib.itoa_length_le x.n Hwf.out.2.1.1 Hwf.out.2.1.2) (by decide))
          clear hkf h0 h0b h2'
          go_upto_region 10 with fail
          go_region_law (first
            | (go_simp; go_at_call 39; refine (itoaW_any x.n Hni.out.1 Hni.out.2 base w9.drew (Hev.out.keep (Hcw.out.trans Hcd.out)).lw).mono ?_; rintro e wi ⟨rfl, hci⟩; have Hcwi := Lib.hid (Hcd.out.trans hci); have Hnwi := Lib.hid (row_kept hci Hnd.out id); have m2i := hci.keep m2d; have hal := (Chg.refl NoB wi).alloc (.cells #[.bool true, .string ⟨(Lib.itoa x.n).toArray⟩, .slice none 0 0] 49); have m2a := hal.keep m2i; have Hoa := Lib.hid (ownsRow_chg (ownsRow_chg Hod.out hci fun _ _ => id) hal fun _ _ => id); have hba := Nat.le_trans Hzd.out (Nat.le_trans hci.size hal.size); clear hal)
            | (refine step_append_at (by rfl) _ (.tmp 37) (.tmp 42) 47 (by rfl) w6.heap.size 49 i0 (.agg #[.bool false, .string ⟨#[]⟩, .slice none 0 0]) 3 48 Tryd.underlying47 Hi.out Hz0.out Hz1.out Hz2.out rfl (by decide) _ 1 _ (by rfl) Hoa.out ⟨wi.heap.size, 0, none⟩ 1 1 [.bool true, .string (tx (Lib.itoa x.n)), .slice none 0 0] (by rfl) rfl (lit3 wi _ _ _ _) (one3 _ _ _ _ _) N1.out N2.out hba ?_; intro v2 wb hownb hgrb hplb; obtain ⟨r2, s2, t2, ev2, hnB, hcz, hnz, hkk, hnn⟩ := grow_two Hcwi.out Hc6.out.size Hnb.out Hwl.out Hil.out Hnwi.out hownb hgrb hplb; subst ev2; obtain ⟨p0, p1, p2⟩ := var3 hnB; have pf := row_free hnB; clear hownb hgrb hplb hnB))
          all_goals
            clear m0 m1 m2 m2d f1d m2i m2a f0 f1 f2 p0 p1 p2 pf h2b ht0 hba hci
            go_upto_region 11 with fail
            have Hcz := Lib.hid hcz
            have Hnz := Lib.hid hnz
            have HNz := Lib.hid hnn
            have HKk : Hid (Kb _ w6.heap.size _ (kidsF x)) := Lib.hid (by rw [Hkf0.out]; exact hkk)
            obtain ⟨sv, hsv⟩ : ∃ sv, sv = Value.slice r2 s2 t2 := ⟨_, rfl⟩
            generalize wb.setCell ⟨nb, 2, none⟩ (.slice r2 s2 t2) = wz at *
            rw [← hsv] at HKk Hnz
            clear hsv hcz hnz hkk hnn
            obtain ⟨kb6, ko6, hs6⟩ := HKk.out.nds
            obtain ⟨q6, cap6, e6, -, -⟩ := HKk.out.shape
            obtain ⟨len6, hl6⟩ : ∃ l, l = (kidsF x).length := ⟨_, rfl⟩
            rw [← hl6] at e6
            subst e6
            clear hl6
            obtain ⟨m0, m1, m2⟩ := var3 Hnz.out
            obtain ⟨o0, o1, o2⟩ := var3 (row_kept Hcz.out Hobr.out id)
            obtain ⟨-, xs, hown, hrow⟩ := HKb.out
            have hz6 := Hcz.out.size
            have hownK := ownsRow_chg hown Hcz.out fun _ _ => id
            have hrowK := hrow.keep (S' := KbS lo lv wz) Hcz.out (fun _ _ => id) fun k hk => ⟨⟨hk.1.1, Nat.lt_of_lt_of_le hk.1.2 hz6⟩, hk.2⟩
            have HN' := Lib.hid (show ∀ k, lv.ownBlock = some k → k < w6.heap.size from fun k hk => Nat.lt_of_lt_of_le (hown.lt k hk).2 Hc6.out.size)
            have HlN := Lib.hid (show lo ≤ w6.heap.size from Nat.le_trans HKb.out.1 Hc6.out.size)
            have HownK := Lib.hid hownK
            have HrowK := Lib.hid hrowK
            have Hs6 := Lib.hid hs6
            obtain ⟨q0, n0, cap0, hu6⟩ := HKb.out.shape2
            subst hu6
            obtain ⟨i0, hi, hz0, hz1, hz2⟩ := info_parts nodeInfo
            have Hi := Lib.hid hi
            have Hz0 := Lib.hid hz0
            have Hz1 := Lib.hid hz1
            have Hz2 := Lib.hid hz2
            have M1 := Lib.hid (show k + 1 ≤ maxLen by unfold maxLen; omega)
            have M2 := Lib.hid (show (k + 1) * 48 ≤ 140737488355328 by omega)
            have hna : ((ps.map nodeF).take k).length = k := by rw [List.length_take, List.length_map, ← Hlen.out]; omega
            have Hna := Lib.hid hna
            have hal7 := (Chg.refl NoB wz).alloc (.cells #[.bool false, .string ⟨#[]⟩, .slice q6 len6 cap6] 49)
            have hown7 := ownsRow_chg HownK.out hal7 fun _ _ => id
            rw [Hna.out] at hown7
            have Hown7 := Lib.hid hown7
            have Hal7 := Lib.hid hal7
            have hb7 : lo ≤ (wz.alloc (.cells #[.bool false, .string ⟨#[]⟩, .slice q6 len6 cap6] 49)).heap.size := Nat.le_trans HlN.out (Nat.le_trans HNz.out Hal7.out.size)
            have hstep : ∀ (v9 : Value) (w9 : World), w9.ownsRow lo 49 3 v9 (k + 1) (xs ++ [.bool false, .string ⟨#[]⟩, .slice q6 len6 cap6]) → (wz.alloc (.cells #[.bool false, .string ⟨#[]⟩, .slice q6 len6 cap6] 49)).grownBy w9 (Value.slice q0 n0 cap0).ownBlock → (v9.ownBlock = (Value.slice q0 n0 cap0).ownBlock ∨ v9.ownBlock = some (wz.alloc (.cells #[.bool false, .string ⟨#[]⟩, .slice q6 len6 cap6] 49)).heap.size) →
                Hid (Kb w9 lo v9 ((ps.map nodeF).take (k + 1))) ∧ Hid (Chg (fun y => y = ob) w2 w9) ∧ Hid (w9.heap[ob]? = some (.cells #[.bool false, .string ⟨#[]⟩, .slice q0 n0 cap0] 49 (0, 0))) ∧ ∃ r9 s9 t9, v9 = .slice r9 s9 t9 := fun v9 w9 hown9 hgr9 hpl9 => by
              have hgc9 : Chg (fun k => (Value.slice q0 n0 cap0).ownBlock = some k) _ w9 := (Chg.refl _ _).grown hgr9 fun k hk => .inl hk
              have h69 : Chg (fun k => (Value.slice q0 n0 cap0).ownBlock = some k) wz w9 := (Hal7.out.mono fun _ _ x => x.elim).trans hgc9
              have hob : ∀ k, (Value.slice q0 n0 cap0).ownBlock = some k → lo ≤ k := fun k hk => (HownK.out.lt k hk).1
              have hkd9 : Kb w9 lo v9 ((ps.map nodeF).take k ++ [.mk false ⟨#[]⟩ (kidsF x)]) := Kb.push (n := .mk false ⟨#[]⟩ (kidsF x)) HN'.out HlN.out HNz.out HrowK.out (Nat.zero_le _) Hs6.out Hal7.out (by rw [Hna.out]; exact hown9) hgr9 hpl9
              have hch9 : Chg (fun y => y = ob) w2 w9 := by
                have h1 : Chg (fun y => y = ob) w2 wz := Hch.out.trans (Hcz.out.mono fun _ _ => False.elim)
                refine ⟨h69.os.trans h1.os, h69.tape.trans h1.tape, h69.output.trans h1.output, Nat.le_trans h1.size h69.size, fun y hy hne => ?_⟩
                rw [h69.block y (Nat.lt_of_lt_of_le hy h1.size) fun e => by have := hob y e; have := Hw2.out; omega]
                exact h1.block y hy hne
              obtain ⟨r9, s9, t9, e9⟩ := hkd9.shape2
              refine ⟨Lib.hid (by rw [Htk.out]; exact hkd9), Lib.hid hch9, Lib.hid ?_, r9, s9, t9, e9⟩
              exact row_kept h69 (row_kept Hcz.out Hobr.out id) fun e => by have := hob ob e; have := Hlo.out; omega
            clear hal7 hown7 hown hrow hownK hrowK hs6 hi hz0 hz1 hz2 hna hz6
            go_wp2_with (at_builtin; refine wpList_append_at _ rfl _ _ 47 rfl lo 49 i0 (.agg #[.bool false, .string ⟨#[]⟩, .slice none 0 0]) 3 48 Tryd.underlying47 Hi.out Hz0.out Hz1.out Hz2.out rfl (by decide) _ k _ rfl Hown7.out ⟨wz.heap.size, 0, none⟩ 1 1 [.bool false, .string ⟨#[]⟩, .slice q6 len6 cap6] rfl rfl (lit3 wz _ _ _ _) (one3 _ _ _ _ _) M1.out M2.out hb7 ?_; intro v9 w9 hown9 hgr9 hpl9; obtain ⟨Hkd9, Hch9, Hob9, r9, s9, t9, e9⟩ := hstep v9 w9 hown9 hgr9 hpl9; subst e9; obtain ⟨o0, o1, o2⟩ := var3 Hob9.out; have of := row_free Hob9.out; clear hown9 hgr9 hpl9)
            clear Hcz Hnz HNz HKk Hs6 HrowK HownK Hal7 Hown7 hstep hb7
            go_roundw
            case rel =>
              have hsc : Chg (fun y => y = ob) w9 (w9.setCell ⟨ob, 2, none⟩ (.slice r9 s9 t9)) := (Chg.refl (fun y => y = ob) w9).setCell (p := ⟨ob, 2, none⟩) (.inl rfl) (.slice r9 s9 t9)
              exact ⟨k + 1, .slice r9 s9 t9, by omega, by go_num, heap_set Hob9.out (i := 2) (.slice r9 s9 t9), Hkd9.out.keep hsc fun y _ h1 e => by have : y = ob := e; have := Hlo.out; omega, Hch9.out.trans hsc⟩
            case measure => simp [intOf]; omega
    · obtain rfl : k = len := by omega
      have htk : (ps.map nodeF).take k = ps.map nodeF := by rw [Hlen.out]; exact List.take_of_length_le (by rw [List.length_map]; exact Nat.le_refl _)
      rw [htk] at HKb
      obtain ⟨q0, n0, cap0, hu6⟩ := HKb.out.shape2
      subst hu6
      obtain ⟨nb, no, hnds⟩ := HKb.out.nds
      obtain ⟨o0, o1, o2⟩ := var3 Hobr.out
      have hrr := row_kept Hch.out Hr2.out (by have := Hob.out; omega)
      obtain ⟨r0, r1, r2⟩ := var3 hrr
      have rf := row_free hrr
      have Hrr := Lib.hid hrr
      have Hnds := Lib.hid hnds
      have hwl : w.heap.size ≤ lo ∧ w.heap.size ≤ rb ∧ rb < lo := by have := Hrb.out; have := Hob.out; have := Hlo.out; omega
      have Hwl := Lib.hid hwl
      clear hrr hnds hwl htk
      go_wp2_with fail
      obtain ⟨e0, e1, e2⟩ := var3 (box3 Hrr.out (.bool false) (.string ⟨#[]⟩) (.slice q0 n0 cap0))
      have hfin := box3_chg (b := rb) Hcw.out Hwl.out.2.1 (.bool false) (.string ⟨#[]⟩) (.slice q0 n0 cap0)
      have hst := st3 wr (g := rb) 0 (.bool false) (.string ⟨#[]⟩) (.slice q0 n0 cap0)
      have hzf := hst.size
      have hnf := (Hnds.out.keep hst fun y hy e => by have h1 := hy.1; have h2 : y = rb := e; have := Hwl.out; omega)
      generalize ((wr.setCell ⟨rb, 0, none⟩ (.bool false)).setCell ⟨rb, 1, none⟩ (.string ⟨#[]⟩)).setCell ⟨rb, 2, none⟩ (.slice q0 n0 cap0) = wf at *
      refine bodyPost_ret (v := .agg #[.bool false, .string ⟨#[]⟩, .slice q0 n0 cap0]) (by simp [results, Tryd.results32, go_sem, e0, e1, e2]) rfl ⟨hfin, _, rfl, Nat.zero_le _, _, nb, no, rfl, hnf.mono fun y hy => ?_⟩
      have h1 := hy.1
      have h2 := hy.2
      exact (⟨by have := Hwl.out; omega, Nat.lt_of_lt_of_le h2 hzf⟩ : w.heap.size ≤ y ∧ y < wf.heap.size)
end Go.Proofs.YtdeikcmkfmnjmaaDoor
