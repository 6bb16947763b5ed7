/- The contract of And. No condition. -/
import Derived.Test.YtaijhebjjbcdfaaGreatDoorSpNot

namespace Go.Proofs.YtaijhebjjbcdfaaGreatDoor
set_option linter.unusedVariables false
open Go.ChangeShapes Go.WideShapes Go.ChangeAt Go.RowKit Go.Sort
theorem wpList_gapP {w : World} {ops : Array Oper} {rest : List Oper} {o : Oper} {a : Act} {Q : Exit → Act → World → Prop} (hgd : o.guard = none) (s x : Operand)
    (ho : o.op = .call { callee := .builtin .append, args := #[s, x], argTypes := #[23, 23] })
    {base n : Nat} {v : Value} {l : List GapL} {b : Nat} {y : GapL} {f : Nat × Nat} (hs : a.eval s = v) (hx : a.eval x = .slice (some ⟨b, 0, none⟩) 1 1) (hn : n = l.length) {k : Nat} (hk : k = n + 1) (hown : w.ownsRow base 37 2 v n (flatG l)) (hb : w.heap[b]? = some (.cells #[.int .i64 y.1, .int .i64 y.2] 37 f)) (hl : n + 1 ≤ 1048576) (hbase : base ≤ w.heap.size)
    (h : ∀ v' w', w'.ownsRow base 37 2 v' k (flatG (l ++ [y])) → Chg (fun j => v.ownBlock = some j) w w' → (v'.ownBlock = v.ownBlock ∨ v'.ownBlock = some w.heap.size) → wpList Tryz.prog ops Q rest (a.put o.dst v') w') : wpList Tryz.prog ops Q (o :: rest) a w := by
  obtain ⟨i0, hi, hz0, hz1, hz2⟩ := info_parts gapInfo
  refine wpList_append_at w hgd s x 23 ho base 37 i0 (.agg #[.int .i64 0, .int .i64 0]) 2 16 Tryz.underlying23 hi hz0 hz1 hz2 rfl (by decide) v n (flatG l) hs hown ⟨b, 0, none⟩ 1 1 (flatG [y]) hx rfl ?_ (flatG_one _) (by unfold maxLen; omega) (by omega) hbase ?_
  · intro j u hj
    rw [add_zero_off, cell_of_row w b j _ _ f hb]
    show (flatG [y]).toArray[j]? = some u
    rw [List.getElem?_toArray]
    exact hj
  · intro v' w' h1 h2 h3
    rw [← flatG_app, ← hk] at h1
    exact h v' w' h1 ((Chg.refl _ w).grown h2 fun j hj => .inl hj) h3
theorem own_off {v v' : Value} {b z : Nat} (h : v'.ownBlock = v.ownBlock ∨ v'.ownBlock = some z) (hv : ∀ j, v.ownBlock = some j → b ≠ j) (hz : b < z) : ∀ j, v'.ownBlock = some j → b ≠ j := by
  intro j hj e
  rcases h with h | h
  · exact hv j (h ▸ hj) e
  · rw [h] at hj
    cases hj
    omega
theorem both_take {a b : List GapL} {k : Nat} (h : k < a.length) : bothL (a.take (k + 1)) b = bothL (a.take k) b ++ b.map (commonG a[k]) := by
  unfold bothL
  rw [take_at h, List.flatMap_append]
  simp
theorem map_take {b : List GapL} {g : GapL} {j : Nat} (h : j < b.length) : (b.take (j + 1)).map (commonG g) = (b.take j).map (commonG g) ++ [commonG g b[j]] := by
  rw [take_at h, List.map_append]
  rfl
set_option maxHeartbeats 4000000 in
set_option maxRecDepth 20000 in
theorem and_any (l r : List GapL) (S T : Nat → Prop) (v u : Value) (kb ko rb ro : Nat) (w : World) (hs : GapS w S v l kb ko) (ht : GapS w T u r rb ro) : Calls Tryz.prog 17 #[v, u] w (OpP w (goodG l && goodG r) fun n => inG l n && inG r n) := by
  have HG := Lib.hid (good_any l S v kb ko w hs)
  have HG2 := Lib.hid (fun (w1 : World) (h : Chg NoB w w1) => good_any r T u rb ro w1 (ht.keep h (fun _ _ => id)))
  obtain ⟨⟨q, c, rfl, h1, h2, h3⟩, hat, -⟩ := hs
  obtain ⟨⟨q2, c2, rfl, g1, g2, g3⟩, gat, -⟩ := ht
  obtain ⟨n, hn⟩ : ∃ n, n = l.length := ⟨_, rfl⟩
  obtain ⟨n2, hn2⟩ : ∃ n, n = r.length := ⟨_, rfl⟩
  rw [← hn] at HG h1 ⊢
  rw [← hn2] at HG2 g1 ⊢
  have H3 := Lib.hid h3
  have Hat := Lib.hid hat
  have Hn := Lib.hid hn
  have G3 := Lib.hid g3
  have Gat := Lib.hid gat
  have Hn2 := Lib.hid hn2
  obtain ⟨s, hr⟩ : ∃ s, s = goodG l := ⟨_, rfl⟩
  obtain ⟨t, hr2⟩ : ∃ t, t = goodG r := ⟨_, rfl⟩
  rw [← hr] at HG ⊢
  rw [← hr2] at HG2 ⊢
  have Hr := Lib.hid hr
  have Hr2 := Lib.hid hr2
  unfold maxLen at h2 g2
  clear h3 hat hn hr g3 gat hn2 hr2
  go_enter Tryz.func17, Tryz.ntmps17
  go_wp2_with fail
  refine HG.out.mono ?_
  rintro e w1 ⟨rfl, hc1⟩
  have Hc1 := Lib.hid hc1
  clear hc1 HG
  cases s
  · go_wp2_with fail
    go_ret2
    exact ⟨Hc1.out, .inl ⟨rfl, rfl⟩⟩
  have HG3 := Lib.hid (HG2.out w1 Hc1.out)
  clear HG2
  go_wp2_with fail
  refine HG3.out.mono ?_
  rintro e w2 ⟨rfl, hc2⟩
  have Hc2 := Lib.hid (Hc1.out.trans hc2)
  clear hc2 HG3 Hc1
  cases t
  · go_wp2_with fail
    go_ret2
    exact ⟨Hc2.out, .inl ⟨rfl, rfl⟩⟩
  have Hl16 := Lib.hid (show n ≤ 16 by rw [Hn.out]; exact good_len Hr.out.symm)
  have Hr16 := Lib.hid (show n2 ≤ 16 by rw [Hn2.out]; exact good_len Hr2.out.symm)
  have hl16 := Hl16.out
  have hr16 := Hr16.out
  go_wp2_with fail
  go_loopw [6, 21] (fun ov i wr => ∃ (k m c' : Nat) (q' : Option Addr) (o : List GapL), k ≤ n ∧ i = .int .i64 k ∧ ov = .slice q' m c' ∧ m = o.length ∧ m ≤ k * 16 ∧ o = bothL (l.take k) r ∧ wr.ownsRow w2.heap.size 37 2 (.slice q' m c') m (flatG o) ∧ Chg NoB w2 wr) (fun _ i _ => n - (intOf i).toNat)
  case atStart => exact ⟨0, 0, 0, none, [], Nat.zero_le _, rfl, rfl, rfl, Nat.zero_le _, rfl, World.ownsRow_nil _ _ _ _, Chg.refl _ _⟩
  case round =>
    obtain ⟨k, m, c', q', o, hk, rfl, rfl, hm, hmk, ho, hor, hch⟩ := hrel
    have Hm := Lib.hid hm
    have Ho := Lib.hid ho
    have Hor := Lib.hid hor
    have Hch := Lib.hid hch
    have Hmk := Lib.hid hmk
    clear hm ho hor hch hmk
    by_cases hlt : k < n
    · have hkl : k < l.length := by rw [← Hn.out]; exact hlt
      obtain ⟨rfl, -⟩ := H3.out (by intro e; rw [e] at hkl; simp at hkl)
      obtain ⟨c0, c1⟩ := Hat.out k hkl
      have c0 := Hch.out.keep (Hc2.out.keep c0)
      have c1 := Hch.out.keep (Hc2.out.keep c1)
      have Htk := Lib.hid (both_take (b := r) hkl)
      rw [← Ho.out] at Htk
      generalize l[k] = g at *
      obtain ⟨x1, x2⟩ := g
      simp only at c0 c1
      have hal_ := (Chg.refl NoB wr).alloc (.cells #[.int .i64 x1, .int .i64 x2] 37)
      have hb_ := heap_alloc_new wr (.cells #[.int .i64 x1, .int .i64 x2] 37)
      obtain ⟨b8, hxb_⟩ : ∃ b, b = wr.heap.size := ⟨_, rfl⟩
      obtain ⟨w3, hw_⟩ : ∃ w_, wr.alloc (.cells #[.int .i64 x1, .int .i64 x2] 37) = w_ := ⟨_, rfl⟩
      have hz_ : w3.heap.size = b8 + 1 := by rw [← hw_, hxb_]; exact alloc_size _ _
      rw [hw_] at hal_ hb_
      rw [← hxb_] at hb_
      have Hw8 := Lib.hid hw_
      have Hx8 := Lib.hid hxb_
      have Ha8 := Lib.hid hal_
      have Hb8 := Lib.hid hb_
      have Hz8 := Lib.hid hz_
      clear hal_ hb_ hxb_ hw_ hz_
      obtain ⟨d0, d1⟩ := var2 Hb8.out
      have Hd := Lib.hid (And.intro d0 d1)
      have Hc3 := Lib.hid (Hch.out.trans Ha8.out)
      have Hor3 := Lib.hid (ownsRow_chg Hor.out Ha8.out fun _ _ => id)
      have Hne8 := Lib.hid (show ∀ j, (Value.slice q' m c').ownBlock = some j → b8 ≠ j from fun j hj e => by have := (World.ownsRow.lt Hor.out j hj).2; have := Hx8.out; omega)
      have Hlt8 := Lib.hid (show b8 < w3.heap.size by have := Hx8.out; have := Hz8.out; omega)
      have Hbs := Lib.hid (show w2.heap.size ≤ b8 by rw [Hx8.out]; exact Hch.out.size)
      clear hkl d0 d1
      go_upto_region 7 with fail
      rw [Hw8.out, ← Hx8.out]
      clear c0 c1
      go_wp2_with fail
      go_loopw [6, 27] (fun ov i wi => ∃ (j m' c' : Nat) (q' : Option Addr) (o' : List GapL), j ≤ n2 ∧ i = .int .i64 j ∧ ov = .slice q' m' c' ∧ m' = o'.length ∧ m' ≤ k * 16 + j ∧ o' = o ++ (r.take j).map (commonG (x1, x2)) ∧ wi.ownsRow w2.heap.size 37 2 (.slice q' m' c') m' (flatG o') ∧ Chg NoB w2 wi ∧ wi.cell? ⟨b8, 0, none⟩ = some (.int .i64 x1) ∧ wi.cell? ⟨b8, 1, none⟩ = some (.int .i64 x2) ∧ (∀ z, (Value.slice q' m' c').ownBlock = some z → b8 ≠ z) ∧ b8 < wi.heap.size) (fun _ i _ => n2 - (intOf i).toNat)
      case atStart => exact ⟨0, m, c', q', o, Nat.zero_le _, rfl, rfl, Hm.out, Hmk.out, by simp, Hor3.out, Hc3.out, Hd.out.1, Hd.out.2, Hne8.out, Hlt8.out⟩
      case round =>
        clear Hor3 Hc3 Hd Hlt8 Hne8
        obtain ⟨j, m', c3, q3, o', hj, rfl, rfl, hm', hmk', ho', hor', hch', e0, e1, hne, hlt8⟩ := hrel
        have Hm' := Lib.hid hm'
        have Ho' := Lib.hid ho'
        have Hor' := Lib.hid hor'
        have Hch' := Lib.hid hch'
        have Hmk' := Lib.hid hmk'
        have Hne' := Lib.hid hne
        have Hlt' := Lib.hid hlt8
        clear hm' ho' hor' hch' hmk' hne hlt8
        by_cases hlt2 : j < n2
        · have hjl : j < r.length := by rw [← Hn2.out]; exact hlt2
          obtain ⟨rfl, -⟩ := G3.out (by intro e; rw [e] at hjl; simp at hjl)
          obtain ⟨f0, f1⟩ := Gat.out j hjl
          have f0 := Hch'.out.keep (Hc2.out.keep f0)
          have f1 := Hch'.out.keep (Hc2.out.keep f1)
          have Htk2 := Lib.hid (show o ++ (r.take (j + 1)).map (commonG (x1, x2)) = o' ++ [commonG (x1, x2) r[j]] by rw [map_take hjl, ← List.append_assoc, Ho'.out])
          generalize r[j] = h at *
          obtain ⟨y1, y2⟩ := h
          simp only at f0 f1
          have hal_ := (Chg.refl NoB wr).alloc (.cells #[.int .i64 y1, .int .i64 y2] 37)
          have hb_ := heap_alloc_new wr (.cells #[.int .i64 y1, .int .i64 y2] 37)
          obtain ⟨b10, hxb_⟩ : ∃ b, b = wr.heap.size := ⟨_, rfl⟩
          obtain ⟨w4, hw_⟩ : ∃ w_, wr.alloc (.cells #[.int .i64 y1, .int .i64 y2] 37) = w_ := ⟨_, rfl⟩
          have hz_ : w4.heap.size = b10 + 1 := by rw [← hw_, hxb_]; exact alloc_size _ _
          rw [hw_] at hal_ hb_
          rw [← hxb_] at hb_
          have Hw10 := Lib.hid hw_
          have Hx10 := Lib.hid hxb_
          have Ha10 := Lib.hid hal_
          have Hb10 := Lib.hid hb_
          have Hz10 := Lib.hid hz_
          clear hal_ hb_ hxb_ hw_ hz_
          obtain ⟨k0, k1⟩ := var2 Hb10.out
          replace e0 := Ha10.out.keep e0
          replace e1 := Ha10.out.keep e1
          have Hc4 := Lib.hid (Hch'.out.trans Ha10.out)
          have Hor4 := Lib.hid (ownsRow_chg Hor'.out Ha10.out fun _ _ => id)
          have Hlt4 := Lib.hid (show b8 < w4.heap.size by have := Hlt'.out; have := Hz10.out; have := Hx10.out; omega)
          clear hjl
          go_upto_region 10 with fail
          rw [Hw10.out, ← Hx10.out]
          clear f0 f1
          have HCom := Lib.hid (common_any (x1, x2) (y1, y2) w4)
          generalize commonG (x1, x2) (y1, y2) = z at *
          obtain ⟨z1, z2⟩ := z
          replace HCom := Lib.hid (show Calls Tryz.prog 39 #[.agg #[.int .i64 x1, .int .i64 x2], .agg #[.int .i64 y1, .int .i64 y2]] w4 (fun e w' => e = .returned (.agg #[.int .i64 z1, .int .i64 z2]) ∧ Chg NoB w4 w') from HCom.out)
          have He := Lib.hid (And.intro e0 e1)
          go_wp2_with fail
          refine HCom.out.mono ?_
          rintro e w5 ⟨rfl, hc5⟩
          have He5 := Lib.hid (And.intro (hc5.keep He.out.1) (hc5.keep He.out.2))
          have Hc5 := Lib.hid (Hc4.out.trans hc5)
          have Hor5 := Lib.hid (ownsRow_chg Hor4.out hc5 fun _ _ => id)
          have Hlt5 := Lib.hid (Nat.lt_of_lt_of_le Hlt4.out hc5.size)
          clear hc5 e0 e1 He k0 k1 HCom Hc4 Hor4 Hlt4
          have hal_ := (Chg.refl NoB w5).alloc (.cells #[.int .i64 z1, .int .i64 z2] 37)
          have hb_ := heap_alloc_new w5 (.cells #[.int .i64 z1, .int .i64 z2] 37)
          obtain ⟨lb, hxb_⟩ : ∃ b, b = w5.heap.size := ⟨_, rfl⟩
          obtain ⟨w6, hw_⟩ : ∃ w_, w5.alloc (.cells #[.int .i64 z1, .int .i64 z2] 37) = w_ := ⟨_, rfl⟩
          have hz_ : w6.heap.size = lb + 1 := by rw [← hw_, hxb_]; exact alloc_size _ _
          rw [hw_] at hal_ hb_
          rw [← hxb_] at hb_
          have Hw11 := Lib.hid hw_
          have Hx11 := Lib.hid hxb_
          have Ha11 := Lib.hid hal_
          have Hb11 := Lib.hid hb_
          have Hz11 := Lib.hid hz_
          clear hal_ hb_ hxb_ hw_ hz_
          have Hc6 := Lib.hid (Hc5.out.trans Ha11.out)
          have Hor6 := Lib.hid (ownsRow_chg Hor5.out Ha11.out fun _ _ => id)
          have He6 := Lib.hid (And.intro (Ha11.out.keep He5.out.1) (Ha11.out.keep He5.out.2))
          have Hlt6 := Lib.hid (show b8 < w6.heap.size by have := Hlt5.out; have := Hz11.out; have := Hx11.out; omega)
          have Hm6 := Lib.hid (show m' + 1 ≤ 1048576 by have := Hmk'.out; omega)
          clear Hc5 Hor5 He5 Hlt5
          go_wp2_with (at_builtin; go_loud (rw [← Hx11.out, Hw11.out]); go_loud (refine wpList_gapP (v := .slice q3 m' c3) (y := (z1, z2)) rfl _ _ rfl rfl rfl Hm'.out rfl Hor6.out Hb11.out Hm6.out Hc6.out.size ?_); intro v9 w9 hown9 hch9 hpl9; go_loud (obtain ⟨q9, c9, rfl, -, -⟩ := row_shape hown9); have Hown9 := Lib.hid hown9; go_loud (have Hc9 := Lib.hid (Hc6.out.above hch9 fun j hj => (World.ownsRow.lt Hor6.out j hj).1)); go_loud (have He9 := Lib.hid (And.intro (hch9.keepO (fun h => Hne'.out _ h rfl) He6.out.1) (hch9.keepO (fun h => Hne'.out _ h rfl) He6.out.2))); go_loud (have Hlt9 := Lib.hid (Nat.lt_of_lt_of_le Hlt6.out hch9.size)); go_loud (have Hne9 := Lib.hid (own_off hpl9 Hne'.out Hlt6.out)); clear hown9 hch9 hpl9)
          go_roundw
          case rel => exact ⟨j + 1, m' + 1, c9, q9, o' ++ [(z1, z2)], by omega, by go_num, rfl, by rw [List.length_append, ← Hm'.out]; rfl, by have := Hmk'.out; omega, Htk2.out.symm, Hown9.out, Hc9.out, He9.out.1, He9.out.2, Hne9.out, Hlt9.out⟩
          case measure => simp [intOf]; omega
        · obtain rfl : j = n2 := by omega
          go_wp2_with fail
          go_roundw
          case rel => exact ⟨k + 1, m', c3, q3, o', by omega, by go_num, rfl, Hm'.out, by have := Hmk'.out; omega, by rw [Htk.out, Ho'.out, Hn2.out, List.take_length], Hor'.out, Hch'.out⟩
          case measure => simp [intOf]; omega
    · obtain rfl : k = n := by omega
      have HL := Lib.hid (show o = bothL l r by rw [Ho.out, Hn.out, List.take_length])
      have Hcw := Lib.hid (Hc2.out.trans Hch.out)
      have Hsz := Lib.hid Hc2.out.size
      have HT := Lib.hid (fun (W : World) (hW : Chg NoB wr W) => tidy_any o w2.heap.size (.slice q' m c') W (by rw [← Hm.out]; exact ownsRow_chg Hor.out hW fun _ _ => id) (by rw [← Hm.out]; have := Hmk.out; omega))
      go_wp2_with fail
      refine (HT.out wr (Chg.refl _ _)).mono ?_
      rintro e w10 hT
      obtain ⟨b1, b2⟩ : (∀ g ∈ o, 0 ≤ g.1 ∧ g.2 ≤ allG) ∧ ∀ x, 0 ≤ x → x < allG → inG o x = (inG l x && inG r x) := by
        rw [HL.out]
        exact ⟨both_bounds Hr.out.symm Hr2.out.symm, fun x _ _ => in_both l r x⟩
      obtain ⟨d, q10, n10, c10, hn10, rfl, h10, hp10, hrow10, hc10⟩ := op_end (p := fun n => inG l n && inG r n) b1 b2 hT Hcw.out fun j hj => Nat.le_trans Hsz.out (World.ownsRow.lt Hor.out j hj).1
      have Hfew := Lib.hid (fun h => op_few hn10 h10 hp10 hrow10 hc10 h)
      have Hmany := Lib.hid (fun h => op_many (p := fun n => inG l n && inG r n) hn10 h10 hp10 hc10 h)
      clear b1 b2 hT hn10 h10 hp10 hrow10 hc10
      go_wp2_with fail
      refine (few_any n10 c10 q10 w10).mono ?_
      rintro e w11 ⟨rfl, rfl⟩
      by_cases h16 : 16 < n10
      · rw [if_pos h16]
        go_wp2_with fail
        go_ret2
        exact Hmany.out h16
      · rw [if_neg h16]
        go_wp2_with fail
        go_ret2
        exact Hfew.out h16
end Go.Proofs.YtaijhebjjbcdfaaGreatDoor
