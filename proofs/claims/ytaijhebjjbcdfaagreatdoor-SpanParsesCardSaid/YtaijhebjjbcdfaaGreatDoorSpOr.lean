/- The contracts of slices.Grow and slices.Concat at gaps, and of Or. No condition. -/
import Derived.Test.YtaijhebjjbcdfaaGreatDoorSpAnd
import Derived.Lib.AppendZerosOnto
import Derived.Shelf.Spec.SlicesGrow

namespace Go.Proofs.YtaijhebjjbcdfaaGreatDoor
set_option linter.unusedVariables false
open Go.ChangeShapes Go.WideShapes Go.ChangeAt Go.RowKit Go.Sort Go.Lib
def GrowP (w : World) (e : Ending) (w' : World) : Prop := ∃ (q : Option Addr) (c : Nat), e = .returned (.slice q 0 c) ∧ w'.ownsRow w.heap.size 37 2 (.slice q 0 c) 0 (flatG []) ∧ Chg NoB w w'
theorem underInt : Tryz.prog.underlying 3 = some (.int .i64) := by kernel_rfl
theorem drew_size (w : World) : w.drew.heap.size = w.heap.size := rfl
set_option maxHeartbeats 4000000 in
set_option maxRecDepth 20000 in
theorem grow_any (k : Nat) (hk : k ≤ 256) (w : World) : Calls Tryz.prog 53 #[.slice none 0 0, .int .i64 k] w (GrowP w) := by
  by_cases h0 : k = 0
  · subst h0
    go_enter Tryz.func53, Tryz.ntmps53
    go_wp2_with fail
    go_ret
    exact ⟨none, 0, rfl, World.ownsRow_nil _ _ _ _, Chg.refl _ _⟩
  · obtain ⟨i0, hi, hz0, hz1, hz2⟩ := info_parts gapInfo
    have hrz := fun ty => Lib.run_append_grow_zeros w 23 3 ty 37 i0 (.agg #[.int .i64 0, .int .i64 0]) .i64 .i64 Tryz.underlying23 underInt hi hz0 none 0 0 [] (run_firstCells_none w.drew i0.size 0 0 0) k (by omega) (by rw [hz1]; decide) (by omega) (by omega) (by rw [hz2]; omega) (growslice_fits (by omega) (by rw [hz2]; omega))
    have hge := grownCap_ge w (0 + k) 0 37
    have hle := grownCap_le_maxLen w (0 + k) 0 37 (by unfold maxLen; omega)
    have hsz : (([] : List Value).toArray ++ Builtin.zeroCells (Value.agg #[.int .i64 0, .int .i64 0]).cells k ++ Builtin.zeroCells (Value.agg #[.int .i64 0, .int .i64 0]).cells (grownCap w (0 + k) 0 37 - (0 + k))).size = grownCap w (0 + k) 0 37 * 2 := by
      have e2 : (Value.agg #[.int .i64 0, .int .i64 0]).cells.size = 2 := rfl
      simp only [Array.size_append, size_zeroCells, e2]
      simp only [Nat.zero_add] at hge ⊢
      simp
      omega
    obtain ⟨cs, hcs⟩ : ∃ cs, cs = (([] : List Value).toArray ++ Builtin.zeroCells (Value.agg #[.int .i64 0, .int .i64 0]).cells k ++ Builtin.zeroCells (Value.agg #[.int .i64 0, .int .i64 0]).cells (grownCap w (0 + k) 0 37 - (0 + k))) := ⟨_, rfl⟩
    rw [← hcs] at hsz hrz
    obtain ⟨G, hG⟩ : ∃ G, G = grownCap w (0 + k) 0 37 := ⟨_, rfl⟩
    rw [← hG] at hge hle hsz hrz
    rw [Nat.zero_add] at hge hrz
    have Hrz := Lib.hid hrz
    have Hsz := Lib.hid hsz
    unfold maxLen at hle
    clear hcs hG hrz hsz hi hz0 hz1 hz2
    go_enter Tryz.func53, Tryz.ntmps53
    go_wp2_with (at_builtin; go_loud (refine Lib.wpList_append_run _ rfl _ _ _ _ rfl _ _ rfl rfl _ _ (Hrz.out _) ?_))
    all_goals (go_ret; refine ⟨_, G, rfl, ⟨rfl, .inr ⟨w.heap.size, G, cs, rfl, Nat.le_refl _, heap_alloc_new w.drew _, Nat.zero_le _, by unfold maxLen; omega, Hsz.out, by simp; rfl⟩⟩, (Chg.refl NoB w).drew.alloc _⟩)
theorem wpList_gaps {w : World} {ops : Array Oper} {rest : List Oper} {o : Oper} {a : Act} {Q : Exit → Act → World → Prop} (hgd : o.guard = none) (s x : Operand)
    (ho : o.op = .call { callee := .builtin .append, args := #[s, x], argTypes := #[23, 23] })
    {base n m : Nat} {v : Value} {ts us : List GapL} {q : Option Addr} {c kb ko : Nat} {S : Nat → Prop} (hs : a.eval s = v) (hx : a.eval x = .slice q m c) (hm : m = us.length) {k : Nat} (hk : k = n + m) (hown : w.ownsRow base 37 2 v n (flatG ts)) (hus : GapS w S (.slice q m c) us kb ko) (hl : n + m ≤ 1048576) (hbase : base ≤ w.heap.size)
    (h : ∀ v' w', w'.ownsRow base 37 2 v' k (flatG (ts ++ us)) → w.grownBy w' v.ownBlock → wpList Tryz.prog ops Q rest (a.put o.dst v') w') : wpList Tryz.prog ops Q (o :: rest) a w := by
  obtain ⟨i0, hi, hz0, hz1, hz2⟩ := info_parts gapInfo
  refine wpList_append_inp w hgd s x 23 ho base 37 i0 (.agg #[.int .i64 0, .int .i64 0]) 2 16 Tryz.underlying23 hi hz0 hz1 hz2 rfl (by decide) v n (flatG ts) hs hown q m c (flatG us) hx ?_ (by rw [flatG_len, hm]) (flatG_one us) (by unfold maxLen; omega) (by omega) hbase ?_
  · rcases hus.news with ⟨ad, h1, h2⟩ | ⟨h1, h2, h3⟩
    · exact .inl ⟨ad, h1, h2⟩
    · exact .inr ⟨h1, by omega, h3⟩
  · intro v' w' h1 h2
    refine h v' w' ?_ h2
    rw [flatG_app, hk]
    exact h1
abbrev VG := Value × List GapL
def flatV (vs : List VG) : List GapL := vs.flatMap (·.2)
theorem flatV_take {vs : List VG} {k : Nat} (h : k < vs.length) : flatV (vs.take (k + 1)) = flatV (vs.take k) ++ vs[k].2 := by
  unfold flatV
  rw [take_at h, List.flatMap_append]
  simp
theorem flatV_le (vs : List VG) (k : Nat) : (flatV (vs.take k)).length ≤ (flatV vs).length := by
  have h : flatV vs = flatV (vs.take k) ++ flatV (vs.drop k) := by
    unfold flatV
    rw [← List.flatMap_append, List.take_append_drop]
  rw [h, List.length_append]
  omega
def ConcP (L : List GapL) (w : World) (e : Ending) (w' : World) : Prop := ∃ (q : Option Addr) (n c : Nat), n = L.length ∧ e = .returned (.slice q n c) ∧ w'.ownsRow w.heap.size 37 2 (.slice q n c) n (flatG L) ∧ Chg NoB w w'
set_option maxHeartbeats 4000000 in
set_option maxRecDepth 20000 in
theorem concat_any (vs : List VG) (xb : Nat) (w : World) (hl : vs.length ≤ 16) (hcell : ∀ k (h : k < vs.length), w.cell? ⟨xb, k, none⟩ = some vs[k].1) (hg : ∀ k (h : k < vs.length), ∃ S kb ko, GapS w S vs[k].1 vs[k].2 kb ko) (ht : (flatV vs).length ≤ 256) :
    Calls Tryz.prog 38 #[.slice (some ⟨xb, 0, none⟩) vs.length vs.length] w (ConcP (flatV vs) w) := by
  obtain ⟨n, hn⟩ : ∃ n, n = vs.length := ⟨_, rfl⟩
  rw [← hn] at hl ⊢
  have Hcell := Lib.hid hcell
  have Hg := Lib.hid hg
  have Ht := Lib.hid ht
  have Hn := Lib.hid hn
  have Hle := Lib.hid (flatV_le vs)
  clear hcell hg ht hn
  go_enter Tryz.func38, Tryz.ntmps38
  go_wp2_with fail
  go_loopw [3, 11] (fun sv i wr => ∃ (k m : Nat), k ≤ n ∧ i = .int .i64 k ∧ sv = .int .i64 m ∧ m = (flatV (vs.take k)).length ∧ wr = w) (fun _ i _ => n - (intOf i).toNat)
  case atStart => exact ⟨0, 0, Nat.zero_le _, rfl, rfl, rfl, rfl⟩
  case round =>
    obtain ⟨k, m, hk, rfl, rfl, hm, rfl⟩ := hrel
    have Hm := Lib.hid hm
    clear hm
    by_cases hlt : k < n
    · have hkl : k < vs.length := by rw [← Hn.out]; exact hlt
      have c0 := Hcell.out k hkl
      obtain ⟨S, kb, ko, ⟨q, c, e, h1, h2, -⟩, -, -⟩ := Hg.out k hkl
      have Hnx := Lib.hid (show m + vs[k].2.length = (flatV (vs.take (k + 1))).length by rw [flatV_take hkl, List.length_append, Hm.out])
      have hb : m + vs[k].2.length ≤ 256 := by rw [Hnx.out]; exact Nat.le_trans (Hle.out _) Ht.out
      rw [e] at c0
      generalize vs[k].2.length = z at *
      clear hkl e
      unfold maxLen at h2
      have h3 : ¬ ((m : Int) + (z : Int) < 0) := by omega
      go_wp2_with fail
      go_roundw
      case rel => exact ⟨k + 1, m + z, by omega, by go_num, by go_num, Hnx.out, trivial⟩
      case measure => simp [intOf]; omega
    · obtain rfl : k = n := by omega
      have hm256 : m ≤ 256 := by rw [Hm.out]; exact Nat.le_trans (Hle.out _) Ht.out
      have HGr := Lib.hid (grow_any m hm256 wr)
      go_wp2_with fail
      refine HGr.out.mono ?_
      rintro e w1 ⟨q, c, rfl, hrow, hc1⟩
      have Hrow := Lib.hid hrow
      have Hc1 := Lib.hid hc1
      clear hrow hc1 HGr Hm
      go_wp2_with fail
      go_loopw [6, 27] (fun ov i wr2 => ∃ (j m' c' : Nat) (q' : Option Addr), j ≤ k ∧ i = .int .i64 j ∧ ov = .slice q' m' c' ∧ m' = (flatV (vs.take j)).length ∧ wr2.ownsRow wr.heap.size 37 2 (.slice q' m' c') m' (flatG (flatV (vs.take j))) ∧ Chg NoB wr wr2) (fun _ i _ => k - (intOf i).toNat)
      case atStart => exact ⟨0, 0, c, q, Nat.zero_le _, rfl, rfl, rfl, Hrow.out, Hc1.out⟩
      case round =>
        obtain ⟨j, m', c', q', hj, rfl, rfl, hm', hor, hch⟩ := hrel
        rename_i wr2
        have Hm' := Lib.hid hm'
        have Hor := Lib.hid hor
        have Hch := Lib.hid hch
        clear hm' hor hch
        by_cases hlt2 : j < k
        · have hkl : j < vs.length := by rw [← Hn.out]; exact hlt2
          have c0 := Hch.out.keep (Hcell.out j hkl)
          obtain ⟨S, kb, ko, hG⟩ := Hg.out j hkl
          have hG2 := hG.keep Hch.out (fun _ _ => id)
          obtain ⟨⟨qz, cz, e, h1, h2, -⟩, -, -⟩ := hG
          have Hnx := Lib.hid (flatV_take hkl)
          have hb : m' + vs[j].2.length ≤ 256 := by
            rw [Hm'.out, ← List.length_append, ← Hnx.out]; exact Nat.le_trans (Hle.out _) Ht.out
          rw [e] at c0 hG2
          generalize vs[j] = z at *
          obtain ⟨zv, zl⟩ := z
          simp only at c0 hG2 hb h1 h2 Hnx
          obtain ⟨zn, hzn⟩ : ∃ zn, zn = zl.length := ⟨_, rfl⟩
          rw [← hzn] at c0 hG2 hb h1
          have HG2 := Lib.hid hG2
          have Hzn := Lib.hid hzn
          clear hkl e hG2 hzn
          unfold maxLen at h2
          go_wp2_with (at_builtin; go_loud (refine wpList_gaps (v := .slice q' m' c') rfl _ _ rfl rfl rfl Hzn.out rfl Hor.out HG2.out (by omega) Hch.out.size ?_); intro v9 w9 hown9 hgr9; go_loud (obtain ⟨q9, c9, rfl, -, -⟩ := row_shape hown9); have Hown9 := Lib.hid hown9; go_loud (have Hc9 := Lib.hid (Hch.out.grown hgr9 fun j hj => .inr (World.ownsRow.lt Hor.out j hj).1)); clear hown9 hgr9)
          go_roundw
          case rel => exact ⟨j + 1, m' + zn, c9, q9, by omega, by go_num, rfl, by rw [Hnx.out, List.length_append, ← Hm'.out, ← Hzn.out], by rw [Hnx.out]; exact Hown9.out, Hc9.out⟩
          case measure => simp [intOf]; omega
        · obtain rfl : j = k := by omega
          go_wp2_with fail
          go_ret
          have e : vs.take j = vs := by rw [Hn.out, List.take_length]
          refine ⟨q', m', c', by rw [← e]; exact Hm'.out, rfl, ?_, Hch.out⟩
          have h := Hor.out
          rw [e] at h
          exact h
set_option maxHeartbeats 4000000 in
set_option maxRecDepth 20000 in
theorem or_any (l r : List GapL) (S T : Nat → Prop) (v u : Value) (kb ko rb ro : Nat) (w : World) (hs : GapS w S v l kb ko) (ht : GapS w T u r rb ro) : Calls Tryz.prog 16 #[v, u] w (OpP w (goodG l && goodG r) fun n => inG l n || inG r n) := by
  have HG := Lib.hid (good_any l S v kb ko w hs)
  have HG2 := Lib.hid (fun (w1 : World) (h : Chg NoB w w1) => good_any r T u rb ro w1 (ht.keep h (fun _ _ => id)))
  have HS1 := Lib.hid hs
  have HS2 := Lib.hid ht
  obtain ⟨⟨q, c, rfl, h1, h2, -⟩, -, -⟩ := hs
  obtain ⟨⟨q2, c2, rfl, g1, g2, -⟩, -, -⟩ := ht
  obtain ⟨n, hn⟩ : ∃ n, n = l.length := ⟨_, rfl⟩
  obtain ⟨n2, hn2⟩ : ∃ n, n = r.length := ⟨_, rfl⟩
  rw [← hn] at HG HS1 h1 ⊢
  rw [← hn2] at HG2 HS2 g1 ⊢
  have Hn := Lib.hid hn
  have Hn2 := Lib.hid hn2
  obtain ⟨s, hr⟩ : ∃ s, s = goodG l := ⟨_, rfl⟩
  obtain ⟨t, hr2⟩ : ∃ t, t = goodG r := ⟨_, rfl⟩
  rw [← hr] at HG ⊢
  rw [← hr2] at HG2 ⊢
  have Hr := Lib.hid hr
  have Hr2 := Lib.hid hr2
  unfold maxLen at h2 g2
  clear hn hr hn2 hr2
  go_enter Tryz.func16, Tryz.ntmps16
  go_wp2_with fail
  refine HG.out.mono ?_
  rintro e w1 ⟨rfl, hc1⟩
  have Hc1 := Lib.hid hc1
  clear hc1 HG
  cases s
  · go_wp2_with fail
    go_ret2
    exact ⟨Hc1.out, .inl ⟨rfl, rfl⟩⟩
  have HG3 := Lib.hid (HG2.out w1 Hc1.out)
  clear HG2
  go_wp2_with fail
  refine HG3.out.mono ?_
  rintro e w2 ⟨rfl, hc2⟩
  have Hc2 := Lib.hid (Hc1.out.trans hc2)
  clear hc2 HG3 Hc1
  cases t
  · go_wp2_with fail
    go_ret2
    exact ⟨Hc2.out, .inl ⟨rfl, rfl⟩⟩
  have Hl16 := Lib.hid (show l.length ≤ 16 from good_len Hr.out.symm)
  have Hr16 := Lib.hid (show r.length ≤ 16 from good_len Hr2.out.symm)
  have hal_ := (Chg.refl NoB w2).alloc (.cells #[.slice q n c, .slice q2 n2 c2] 23)
  have hb_ := heap_alloc_new w2 (.cells #[.slice q n c, .slice q2 n2 c2] 23)
  obtain ⟨b3, hxb_⟩ : ∃ b, b = w2.heap.size := ⟨_, rfl⟩
  obtain ⟨w3, hw_⟩ : ∃ w_, w2.alloc (.cells #[.slice q n c, .slice q2 n2 c2] 23) = w_ := ⟨_, rfl⟩
  have hz_ : w3.heap.size = b3 + 1 := by rw [← hw_, hxb_]; exact alloc_size _ _
  rw [hw_] at hal_ hb_
  rw [← hxb_] at hb_
  have Hw3 := Lib.hid hw_
  have Hx3 := Lib.hid hxb_
  have Ha3 := Lib.hid hal_
  have Hb3 := Lib.hid hb_
  have Hz3 := Lib.hid hz_
  clear hal_ hb_ hxb_ hw_ hz_
  have Hc3 := Lib.hid (Hc2.out.trans Ha3.out)
  have hf : flatV [(.slice q n c, l), (.slice q2 n2 c2, r)] = l ++ r := by simp [flatV]
  have hC := concat_any [(.slice q n c, l), (.slice q2 n2 c2, r)] b3 w3 (by simp) (fun k hk => by
      obtain ⟨d0, d1⟩ := var2 Hb3.out
      match k, hk with
      | 0, _ => exact d0
      | 1, _ => exact d1) (fun k hk => by
      match k, hk with
      | 0, _ => exact ⟨S, kb, ko, HS1.out.keep Hc3.out (fun _ _ => id)⟩
      | 1, _ => exact ⟨T, rb, ro, HS2.out.keep Hc3.out (fun _ _ => id)⟩) (by rw [hf, List.length_append]; have := Hl16.out; have := Hr16.out; omega)
  rw [hf] at hC
  have HC := Lib.hid (show Calls Tryz.prog 38 #[.slice (some ⟨b3, 0, none⟩) 2 2] w3 (ConcP (l ++ r) w3) from hC)
  clear hC hf
  go_wp2_with fail
  rw [← Hx3.out, Hw3.out]
  refine HC.out.mono ?_
  rintro e w4 ⟨q4, n4, c4, hn4, rfl, hrow4, hc4⟩
  have Hc4 := Lib.hid (Hc3.out.trans hc4)
  have Hlo := Lib.hid Hc3.out.size
  have HT := Lib.hid (tidy_any (l ++ r) w3.heap.size (.slice q4 n4 c4) w4 (by rw [← hn4]; exact hrow4) (by rw [List.length_append]; have := Hl16.out; have := Hr16.out; omega))
  have Hrow4 := Lib.hid hrow4
  clear hrow4 hc4 HC hn4
  go_wp2_with fail
  refine HT.out.mono ?_
  rintro e w10 hT
  obtain ⟨d, q10, n10, c10, hn10, rfl, h10, hp10, hrow10, hc10⟩ := op_end (p := fun n => inG l n || inG r n) (app_bounds Hr.out.symm Hr2.out.symm) (fun x _ _ => inG_app l r x) hT Hc4.out fun j hj => Nat.le_trans Hlo.out (World.ownsRow.lt Hrow4.out j hj).1
  have Hfew := Lib.hid (fun h => op_few hn10 h10 hp10 hrow10 hc10 h)
  have Hmany := Lib.hid (fun h => op_many (p := fun n => inG l n || inG r n) hn10 h10 hp10 hc10 h)
  clear hT hn10 h10 hp10 hrow10 hc10
  go_wp2_with fail
  refine (few_any n10 c10 q10 w10).mono ?_
  rintro e w11 ⟨rfl, rfl⟩
  by_cases h16 : 16 < n10
  · rw [if_pos h16]
    go_wp2_with fail
    go_ret2
    exact Hmany.out h16
  · rw [if_neg h16]
    go_wp2_with fail
    go_ret2
    exact Hfew.out h16
end Go.Proofs.YtaijhebjjbcdfaaGreatDoor
