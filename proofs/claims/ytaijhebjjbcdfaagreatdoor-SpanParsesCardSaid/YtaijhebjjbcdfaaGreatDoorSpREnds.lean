/- The document's side: with, Ends. No condition. -/
import Derived.Test.YtaijhebjjbcdfaaGreatDoorSpRIn
import Derived.StillTailTactics

namespace Go.Proofs.YtaijhebjjbcdfaaGreatDoor
set_option linter.unusedVariables false
open Go.ChangeShapes Go.WideShapes Go.ChangeAt Go.RowKit
def numsV (l : List Int) : List Value := l.map fun x => .int .i64 x
theorem numsV_one : ∀ l : List Int, ∀ u ∈ numsV l, u.oneCell' = true := fun l u h => by
  obtain ⟨x, -, rfl⟩ := List.mem_map.1 h
  rfl
theorem numInfo : (Tryz.prog.info? 3).map (fun i => (i.zero, i.size, i.bytes)) = some (some (.int .i64 0), 1, 8) := by kernel_rfl
theorem row_num {w : World} {base g c n : Nat} {l : List Int} (h : w.ownsRow base 3 1 (.slice (some ⟨g, 0, none⟩) n c) n (numsV l)) (m : Nat) (hm : m < l.length) : w.cell? ⟨g, m, none⟩ = some (.int .i64 l[m]) := by
  have b1 := World.ownsRow.cells (g := g) h rfl m (.int .i64 l[m]) (by unfold numsV; simp [hm])
  rw [add_zero_off] at b1
  exact b1
theorem wpList_num {w : World} {ops : Array Oper} {rest : List Oper} {o : Oper} {a : Act} {Q : Exit → Act → World → Prop} (hgd : o.guard = none) (s x : Operand)
    (ho : o.op = .call { callee := .builtin .append, args := #[s, x], argTypes := #[56, 56] })
    {base n : Nat} {v : Value} {l : List Int} {b : Nat} {y : Int} {f : Nat × Nat} (hs : a.eval s = v) (hx : a.eval x = .slice (some ⟨b, 0, none⟩) 1 1) (hn : n = l.length) {k : Nat} (hk : k = n + 1) (hown : w.ownsRow base 3 1 v n (numsV l)) (hb : w.heap[b]? = some (.cells #[.int .i64 y] 3 f)) (hl : n + 1 ≤ 1048576) (hbase : base ≤ w.heap.size)
    (h : ∀ v' w', w'.ownsRow base 3 1 v' k (numsV (l ++ [y])) → Chg (fun j => v.ownBlock = some j) w w' → wpList Tryz.prog ops Q rest (a.put o.dst v') w') : wpList Tryz.prog ops Q (o :: rest) a w := by
  obtain ⟨i0, hi, hz0, hz1, hz2⟩ := info_parts numInfo
  refine wpList_append_at w hgd s x 56 ho base 3 i0 (.int .i64 0) 1 8 Tryz.underlying56 hi hz0 hz1 hz2 rfl (by decide) v n (numsV l) hs hown ⟨b, 0, none⟩ 1 1 (numsV [y]) hx rfl ?_ (numsV_one _) (by unfold maxLen; omega) (by omega) hbase ?_
  · intro j u hj
    rw [add_zero_off, cell_of_row w b j _ _ f hb]
    show (numsV [y]).toArray[j]? = some u
    rw [List.getElem?_toArray]
    exact hj
  · intro v' w' h1 h2 _
    rw [show numsV l ++ numsV [y] = numsV (l ++ [y]) from (List.map_append).symm, ← hk] at h1
    exact h v' w' h1 ((Chg.refl _ w).grown h2 fun j hj => .inl hj)
def WithP (l : List Int) (base : Nat) (w : World) (e : Ending) (w' : World) : Prop := ∃ (q : Option Addr) (n c : Nat), n = l.length ∧ e = .returned (.slice q n c) ∧ w'.ownsRow base 3 1 (.slice q n c) n (numsV l) ∧ Chg NoB w w'
theorem filter_take {p : Int → Bool} {l : List Int} {k : Nat} (h : k < l.length) : (l.take (k + 1)).filter p = (l.take k).filter p ++ (if p l[k] then [l[k]] else []) := by
  rw [take_at h, List.filter_append]
  congr 1
  rw [List.filter_cons]
  simp
set_option maxHeartbeats 4000000 in
set_option maxRecDepth 20000 in
theorem with_any (l : List Int) (z : Int) (base : Nat) (v : Value) (w : World) (hrow : w.ownsRow base 3 1 v l.length (numsV l)) (hl : l.length ≤ 65536) (hbase : base ≤ w.heap.size) : Calls Tryz.prog 50 #[v, .int .i64 z] w (WithP (withL l z) base w) := by
  obtain ⟨q, c, rfl, h1, h2⟩ := row_shape hrow
  obtain ⟨n, hn⟩ : ∃ n, n = l.length := ⟨_, rfl⟩
  rw [← hn] at h1 hrow hl ⊢
  have Hrow := Lib.hid hrow
  have Hn := Lib.hid hn
  obtain ⟨r, hr⟩ : ∃ r, r = withL l z := ⟨_, rfl⟩
  rw [← hr]
  unfold withL at hr
  unfold maxLen at h2
  clear hrow hn
  go_enter Tryz.func50, Tryz.ntmps50
  by_cases e1 : z < 0
  · rw [if_pos (.inl e1)] at hr
    have f1 := decide_eq_true e1
    subst hr
    clear e1
    go_wp2_with fail
    go_ret
    exact ⟨q, n, c, Hn.out, rfl, Hrow.out, Chg.refl _ _⟩
  have f1 := decide_eq_false e1
  by_cases e2 : 1000000000 < z
  · rw [if_pos (.inr e2)] at hr
    have f2 := decide_eq_true e2
    subst hr
    clear e1 e2
    go_wp2_with fail
    go_ret
    exact ⟨q, n, c, Hn.out, rfl, Hrow.out, Chg.refl _ _⟩
  have f2 := decide_eq_false e2
  rw [if_neg (by unfold allG; omega)] at hr
  have Hr := Lib.hid hr
  clear hr e1 e2
  go_wp2_with fail
  clear f1 f2
  go_loopw [5, 7, 19] (fun ov _ i wr => ∃ (k m c' : Nat) (q' : Option Addr) (o : List Int), k ≤ n ∧ i = .int .i64 k ∧ ov = .slice q' m c' ∧ m = o.length ∧ m ≤ k ∧ o = (l.take k).filter (fun x => decide (x < z)) ∧ wr.ownsRow w.heap.size 3 1 (.slice q' m c') m (numsV o) ∧ Chg NoB w wr) (fun _ _ i _ => n - (intOf i).toNat)
  case atStart => exact ⟨0, 0, 0, none, [], Nat.zero_le _, rfl, rfl, rfl, Nat.le_refl _, rfl, World.ownsRow_nil _ _ _ _, Chg.refl _ _⟩
  case round =>
    obtain ⟨k, m, c', q', o, hk, rfl, rfl, hm, hmk, ho, hor, hch⟩ := hrel
    have Hm := Lib.hid hm
    have Ho := Lib.hid ho
    have Hor := Lib.hid hor
    have Hch := Lib.hid hch
    clear hm ho hor hch
    by_cases hlt : k < n
    · have hkl : k < l.length := by rw [← Hn.out]; exact hlt
      obtain ⟨g, rfl⟩ : ∃ g, q = some ⟨g, 0, none⟩ := by
        rcases Hrow.out.2 with ⟨e, h0⟩ | ⟨g', cap, cur, e, _⟩
        · omega
        · exact ⟨g', by injection e⟩
      have c0 := Hch.out.keep (row_num Hrow.out k hkl)
      have Htk := Lib.hid (filter_take (p := fun x => decide (x < z)) hkl)
      rw [← Ho.out] at Htk
      generalize l[k] = x at *
      clear hkl
      by_cases e1 : x < z
      · have f1 := decide_eq_true e1
        have Hsn := Lib.hid (show o ++ [x] = (l.take (k + 1)).filter (fun x => decide (x < z)) by rw [Htk.out, if_pos (decide_eq_true e1)])
        clear e1
        have hal_ := (Chg.refl NoB wr).alloc (.cells #[.int .i64 x] 3)
        have hb_ := heap_alloc_new wr (.cells #[.int .i64 x] 3)
        obtain ⟨lb, hxb_⟩ : ∃ b, b = wr.heap.size := ⟨_, rfl⟩
        obtain ⟨w8, hw_⟩ : ∃ w_, wr.alloc (.cells #[.int .i64 x] 3) = w_ := ⟨_, rfl⟩
        have hz_ : w8.heap.size = lb + 1 := by rw [← hw_, hxb_]; exact alloc_size _ _
        rw [hw_] at hal_ hb_
        rw [← hxb_] at hb_
        have Hw8 := Lib.hid hw_
        have Hx8 := Lib.hid hxb_
        have Ha8 := Lib.hid hal_
        have Hb8 := Lib.hid hb_
        have Hz8 := Lib.hid hz_
        clear hal_ hb_ hxb_ hw_ hz_
        have Hc8 := Lib.hid (Hch.out.trans Ha8.out)
        have Hor8 := Lib.hid (ownsRow_chg Hor.out Ha8.out fun _ _ => id)
        go_wp2_with (at_builtin; go_loud (rw [← Hx8.out, Hw8.out]); go_loud (refine wpList_num (v := .slice q' m c') (y := x) rfl _ _ rfl rfl rfl Hm.out rfl Hor8.out Hb8.out (by omega) Hc8.out.size ?_); intro v9 w9 hown9 hch9; go_loud (obtain ⟨q9, c9, rfl, -, -⟩ := row_shape hown9); have Hown9 := Lib.hid hown9; go_loud (have Hc9 := Lib.hid (Hc8.out.above hch9 fun j hj => (World.ownsRow.lt Hor8.out j hj).1)); clear hown9 hch9)
        go_roundw
        case rel => exact ⟨k + 1, m + 1, c9, q9, o ++ [x], by omega, by go_num, rfl, by rw [List.length_append, ← Hm.out]; rfl, by omega, Hsn.out, Hown9.out, Hc9.out⟩
        case measure => simp [intOf]; omega
      · have f1 := decide_eq_false e1
        have Hsn := Lib.hid (show o = (l.take (k + 1)).filter (fun x => decide (x < z)) by rw [Htk.out, if_neg (fun h => e1 (of_decide_eq_true h)), List.append_nil])
        clear e1
        go_wp2_with fail
        go_roundw
        case rel => exact ⟨k + 1, m, c', q', o, by omega, by go_num, rfl, Hm.out, by omega, Hsn.out, Hor.out, Hch.out⟩
        case measure => simp [intOf]; omega
    · obtain rfl : k = n := by omega
      have Ho2 := Lib.hid (show o = l.filter (fun x => decide (x < z)) by rw [Ho.out, Hn.out, List.take_length])
      have hal_ := (Chg.refl NoB wr).alloc (.cells #[.int .i64 z] 3)
      have hb_ := heap_alloc_new wr (.cells #[.int .i64 z] 3)
      obtain ⟨lb, hxb_⟩ : ∃ b, b = wr.heap.size := ⟨_, rfl⟩
      obtain ⟨w8, hw_⟩ : ∃ w_, wr.alloc (.cells #[.int .i64 z] 3) = w_ := ⟨_, rfl⟩
      have hz_ : w8.heap.size = lb + 1 := by rw [← hw_, hxb_]; exact alloc_size _ _
      rw [hw_] at hal_ hb_
      rw [← hxb_] at hb_
      have Hw8 := Lib.hid hw_
      have Hx8 := Lib.hid hxb_
      have Ha8 := Lib.hid hal_
      have Hb8 := Lib.hid hb_
      have Hz8 := Lib.hid hz_
      clear hal_ hb_ hxb_ hw_ hz_
      have Hc8 := Lib.hid (Hch.out.trans Ha8.out)
      have Hor8 := Lib.hid (ownsRow_chg Hor.out Ha8.out fun _ _ => id)
      go_wp2_with (at_builtin; go_loud (rw [← Hx8.out, Hw8.out]); go_loud (refine wpList_num (v := .slice q' m c') (y := z) rfl _ _ rfl rfl rfl Hm.out rfl Hor8.out Hb8.out (by omega) Hc8.out.size ?_); intro v9 w9 hown9 hch9; go_loud (obtain ⟨q9, c9, rfl, -, -⟩ := row_shape hown9); have Hown9 := Lib.hid hown9; go_loud (have Hc9 := Lib.hid (Hc8.out.above hch9 fun j hj => (World.ownsRow.lt Hor8.out j hj).1)); clear hown9 hch9)
      have Hl2 := Lib.hid (show m + 1 = (o ++ [z]).length by rw [List.length_append, ← Hm.out]; rfl)
      have Hrr := Lib.hid (show r = (o ++ [z]) ++ l.filter (fun x => decide (x > z)) by rw [Hr.out, Ho2.out])
      generalize o ++ [z] = oz at *
      have Hown := Lib.hid Hown9.out
      have Hc := Lib.hid Hc9.out
      clear Hch Hor Hm Ho Ha8 Hb8 Hx8 Hz8 Hw8 Hc8 Hor8 Ho2 Hr Hown9 Hc9 hlt
      go_loopw [5, 9, 37] (fun ov _ i wr => ∃ (j m' c' : Nat) (q' : Option Addr) (o' : List Int), j ≤ k ∧ i = .int .i64 j ∧ ov = .slice q' m' c' ∧ m' = o'.length ∧ m' ≤ k + 1 + j ∧ o' = oz ++ (l.take j).filter (fun x => decide (x > z)) ∧ wr.ownsRow w.heap.size 3 1 (.slice q' m' c') m' (numsV o') ∧ Chg NoB w wr) (fun _ _ i _ => k - (intOf i).toNat)
      case atStart => exact ⟨0, m + 1, c9, q9, oz, Nat.zero_le _, rfl, rfl, Hl2.out, by omega, (List.append_nil _).symm, Hown.out, Hc.out⟩
      case round =>
        clear Hown Hc
        obtain ⟨j, m', c', q', o', hj, rfl, rfl, hm', hmk', ho', hor, hch⟩ := hrel
        have Hm := Lib.hid hm'
        have Ho := Lib.hid ho'
        have Hor := Lib.hid hor
        have Hch := Lib.hid hch
        clear hm' ho' hor hch
        by_cases hlt : j < k
        · have hkl : j < l.length := by rw [← Hn.out]; exact hlt
          obtain ⟨g, rfl⟩ : ∃ g, q = some ⟨g, 0, none⟩ := by
            rcases Hrow.out.2 with ⟨e, h0⟩ | ⟨g', cap, cur, e, _⟩
            · omega
            · exact ⟨g', by injection e⟩
          have c0 := Hch.out.keep (row_num Hrow.out j hkl)
          have Htk := Lib.hid (filter_take (p := fun x => decide (x > z)) hkl)
          generalize l[j] = x at *
          clear hkl
          by_cases e1 : z < x
          · have f1 := decide_eq_true e1
            have Hsn := Lib.hid (show o' ++ [x] = oz ++ (l.take (j + 1)).filter (fun x => decide (x > z)) by rw [Htk.out, if_pos (decide_eq_true e1), Ho.out, List.append_assoc])
            clear e1
            have hal_ := (Chg.refl NoB wr).alloc (.cells #[.int .i64 x] 3)
            have hb_ := heap_alloc_new wr (.cells #[.int .i64 x] 3)
            obtain ⟨lb, hxb_⟩ : ∃ b, b = wr.heap.size := ⟨_, rfl⟩
            obtain ⟨w8, hw_⟩ : ∃ w_, wr.alloc (.cells #[.int .i64 x] 3) = w_ := ⟨_, rfl⟩
            have hz_ : w8.heap.size = lb + 1 := by rw [← hw_, hxb_]; exact alloc_size _ _
            rw [hw_] at hal_ hb_
            rw [← hxb_] at hb_
            have Hw8 := Lib.hid hw_
            have Hx8 := Lib.hid hxb_
            have Ha8 := Lib.hid hal_
            have Hb8 := Lib.hid hb_
            have Hz8 := Lib.hid hz_
            clear hal_ hb_ hxb_ hw_ hz_
            have Hc8 := Lib.hid (Hch.out.trans Ha8.out)
            have Hor8 := Lib.hid (ownsRow_chg Hor.out Ha8.out fun _ _ => id)
            go_wp2_with (at_builtin; go_loud (rw [← Hx8.out, Hw8.out]); go_loud (refine wpList_num (v := .slice q' m' c') (y := x) rfl _ _ rfl rfl rfl Hm.out rfl Hor8.out Hb8.out (by omega) Hc8.out.size ?_); intro v9 w9 hown9 hch9; go_loud (obtain ⟨q9, c9, rfl, -, -⟩ := row_shape hown9); have Hown9 := Lib.hid hown9; go_loud (have Hc9 := Lib.hid (Hc8.out.above hch9 fun j hj => (World.ownsRow.lt Hor8.out j hj).1)); clear hown9 hch9)
            go_roundw
            case rel => exact ⟨j + 1, m' + 1, c9, q9, o' ++ [x], by omega, by go_num, rfl, by rw [List.length_append, ← Hm.out]; rfl, by omega, Hsn.out, Hown9.out, Hc9.out⟩
            case measure => simp [intOf]; omega
          · have f1 := decide_eq_false e1
            have Hsn := Lib.hid (show o' = oz ++ (l.take (j + 1)).filter (fun x => decide (x > z)) by rw [Htk.out, if_neg (fun h => e1 (of_decide_eq_true h)), List.append_nil, Ho.out])
            clear e1
            go_wp2_with fail
            go_roundw
            case rel => exact ⟨j + 1, m', c', q', o', by omega, by go_num, rfl, Hm.out, by omega, Hsn.out, Hor.out, Hch.out⟩
            case measure => simp [intOf]; omega
        · obtain rfl : j = k := by omega
          have Hfin := Lib.hid (show o' = r by rw [Ho.out, Hrr.out, Hn.out, List.take_length])
          have Hbase := Lib.hid hbase
          go_wp2_with fail
          go_ret
          obtain rfl := Hfin.out
          exact ⟨q', m', c', Hm.out, rfl, ownsRow_low Hbase.out Hor.out, Hch.out⟩
end Go.Proofs.YtaijhebjjbcdfaaGreatDoor
