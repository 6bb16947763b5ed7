/- The contract of the document's Parse, of any text. Condition: the text is at most 2^16 bytes. -/
import Derived.Test.YtaijhebjjbcdfaaGreatDoorVerWalkK
namespace Go.Proofs.YtaijhebjjbcdfaaGreatDoor.Ver
set_option linter.unusedVariables false
open Go.ChangeShapes Go.WideShapes Go.ChangeAt Go.RowKit Go.Sort
structure T3 (w w' : World) (g p : Nat) (A B C : ByteArray) (x y z : Int) : Prop where
  b0 : w'.heap[w.heap.size]? = some (.cells #[.int .i64 0, .int .i64 0, .int .i64 0] 31 (0, 0))
  b1 : w'.heap[p]? = some (.cells #[.int .i64 x, .int .i64 y, .int .i64 z] 31 (0, 0))
  row : ∃ cap, w'.ownsRow (w.heap.size + 1) 9 1 (.slice (some ⟨g, 0, none⟩) 3 cap) 3 [.string A, .string B, .string C]
  gr : Gr w w'
  hp : w.heap.size < p
  hg : g < p
  hg0 : w.heap.size < g
theorem ownsRow_other {w : World} {base g n cap p i : Nat} {xs : List Value} {u : Value} (h : w.ownsRow base 9 1 (.slice (some ⟨g, 0, none⟩) n cap) n xs) (hne : g ≠ p) :
    (w.setCell ⟨p, i, none⟩ u).ownsRow base 9 1 (.slice (some ⟨g, 0, none⟩) n cap) n xs := by
  refine ⟨h.1, ?_⟩
  rcases h.2 with h2 | ⟨g', cap', cur, e, h3, h4, h5⟩
  · exact .inl h2
  · refine .inr ⟨g', cap', cur, e, h3, ?_, h5⟩
    simp at e
    obtain ⟨rfl, _⟩ := e
    rw [Below.heap_setCell _ _ _ _ hne]
    exact h4
section
variable {w w1 w2 : World} {g p : Nat} {A B C : ByteArray} {x y z : Int}
theorem T3.s0 (h : T3 w w1 g p A B C x y z) (u : Int) : T3 w (w1.setCell ⟨p, 0, none⟩ (.int .i64 u)) g p A B C u y z :=
  have := h.hp
  have := h.hg
  ⟨set3_other h.b0 (by omega) _, set3_0 h.b1 _, h.row.imp fun _ r => ownsRow_other r (by omega), h.gr.set (by omega) _, h.hp, h.hg, h.hg0⟩
theorem T3.s1 (h : T3 w w1 g p A B C x y z) (u : Int) : T3 w (w1.setCell ⟨p, 1, none⟩ (.int .i64 u)) g p A B C x u z :=
  have := h.hp
  have := h.hg
  ⟨set3_other h.b0 (by omega) _, set3_1 h.b1 _, h.row.imp fun _ r => ownsRow_other r (by omega), h.gr.set (by omega) _, h.hp, h.hg, h.hg0⟩
theorem T3.s2 (h : T3 w w1 g p A B C x y z) (u : Int) : T3 w (w1.setCell ⟨p, 2, none⟩ (.int .i64 u)) g p A B C x y u :=
  have := h.hp
  have := h.hg
  ⟨set3_other h.b0 (by omega) _, set3_2 h.b1 _, h.row.imp fun _ r => ownsRow_other r (by omega), h.gr.set (by omega) _, h.hp, h.hg, h.hg0⟩
theorem T3.strs (h : T3 w w1 g p A B C x y z) : w1.cell? ⟨g, 0, none⟩ = some (.string A) ∧ w1.cell? ⟨g, 1, none⟩ = some (.string B) ∧ w1.cell? ⟨g, 2, none⟩ = some (.string C) := by
  obtain ⟨cap, r⟩ := h.row
  exact ⟨r.cellAt 0 (by omega), r.cellAt 1 (by omega), r.cellAt 2 (by omega)⟩
end
theorem gr_block {w w1 : World} {o : Obj} {k : Nat} (g : Gr w w1) (h : w.heap[k]? = some o) : w1.heap[k]? = some o := g.heap h
set_option maxHeartbeats 2000000 in
set_option maxRecDepth 10000 in
theorem parseR_count (s : ByteArray) (w : World) (hl : s.size ≤ 65536) (hn : ¬ (pcs 46 s.data.toList).length = 3) : Calls Tryz.prog 49 #[.string s] w (ParseT 0 0 0 20 w) := by
  go_enter Tryz.func49, Tryz.ntmps49
  go_wp2_with fail
  refine (pieces_any s 46 _ hl).mono ?_
  rintro e w1 ⟨v, rfl, hsl⟩
  obtain ⟨ini, q, hpq⟩ := pcs_ne 46 s.data.toList
  have hpos : 0 < (pcs 46 s.data.toList).length := by rw [hpq]; simp
  obtain ⟨g, cap, rfl, hg, hcap⟩ := hsl.form hpos
  have ha := hsl.2.heap (heap_alloc_new w (.cells #[.int .i64 0, .int .i64 0, .int .i64 0] 31))
  obtain ⟨c0, c1, c2⟩ := three_cells ha
  have f := fz ha
  have G := Lib.hid (grown_trans ((Gr.refl w).alloc #[.int .i64 0, .int .i64 0, .int .i64 0] 31) hsl.2)
  clear ha hsl hpq hpos
  generalize (pcs 46 s.data.toList).length = n at *
  have hn' : ((n : Int) == 3) = false := by rw [beq_eq_false_iff_ne]; omega
  go_wp2_with fail
  refine bodyPost_ret (v := .tuple #[.agg #[.int .i64 0, .int .i64 0, .int .i64 0], .int .i64 20]) (by simp [results, Tryz.results49, go_sem, c0, c1, c2]) rfl ⟨rfl, ?_⟩
  first | exact G.out | exact ((G.out.set (Nat.le_refl _) _).set (Nat.le_refl _) _).set (Nat.le_refl _) _
set_option maxHeartbeats 2000000 in
set_option maxRecDepth 10000 in
theorem parseR_three (s A B C : ByteArray) (w : World) (hl : s.size ≤ 65536) (hps : pcs 46 s.data.toList = [A.data.toList, B.data.toList, C.data.toList]) (x y z : Int)
    (hx : partI A.data.toList = x) (hy : partI B.data.toList = y) (hz : partI C.data.toList = z) (hgood : goodB x y z = true) :
    Calls Tryz.prog 49 #[.string s] w (ParseT x y z 0 w) := by
  have hA := part_any A
  have hB := part_any B
  have hC := part_any C
  rw [hx] at hA
  rw [hy] at hB
  rw [hz] at hC
  clear hx hy hz
  go_enter Tryz.func49, Tryz.ntmps49
  go_wp2_with fail
  refine (pieces_any s 46 _ hl).mono ?_
  rintro e w1 ⟨v, rfl, hsl⟩
  rw [hps] at hsl
  obtain ⟨g, cap, rfl, hg, hcap⟩ := hsl.form (by simp)
  have e0 : (w.alloc (.cells #[.int .i64 0, .int .i64 0, .int .i64 0] 31)).heap.size = w.heap.size + 1 := by show (w.heap.push _).size = _; simp
  rw [e0] at hg
  have hglt : g < w1.heap.size := (hsl.1.lt g rfl).2
  have hs1 := hsl.2.size
  have HT := Lib.hid (T3.mk (w := w) (w' := w1.alloc (.cells #[.int .i64 0, .int .i64 0, .int .i64 0] 31)) (g := g) (p := w1.heap.size) (A := A) (B := B) (C := C) (x := 0) (y := 0) (z := 0)
    (((Gr.refl w1).alloc _ _).heap (hsl.2.heap (heap_alloc_new w _))) (heap_alloc_new w1 _)
    ⟨cap, by
      have r := hsl.1.alloc (.cells #[.int .i64 0, .int .i64 0, .int .i64 0] 31)
      rw [e0] at r
      simpa [strs, mk_bytes] using r⟩
    (grown_trans (grown_trans ((Gr.refl w).alloc _ _) hsl.2) ((Gr.refl w1).alloc _ _)) (by omega) hglt (by omega))
  clear hsl e0
  simp only [List.length_cons, List.length_nil, Nat.zero_add, Nat.reduceAdd] at hcap ⊢
  go_wp2_with fail
  generalize w1.alloc (.cells #[.int .i64 0, .int .i64 0, .int .i64 0] 31) = w3 at *
  generalize w1.heap.size = p at *
  clear hs1
  have hpw := HT.out.hp
  refine wp_loop_rounds 4 ?_
  obtain ⟨q0, _, _⟩ := HT.out.strs
  obtain ⟨c0, _, _⟩ := three_cells HT.out.b1
  have f := fz HT.out.b1
  rw [rounds_succ]
  go_wp2_with fail
  refine (hA _).mono ?_
  rintro e w' ⟨rfl, rfl⟩
  go_wp2_with fail
  have HT1 := Lib.hid (HT.out.s0 x)
  clear q0 c0 f HT
  generalize w'.setCell ⟨p, 0, none⟩ (.int .i64 x) = w4 at *
  obtain ⟨_, q1, _⟩ := HT1.out.strs
  obtain ⟨_, c1, _⟩ := three_cells HT1.out.b1
  have f := fz HT1.out.b1
  rw [rounds_succ]
  go_wp2_with fail
  refine (hB _).mono ?_
  rintro e w' ⟨rfl, rfl⟩
  go_wp2_with fail
  have HT2 := Lib.hid (HT1.out.s1 y)
  clear q1 c1 f HT1
  generalize w'.setCell ⟨p, 1, none⟩ (.int .i64 y) = w5 at *
  obtain ⟨_, _, q2⟩ := HT2.out.strs
  obtain ⟨_, _, c2⟩ := three_cells HT2.out.b1
  have f := fz HT2.out.b1
  rw [rounds_succ]
  go_wp2_with fail
  refine (hC _).mono ?_
  rintro e w' ⟨rfl, rfl⟩
  go_wp2_with fail
  have HT3 := Lib.hid (HT2.out.s2 z)
  clear q2 c2 f HT2
  generalize w'.setCell ⟨p, 2, none⟩ (.int .i64 z) = w6 at *
  obtain ⟨c0, c1, c2⟩ := three_cells HT3.out.b1
  rw [rounds_succ]
  go_wp2_with fail
  refine (goodR_any x y z _).mono ?_
  rintro e w7 ⟨rfl, hg7⟩
  rw [hgood]
  have e1 := hg7.heap HT3.out.b1
  have e2 := hg7.heap HT3.out.b0
  have G := Lib.hid (grown_trans HT3.out.gr hg7)
  clear HT3 hg7 c0 c1 c2
  obtain ⟨c0, c1, c2⟩ := three_cells e1
  obtain ⟨a0, a1, a2⟩ := three_cells e2
  have f := fz e2
  clear e1 e2
  go_wp2_with fail
  refine bodyPost_ret (v := .tuple #[.agg #[.int .i64 x, .int .i64 y, .int .i64 z], .int .i64 0]) (by simp [results, Tryz.results49, go_sem, a0, a1, a2]) rfl ⟨rfl, ?_⟩
  exact ((G.out.set (Nat.le_refl _) _).set (Nat.le_refl _) _).set (Nat.le_refl _) _
set_option maxHeartbeats 2000000 in
set_option maxRecDepth 10000 in
theorem parseR_bad (s A B C : ByteArray) (w : World) (hl : s.size ≤ 65536) (hps : pcs 46 s.data.toList = [A.data.toList, B.data.toList, C.data.toList]) (x y z : Int)
    (hx : partI A.data.toList = x) (hy : partI B.data.toList = y) (hz : partI C.data.toList = z) (hgood : goodB x y z = false) :
    Calls Tryz.prog 49 #[.string s] w (ParseT 0 0 0 20 w) := by
  have hA := part_any A
  have hB := part_any B
  have hC := part_any C
  rw [hx] at hA
  rw [hy] at hB
  rw [hz] at hC
  clear hx hy hz
  go_enter Tryz.func49, Tryz.ntmps49
  go_wp2_with fail
  refine (pieces_any s 46 _ hl).mono ?_
  rintro e w1 ⟨v, rfl, hsl⟩
  rw [hps] at hsl
  obtain ⟨g, cap, rfl, hg, hcap⟩ := hsl.form (by simp)
  have e0 : (w.alloc (.cells #[.int .i64 0, .int .i64 0, .int .i64 0] 31)).heap.size = w.heap.size + 1 := by show (w.heap.push _).size = _; simp
  rw [e0] at hg
  have hglt : g < w1.heap.size := (hsl.1.lt g rfl).2
  have hs1 := hsl.2.size
  have HT := Lib.hid (T3.mk (w := w) (w' := w1.alloc (.cells #[.int .i64 0, .int .i64 0, .int .i64 0] 31)) (g := g) (p := w1.heap.size) (A := A) (B := B) (C := C) (x := 0) (y := 0) (z := 0)
    (((Gr.refl w1).alloc _ _).heap (hsl.2.heap (heap_alloc_new w _))) (heap_alloc_new w1 _)
    ⟨cap, by
      have r := hsl.1.alloc (.cells #[.int .i64 0, .int .i64 0, .int .i64 0] 31)
      rw [e0] at r
      simpa [strs, mk_bytes] using r⟩
    (grown_trans (grown_trans ((Gr.refl w).alloc _ _) hsl.2) ((Gr.refl w1).alloc _ _)) (by omega) hglt (by omega))
  clear hsl e0
  simp only [List.length_cons, List.length_nil, Nat.zero_add, Nat.reduceAdd] at hcap ⊢
  go_wp2_with fail
  generalize w1.alloc (.cells #[.int .i64 0, .int .i64 0, .int .i64 0] 31) = w3 at *
  generalize w1.heap.size = p at *
  clear hs1
  have hpw := HT.out.hp
  refine wp_loop_rounds 4 ?_
  obtain ⟨q0, _, _⟩ := HT.out.strs
  obtain ⟨c0, _, _⟩ := three_cells HT.out.b1
  have f := fz HT.out.b1
  rw [rounds_succ]
  go_wp2_with fail
  refine (hA _).mono ?_
  rintro e w' ⟨rfl, rfl⟩
  go_wp2_with fail
  have HT1 := Lib.hid (HT.out.s0 x)
  clear q0 c0 f HT
  generalize w'.setCell ⟨p, 0, none⟩ (.int .i64 x) = w4 at *
  obtain ⟨_, q1, _⟩ := HT1.out.strs
  obtain ⟨_, c1, _⟩ := three_cells HT1.out.b1
  have f := fz HT1.out.b1
  rw [rounds_succ]
  go_wp2_with fail
  refine (hB _).mono ?_
  rintro e w' ⟨rfl, rfl⟩
  go_wp2_with fail
  have HT2 := Lib.hid (HT1.out.s1 y)
  clear q1 c1 f HT1
  generalize w'.setCell ⟨p, 1, none⟩ (.int .i64 y) = w5 at *
  obtain ⟨_, _, q2⟩ := HT2.out.strs
  obtain ⟨_, _, c2⟩ := three_cells HT2.out.b1
  have f := fz HT2.out.b1
  rw [rounds_succ]
  go_wp2_with fail
  refine (hC _).mono ?_
  rintro e w' ⟨rfl, rfl⟩
  go_wp2_with fail
  have HT3 := Lib.hid (HT2.out.s2 z)
  clear q2 c2 f HT2
  generalize w'.setCell ⟨p, 2, none⟩ (.int .i64 z) = w6 at *
  obtain ⟨c0, c1, c2⟩ := three_cells HT3.out.b1
  rw [rounds_succ]
  go_wp2_with fail
  refine (goodR_any x y z _).mono ?_
  rintro e w7 ⟨rfl, hg7⟩
  rw [hgood]
  have e1 := hg7.heap HT3.out.b1
  have e2 := hg7.heap HT3.out.b0
  have G := Lib.hid (grown_trans HT3.out.gr hg7)
  clear HT3 hg7 c0 c1 c2
  obtain ⟨c0, c1, c2⟩ := three_cells e1
  obtain ⟨a0, a1, a2⟩ := three_cells e2
  have f := fz e2
  clear e1 e2
  go_wp2_with fail
  refine bodyPost_ret (v := .tuple #[.agg #[.int .i64 0, .int .i64 0, .int .i64 0], .int .i64 20]) (by simp [results, Tryz.results49, go_sem, a0, a1, a2]) rfl ⟨rfl, ?_⟩
  first | exact G.out | exact ((G.out.set (Nat.le_refl _) _).set (Nat.le_refl _) _).set (Nat.le_refl _) _
theorem part_good {l : List UInt8} (h0 : 0 ≤ partI l) : okP l = true := by
  cases h : okP l with
  | true => rfl
  | false => rw [part_no h] at h0; omega
theorem parseR_any (s : ByteArray) (w : World) (hl : s.size ≤ 65536) : Calls Tryz.prog 49 #[.string s] w (ParseO (verL s.data.toList) w) := by
  by_cases h3 : (pcs 46 s.data.toList).length = 3
  · obtain ⟨p, q, r, e3⟩ : ∃ p q r, pcs 46 s.data.toList = [p, q, r] := by
      match h : pcs 46 s.data.toList, h3 with
      | [p, q, r], _ => exact ⟨p, q, r, rfl⟩
    have ev : verL s.data.toList = if okP p && (okP q && okP r) then some (val p, val q, val r) else none := by
      unfold verL; rw [e3]
    have e3' : pcs 46 s.data.toList = [(⟨p.toArray⟩ : ByteArray).data.toList, (⟨q.toArray⟩ : ByteArray).data.toList, (⟨r.toArray⟩ : ByteArray).data.toList] := e3
    cases hk : okP p && (okP q && okP r) with
    | true =>
      rw [ev, hk, if_pos rfl]
      simp only [Bool.and_eq_true] at hk
      obtain ⟨k1, k2, k3⟩ := hk
      have b1 := (okP_back k1).2
      have b2 := (okP_back k2).2
      have b3 := (okP_back k3).2
      exact parseR_three s ⟨p.toArray⟩ ⟨q.toArray⟩ ⟨r.toArray⟩ w hl e3' _ _ _ (part_yes k1) (part_yes k2) (part_yes k3) (good_yes (by omega))
    | false =>
      rw [ev, hk, if_neg (by simp)]
      refine parseR_bad s ⟨p.toArray⟩ ⟨q.toArray⟩ ⟨r.toArray⟩ w hl e3' _ _ _ rfl rfl rfl (good_no fun hg => ?_)
      rw [show okP p = true from part_good hg.1, show okP q = true from part_good hg.2.2.1, show okP r = true from part_good hg.2.2.2.2.1] at hk
      cases hk
  · have ev : verL s.data.toList = none := by
      unfold verL
      split
      · rename_i p q r e; rw [e] at h3; exact absurd rfl h3
      · rfl
    rw [ev]
    exact parseR_count s w hl h3
end Go.Proofs.YtaijhebjjbcdfaaGreatDoor.Ver
