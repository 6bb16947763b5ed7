/- The contracts of the digits' reading and of the statements' own guard. Condition: the library's own variable holds some number. -/
import Derived.Test.YtaijhebjjbcdfaaGreatDoorVerWalkA
import Derived.Test.YtaijhebjjbcdfaaGreatDoorShelf
import Derived.Lib.SmallJoins
import Derived.LoopN
namespace Go.Proofs.YtaijhebjjbcdfaaGreatDoor.Ver
set_option linter.unusedVariables false
open Go.ChangeShapes Go.WideShapes Go.ChangeAt Go.RowKit
theorem atoi_gr (s : ByteArray) (n : Int) (hl : s.size ≤ 18) (h : Lib.atoi s.data.toList = some n) (w : World) :
    Calls Tryz.prog 101 #[.string s] w fun e w' => e = .returned (.tuple #[.int .i64 n, .nilIface]) ∧ Gr w w' :=
  (Tryz.strconv_Atoi s n hl h w).mono fun e w' ⟨h1, t, h2⟩ => ⟨h1, by rw [h2]; exact Joins.below_bytesWorld _ _ _ _ (Nat.le_refl _)⟩
def Digits (n : Int) (b : Bool) (w : World) (e : Ending) (w' : World) : Prop := e = .returned (.tuple #[.int .i64 n, .bool b]) ∧ Gr w w'
set_option maxHeartbeats 1000000 in
theorem digits_ok (s : ByteArray) (n : Nat) (w : World) (hl : s.size ≤ 18) (h : Lib.atoi s.data.toList = some (n : Int)) (hn : n < 100) (hd : Lib.decDigits n = s.data.toList) :
    Calls Tryz.prog 79 #[.string s] w (Digits n true w) := by
  have hx : (ByteArray.mk (Lib.decDigits n).toArray) = s := by rw [hd]
  have Hx := Lib.hid hx
  clear hx hd
  go_enter Tryz.func79, Tryz.ntmps79
  go_wp2_with fail
  refine (atoi_gr s n hl h w).mono ?_
  rintro e w1 ⟨rfl, hg⟩
  go_wp2_with fail
  refine (Tryz.strconv_Itoa_small n hn _).mono ?_
  rintro e w2 ⟨rfl, rfl⟩
  rw [Hx.out]
  go_wp2_with fail
  go_ret2
  exact ⟨rfl, hg⟩
set_option maxHeartbeats 1000000 in
theorem digits_bad (s : ByteArray) (n : Nat) (w : World) (hl : s.size ≤ 18) (h : Lib.atoi s.data.toList = some (n : Int)) (hn : n < 100) (hd : ¬ Lib.decDigits n = s.data.toList) :
    Calls Tryz.prog 79 #[.string s] w (Digits 0 false w) := by
  have hx : (!Lib.decDigits n == s.toList) = true := by rw [Lib.toList_data]; simp [hd]
  clear hd
  go_enter Tryz.func79, Tryz.ntmps79
  go_wp2_with fail
  refine (atoi_gr s n hl h w).mono ?_
  rintro e w1 ⟨rfl, hg⟩
  go_wp2_with fail
  refine (Tryz.strconv_Itoa_small n hn _).mono ?_
  rintro e w2 ⟨rfl, rfl⟩
  go_wp2_with fail
  go_ret2
  exact ⟨rfl, hg⟩
def Sp (ps : List ByteArray) (w : World) (e : Ending) (w' : World) : Prop := e = .returned (.slice (some ⟨w.heap.size, 0, none⟩) ps.length ps.length) ∧ w' = w.alloc (.cells (ps.map Value.string).toArray 9)
theorem split_eq (s : ByteArray) (ps : List ByteArray) (m : Int) (w : World) (hs : s.size < 4294967281) (hm : w.cell? ⟨2, 0, none⟩ = some (.int .i64 m)) (h1 : Lib.countB s ⟨#[46]⟩ + 1 = ps.length) (h2 : Lib.splitB ⟨#[46]⟩ 0 (Lib.countB s ⟨#[46]⟩) s = ps) :
    Calls Tryz.prog 78 #[.string s, .string ⟨#[46]⟩] w (Sp ps w) :=
  (Tryz.strings_Split s ⟨#[46]⟩ m w hs hm (by decide)).mono fun e w' ⟨q1, q2⟩ => ⟨by rw [q1, h1], by rw [q2, h2]⟩
theorem split_a (m : Int) (w : World) (hm : w.cell? ⟨2, 0, none⟩ = some (.int .i64 m)) :
    Calls Tryz.prog 78 #[.string { data := #[49, 46, 50, 48, 46, 51] }, .string { data := #[46] }] w (Sp [⟨#[49]⟩, ⟨#[50, 48]⟩, ⟨#[51]⟩] w) :=
  split_eq _ _ m w (by decide) hm (by decide +kernel) (by decide +kernel)
theorem split_b (m : Int) (w : World) (hm : w.cell? ⟨2, 0, none⟩ = some (.int .i64 m)) :
    Calls Tryz.prog 78 #[.string { data := #[48, 49, 46, 50, 46, 51] }, .string { data := #[46] }] w (Sp [⟨#[48, 49]⟩, ⟨#[50]⟩, ⟨#[51]⟩] w) :=
  split_eq _ _ m w (by decide) hm (by decide +kernel) (by decide +kernel)
theorem dig_1 (w : World) : Calls Tryz.prog 79 #[.string ⟨#[49]⟩] w (Digits 1 true w) := digits_ok ⟨#[49]⟩ 1 w (by decide) (by decide +kernel) (by decide) (by decide +kernel)
theorem dig_20 (w : World) : Calls Tryz.prog 79 #[.string ⟨#[50, 48]⟩] w (Digits 20 true w) := digits_ok ⟨#[50, 48]⟩ 20 w (by decide) (by decide +kernel) (by decide) (by decide +kernel)
theorem dig_3 (w : World) : Calls Tryz.prog 79 #[.string ⟨#[51]⟩] w (Digits 3 true w) := digits_ok ⟨#[51]⟩ 3 w (by decide) (by decide +kernel) (by decide) (by decide +kernel)
theorem dig_01 (w : World) : Calls Tryz.prog 79 #[.string ⟨#[48, 49]⟩] w (Digits 0 false w) := digits_bad ⟨#[48, 49]⟩ 1 w (by decide) (by decide +kernel) (by decide) (by decide +kernel)
theorem Gr.heap {a b : World} (h : Gr a b) {k : Nat} {o : Obj} (hk : a.heap[k]? = some o) : b.heap[k]? = some o := (h.block k (lt_of_block hk)).trans hk
theorem three (w : World) (x y z : Obj) : (((w.alloc x).alloc y).alloc z).heap[w.heap.size]? = some x ∧ (((w.alloc x).alloc y).alloc z).heap[w.heap.size + 1]? = some y ∧ (((w.alloc x).alloc y).alloc z).heap[w.heap.size + 1 + 1]? = some z := by
  have s1 : (w.alloc x).heap.size = w.heap.size + 1 := by show (w.heap.push _).size = _; simp
  have s2 : ((w.alloc x).alloc y).heap.size = w.heap.size + 1 + 1 := by show ((w.alloc x).heap.push _).size = _; rw [Array.size_push, s1]
  refine ⟨?_, ?_, ?_⟩
  · rw [Below.heap_alloc _ _ _ (by omega), Below.heap_alloc _ _ _ (by omega)]; exact heap_alloc_new w x
  · rw [Below.heap_alloc _ _ _ (by omega), ← s1]; exact heap_alloc_new _ y
  · rw [← s2]; exact heap_alloc_new _ z
theorem fz {w : World} {b : Nat} {cs : Array Value} {t : TypeId} (h : w.heap[b]? = some (.cells cs t (0, 0))) : ∀ i, w.frozen? ⟨b, i, none⟩ = false := by
  intro i; simp [World.frozen?, h]
theorem heap_set {w : World} {b i : Nat} {cs : Array Value} {t : TypeId} (h : w.heap[b]? = some (.cells cs t (0, 0))) (u : Value) :
    (w.setCell ⟨b, i, none⟩ u).heap[b]? = some (.cells (cs.setIfInBounds i u) t (0, 0)) := by
  have hlt := lt_of_block h
  have h' : w.heap[b] = .cells cs t (0, 0) := by simpa [Array.getElem?_eq_getElem hlt] using h
  show (w.heap.modify b _)[b]? = _
  rw [Array.getElem?_eq_getElem (by simpa using hlt), Array.getElem_modify_self, h']
  rfl
theorem set3_0 {w : World} {b : Nat} {x0 x1 x2 : Value} {t : TypeId} (h : w.heap[b]? = some (.cells #[x0, x1, x2] t (0, 0))) (u : Value) :
    (w.setCell ⟨b, 0, none⟩ u).heap[b]? = some (.cells #[u, x1, x2] t (0, 0)) := heap_set h u
theorem set3_1 {w : World} {b : Nat} {x0 x1 x2 : Value} {t : TypeId} (h : w.heap[b]? = some (.cells #[x0, x1, x2] t (0, 0))) (u : Value) :
    (w.setCell ⟨b, 1, none⟩ u).heap[b]? = some (.cells #[x0, u, x2] t (0, 0)) := heap_set h u
theorem set3_2 {w : World} {b : Nat} {x0 x1 x2 : Value} {t : TypeId} (h : w.heap[b]? = some (.cells #[x0, x1, x2] t (0, 0))) (u : Value) :
    (w.setCell ⟨b, 2, none⟩ u).heap[b]? = some (.cells #[x0, x1, u] t (0, 0)) := heap_set h u
theorem set3_other {w : World} {b c i : Nat} {o : Obj} (h : w.heap[b]? = some o) (hne : b ≠ c) (u : Value) : (w.setCell ⟨c, i, none⟩ u).heap[b]? = some o := by
  rw [Below.heap_setCell _ _ _ _ hne]; exact h
theorem Gr.set {a w : World} (h : Gr a w) {b i : Nat} (hb : a.heap.size ≤ b) (u : Value) : Gr a (w.setCell ⟨b, i, none⟩ u) := Below.setCell h (p := ⟨b, i, none⟩) hb u
set_option maxHeartbeats 2000000 in
theorem parse_b (m : Int) (w : World) (hm : w.cell? ⟨2, 0, none⟩ = some (.int .i64 m)) :
    Calls Tryz.prog 64 #[.string { data := #[48, 49, 46, 50, 46, 51] }] w fun e w' => e = .returned (.tuple #[.agg #[.int .i64 0, .int .i64 0, .int .i64 0], .int .i64 20]) ∧ Gr w w' := by
  have Hm := Lib.hid hm
  clear hm
  go_enter Tryz.func64, Tryz.ntmps64
  go_wp2_with fail
  refine (split_b m _ (((Gr.refl w).alloc _ _).alloc _ _ |>.keep Hm.out)).mono ?_
  rintro e w1 ⟨rfl, rfl⟩
  go_wp2_with fail
  obtain ⟨ha, hb, hc⟩ := three w (.cells #[.int .i64 0, .int .i64 0, .int .i64 0] 31) (.cells #[.int .i64 0, .int .i64 0, .int .i64 0] 31) (.cells #[.string { data := #[48, 49] }, .string { data := #[50] }, .string { data := #[51] }] 9)
  have Ha := Lib.hid ha
  clear ha hb hc
  have Hg0 := Lib.hid ((((Gr.refl w).alloc #[.int .i64 0, .int .i64 0, .int .i64 0] 31).alloc #[.int .i64 0, .int .i64 0, .int .i64 0] 31).alloc #[.string { data := #[48, 49] }, .string { data := #[50] }, .string { data := #[51] }] 9)
  refine wp_loop_rounds 1 ?_
  rw [rounds_succ]
  go_wp2_with fail
  refine (dig_01 _).mono ?_
  rintro e w2 ⟨rfl, hg⟩
  have h2 := hg.heap Ha.out
  have c := fun i => cell_of_row w2 w.heap.size i _ 31 (0, 0) h2
  have c0 := c 0
  have c1 := c 1
  have c2 := c 2
  simp at c0 c1 c2
  have f := fz h2
  have Hg := Lib.hid (grown_trans Hg0.out hg)
  clear hg c h2
  go_wp2_with fail
  refine bodyPost_ret (v := .tuple #[.agg #[.int .i64 0, .int .i64 0, .int .i64 0], .int .i64 20]) (by simp [results, Tryz.results64, go_sem, c0, c1, c2]) rfl ⟨rfl, ?_⟩
  exact ((Hg.out.set (Nat.le_refl _) _).set (Nat.le_refl _) _).set (Nat.le_refl _) _
structure V (w w' : World) (x y z : Int) : Prop where
  a : w'.heap[w.heap.size]? = some (.cells #[.int .i64 0, .int .i64 0, .int .i64 0] 31 (0, 0))
  b : w'.heap[w.heap.size + 1]? = some (.cells #[.int .i64 x, .int .i64 y, .int .i64 z] 31 (0, 0))
  c : w'.heap[w.heap.size + 1 + 1]? = some (.cells #[.string { data := #[49] }, .string { data := #[50, 48] }, .string { data := #[51] }] 9 (0, 0))
  g : Gr w w'
theorem V.gr {w w1 w2 : World} {x y z : Int} (h : V w w1 x y z) (g : Gr w1 w2) : V w w2 x y z := ⟨g.heap h.a, g.heap h.b, g.heap h.c, grown_trans h.g g⟩
theorem V.s0 {w w1 : World} {x y z : Int} (h : V w w1 x y z) (u : Int) : V w (w1.setCell ⟨w.heap.size + 1, 0, none⟩ (.int .i64 u)) u y z :=
  ⟨set3_other h.a (by omega) _, set3_0 h.b _, set3_other h.c (by omega) _, h.g.set (by omega) _⟩
theorem V.s1 {w w1 : World} {x y z : Int} (h : V w w1 x y z) (u : Int) : V w (w1.setCell ⟨w.heap.size + 1, 1, none⟩ (.int .i64 u)) x u z :=
  ⟨set3_other h.a (by omega) _, set3_1 h.b _, set3_other h.c (by omega) _, h.g.set (by omega) _⟩
theorem V.s2 {w w1 : World} {x y z : Int} (h : V w w1 x y z) (u : Int) : V w (w1.setCell ⟨w.heap.size + 1, 2, none⟩ (.int .i64 u)) x y u :=
  ⟨set3_other h.a (by omega) _, set3_2 h.b _, set3_other h.c (by omega) _, h.g.set (by omega) _⟩
theorem V.cells {w w' : World} {x y z : Int} (h : V w w' x y z) : w'.cell? ⟨w.heap.size + 1, 0, none⟩ = some (.int .i64 x) ∧ w'.cell? ⟨w.heap.size + 1, 1, none⟩ = some (.int .i64 y) ∧ w'.cell? ⟨w.heap.size + 1, 2, none⟩ = some (.int .i64 z) :=
  ⟨by rw [cell_of_row w' _ 0 _ 31 (0, 0) h.b]; rfl, by rw [cell_of_row w' _ 1 _ 31 (0, 0) h.b]; rfl, by rw [cell_of_row w' _ 2 _ 31 (0, 0) h.b]; rfl⟩
theorem V.parts {w w' : World} {x y z : Int} (h : V w w' x y z) : w'.cell? ⟨w.heap.size + 1 + 1, 0, none⟩ = some (.string { data := #[49] }) ∧ w'.cell? ⟨w.heap.size + 1 + 1, 1, none⟩ = some (.string { data := #[50, 48] }) ∧ w'.cell? ⟨w.heap.size + 1 + 1, 2, none⟩ = some (.string { data := #[51] }) :=
  ⟨by rw [cell_of_row w' _ 0 _ 9 (0, 0) h.c]; rfl, by rw [cell_of_row w' _ 1 _ 9 (0, 0) h.c]; rfl, by rw [cell_of_row w' _ 2 _ 9 (0, 0) h.c]; rfl⟩
theorem V.outs {w w' : World} {x y z : Int} (h : V w w' x y z) : w'.cell? ⟨w.heap.size, 0, none⟩ = some (.int .i64 0) ∧ w'.cell? ⟨w.heap.size, 1, none⟩ = some (.int .i64 0) ∧ w'.cell? ⟨w.heap.size, 2, none⟩ = some (.int .i64 0) :=
  ⟨by rw [cell_of_row w' _ 0 _ 31 (0, 0) h.a]; rfl, by rw [cell_of_row w' _ 1 _ 31 (0, 0) h.a]; rfl, by rw [cell_of_row w' _ 2 _ 31 (0, 0) h.a]; rfl⟩
set_option maxHeartbeats 2000000 in
theorem parse_a (m : Int) (w : World) (hm : w.cell? ⟨2, 0, none⟩ = some (.int .i64 m)) :
    Calls Tryz.prog 64 #[.string { data := #[49, 46, 50, 48, 46, 51] }] w fun e w' => e = .returned (.tuple #[.agg #[.int .i64 1, .int .i64 20, .int .i64 3], .int .i64 0]) ∧ Gr w w' := by
  have Hm := Lib.hid hm
  clear hm
  go_enter Tryz.func64, Tryz.ntmps64
  go_wp2_with fail
  refine (split_a m _ (((Gr.refl w).alloc _ _).alloc _ _ |>.keep Hm.out)).mono ?_
  rintro e w1 ⟨rfl, rfl⟩
  go_wp2_with fail
  obtain ⟨ha, hb, hc⟩ := three w (.cells #[.int .i64 0, .int .i64 0, .int .i64 0] 31) (.cells #[.int .i64 0, .int .i64 0, .int .i64 0] 31) (.cells #[.string { data := #[49] }, .string { data := #[50, 48] }, .string { data := #[51] }] 9)
  have Hv0 := Lib.hid (V.mk (w := w) ha hb hc ((((Gr.refl w).alloc #[.int .i64 0, .int .i64 0, .int .i64 0] 31).alloc #[.int .i64 0, .int .i64 0, .int .i64 0] 31).alloc #[.string { data := #[49] }, .string { data := #[50, 48] }, .string { data := #[51] }] 9))
  clear ha hb hc
  refine wp_loop_rounds 4 ?_
  rw [rounds_succ]
  go_wp2_with fail
  refine (dig_1 _).mono ?_
  rintro e w2 ⟨rfl, hg⟩
  have Hv2 := Lib.hid (Hv0.out.gr hg)
  have f := fz Hv2.out.b
  obtain ⟨c0, _, _⟩ := Hv2.out.cells
  clear hg
  go_wp2_with fail
  have Hv3 := Lib.hid (Hv2.out.s0 1)
  clear f c0 Hv2 Hv0
  generalize w2.setCell ⟨w.heap.size + 1, 0, none⟩ (.int .i64 1) = w3 at *
  obtain ⟨_, p1, _⟩ := Hv3.out.parts
  rw [rounds_succ]
  go_wp2_with fail
  refine (dig_20 _).mono ?_
  rintro e w4 ⟨rfl, hg⟩
  have Hv4 := Lib.hid (Hv3.out.gr hg)
  have f := fz Hv4.out.b
  obtain ⟨_, c1, _⟩ := Hv4.out.cells
  clear hg p1
  go_wp2_with fail
  have Hv5 := Lib.hid (Hv4.out.s1 20)
  clear f c1 Hv4 Hv3
  generalize w4.setCell ⟨w.heap.size + 1, 1, none⟩ (.int .i64 20) = w5 at *
  obtain ⟨_, _, p2⟩ := Hv5.out.parts
  rw [rounds_succ]
  go_wp2_with fail
  refine (dig_3 _).mono ?_
  rintro e w6 ⟨rfl, hg⟩
  have Hv6 := Lib.hid (Hv5.out.gr hg)
  have f := fz Hv6.out.b
  obtain ⟨_, _, c2⟩ := Hv6.out.cells
  clear hg p2
  go_wp2_with fail
  have Hv7 := Lib.hid (Hv6.out.s2 3)
  clear f c2 Hv6 Hv5
  generalize w6.setCell ⟨w.heap.size + 1, 2, none⟩ (.int .i64 3) = w7 at *
  obtain ⟨c0, c1, c2⟩ := Hv7.out.cells
  rw [rounds_succ]
  go_wp2_with fail
  refine (good_any 1 20 3 _).mono ?_
  rintro e w8 ⟨rfl, hg⟩
  rw [show goodB 1 20 3 = true from by decide]
  have Hv8 := Lib.hid (Hv7.out.gr hg)
  clear c0 c1 c2 hg Hv7
  obtain ⟨c0, c1, c2⟩ := Hv8.out.cells
  obtain ⟨a0, a1, a2⟩ := Hv8.out.outs
  have f := fz Hv8.out.a
  go_wp2_with fail
  refine bodyPost_ret (v := .tuple #[.agg #[.int .i64 1, .int .i64 20, .int .i64 3], .int .i64 0]) (by simp [results, Tryz.results64, go_sem, a0, a1, a2]) rfl ⟨rfl, ?_⟩
  exact ((Hv8.out.g.set (Nat.le_refl _) _).set (Nat.le_refl _) _).set (Nat.le_refl _) _
end Go.Proofs.YtaijhebjjbcdfaaGreatDoor.Ver
