/- The walk of the statement on numbers. Condition: the library's own variable holds some number. -/
import Derived.Test.YtfcanopbgikmcaaDoorWalkB
namespace Go.Proofs.YtfcanopbgikmcaaDoor
set_option linter.unusedVariables false
open Go.ChangeShapes Go.WideShapes Go.ChangeAt Go.RowKit
def OfT (x y z : Int) (g : Bool) (w : World) (e : Ending) (w' : World) : Prop := e = .returned (.tuple #[.agg #[.int .i64 x, .int .i64 y, .int .i64 z], .bool g]) ∧ Gr w w'
def same3 (a b c x y z : Int) : Bool := a == x && (b == y && c == z)
theorem same3_self (a b c : Int) : same3 a b c a b c = true := by simp [same3]
theorem same3_no {a b c x y z : Int} (h : ¬ (a = x ∧ b = y ∧ c = z)) : same3 a b c x y z = false := by
  unfold same3
  by_cases h1 : a = x <;> by_cases h2 : b = y <;> by_cases h3 : c = z <;> simp_all
@[go_sem] theorem eq23 (a b c x y z : Int) (w : World) : (Op.equalIn 10000 23 (.agg #[.int .i64 a, .int .i64 b, .int .i64 c]) (.agg #[.int .i64 x, .int .i64 y, .int .i64 z])).run Tryd.prog w = .ok (same3 a b c x y z) w := by
  have u3 := Tryd.underlying3
  have a3 := Tryd.isAgg3
  have z3 := Tryd.sizeOf3
  rw [show (10000 : Nat) = 9999 + 1 from rfl, Op.equalIn]
  simp only [Sem.run_bind, run_underlying Tryd.underlying23, Result.andThen_ok]
  simp only [Std.Legacy.Range.forIn_eq_forIn_range', Std.Legacy.Range.size, Nat.sub_zero, Nat.add_sub_cancel, Nat.div_one, List.range'_succ, List.range'_zero, List.forIn_cons, List.forIn_nil]
  go_simp
  unfold same3
  by_cases h1 : a = x <;> by_cases h2 : b = y <;> by_cases h3 : c = z <;> simp [h1, h2, h3]
structure K (w w' : World) (p q : Nat) (a b c x y z x' y' z' : Int) : Prop where
  b0 : w'.heap[w.heap.size]? = some (.cells #[.int .i64 a, .int .i64 b, .int .i64 c] 23 (0, 0))
  b1 : w'.heap[p]? = some (.cells #[.int .i64 x, .int .i64 y, .int .i64 z] 23 (0, 0))
  b2 : w'.heap[q]? = some (.cells #[.int .i64 x', .int .i64 y', .int .i64 z'] 23 (0, 0))
  g : Gr w w'
  hp : w.heap.size < p
  hq : p < q
section
variable {w w1 w2 : World} {p q : Nat} {a b c x y z x' y' z' : Int}
theorem three_cells {w : World} {n : Nat} {x y z : Int} (h : w.heap[n]? = some (.cells #[.int .i64 x, .int .i64 y, .int .i64 z] 23 (0, 0))) :
    w.cell? ⟨n, 0, none⟩ = some (.int .i64 x) ∧ w.cell? ⟨n, 1, none⟩ = some (.int .i64 y) ∧ w.cell? ⟨n, 2, none⟩ = some (.int .i64 z) :=
  ⟨by rw [cell_of_row w _ 0 _ 23 (0, 0) h]; rfl, by rw [cell_of_row w _ 1 _ 23 (0, 0) h]; rfl, by rw [cell_of_row w _ 2 _ 23 (0, 0) h]; rfl⟩
theorem K.gr (h : K w w1 p q a b c x y z x' y' z') (g : Gr w1 w2) : K w w2 p q a b c x y z x' y' z' := ⟨g.heap h.b0, g.heap h.b1, g.heap h.b2, grown_trans h.g g, h.hp, h.hq⟩
theorem set_all {w : World} {n : Nat} {x y z : Int} (h : w.heap[n]? = some (.cells #[.int .i64 x, .int .i64 y, .int .i64 z] 23 (0, 0))) (u v t : Int) :
    (((w.setCell ⟨n, 0, none⟩ (.int .i64 u)).setCell ⟨n, 1, none⟩ (.int .i64 v)).setCell ⟨n, 2, none⟩ (.int .i64 t)).heap[n]? = some (.cells #[.int .i64 u, .int .i64 v, .int .i64 t] 23 (0, 0)) :=
  set3_2 (set3_1 (set3_0 h _) _) _
theorem set_none {w : World} {k n : Nat} {o : Obj} (h : w.heap[k]? = some o) (hne : k ≠ n) (u v t : Int) :
    (((w.setCell ⟨n, 0, none⟩ (.int .i64 u)).setCell ⟨n, 1, none⟩ (.int .i64 v)).setCell ⟨n, 2, none⟩ (.int .i64 t)).heap[k]? = some o :=
  set3_other (set3_other (set3_other h hne _) hne _) hne _
theorem K.setp (h : K w w1 p q a b c x y z x' y' z') (u v t : Int) :
    K w (((w1.setCell ⟨p, 0, none⟩ (.int .i64 u)).setCell ⟨p, 1, none⟩ (.int .i64 v)).setCell ⟨p, 2, none⟩ (.int .i64 t)) p q a b c u v t x' y' z' :=
  have := h.hp
  have := h.hq
  ⟨set_none h.b0 (by omega) _ _ _, set_all h.b1 _ _ _, set_none h.b2 (by omega) _ _ _, ((h.g.set (by omega) _).set (by omega) _).set (by omega) _, h.hp, h.hq⟩
theorem K.setq (h : K w w1 p q a b c x y z x' y' z') (u v t : Int) :
    K w (((w1.setCell ⟨q, 0, none⟩ (.int .i64 u)).setCell ⟨q, 1, none⟩ (.int .i64 v)).setCell ⟨q, 2, none⟩ (.int .i64 t)) p q a b c x y z u v t :=
  have := h.hp
  have := h.hq
  ⟨set_none h.b0 (by omega) _ _ _, set_none h.b1 (by omega) _ _ _, set_all h.b2 _ _ _, ((h.g.set (by omega) _).set (by omega) _).set (by omega) _, h.hp, h.hq⟩
theorem K.make {w3 w4 w5 : World} (g : Gr (w.alloc (.cells #[.int .i64 a, .int .i64 b, .int .i64 c] 23)) w3) (g4 : Gr (w3.alloc (.cells #[.int .i64 x, .int .i64 y, .int .i64 z] 23)) w4) :
    K w (w4.alloc (.cells #[.int .i64 x', .int .i64 y', .int .i64 z'] 23)) w3.heap.size w4.heap.size a b c x y z x' y' z' :=
  have e1 : (w3.alloc (.cells #[.int .i64 x, .int .i64 y, .int .i64 z] 23)).heap.size = w3.heap.size + 1 := by show (w3.heap.push _).size = _; simp
  have e0 : (w.alloc (.cells #[.int .i64 a, .int .i64 b, .int .i64 c] 23)).heap.size = w.heap.size + 1 := by show (w.heap.push _).size = _; simp
  have s1 := g4.size
  have s0 := g.size
  ⟨((Gr.refl w4).alloc _ _).heap (g4.heap (((Gr.refl w3).alloc _ _).heap (g.heap (heap_alloc_new w _)))), ((Gr.refl w4).alloc _ _).heap (g4.heap (heap_alloc_new w3 _)), heap_alloc_new w4 _,
   grown_trans (grown_trans (grown_trans ((Gr.refl w).alloc _ _) g) (grown_trans ((Gr.refl w3).alloc _ _) g4)) ((Gr.refl w4).alloc _ _), by omega, by omega⟩
end
set_option maxHeartbeats 2000000 in
set_option maxRecDepth 10000 in
theorem numbers_yes (m k n : Int) (a b c x y z : Int) (gn : Bool) (w : World) (hm : w.cell? ⟨1, 0, none⟩ = some (.int .i64 m))
    (h14 : ∀ w, Calls Tryd.prog 14 #[.agg #[.int .i64 a, .int .i64 b, .int .i64 c]] w (Nu k w)) (h17 : ∀ w, Calls Tryd.prog 17 #[.agg #[.int .i64 a, .int .i64 b, .int .i64 c]] w (Nu k w))
    (h9 : ∀ w, Calls Tryd.prog 9 #[.agg #[.int .i64 a, .int .i64 b, .int .i64 c]] w (Bo true w))
    (h15 : ∀ w, Calls Tryd.prog 15 #[.int .i64 k] w (OfT a b c true w)) (h16 : ∀ w, Calls Tryd.prog 16 #[.int .i64 k] w (OfT a b c true w))
    (h15' : ∀ w, Calls Tryd.prog 15 #[.int .i64 n] w (OfT x y z gn w)) (h16' : ∀ w, Calls Tryd.prog 16 #[.int .i64 n] w (OfT x y z gn w))
    (h14' : gn = true → ∀ w, Calls Tryd.prog 14 #[.agg #[.int .i64 x, .int .i64 y, .int .i64 z]] w (Nu n w)) :
    Calls Tryd.prog 4 #[.agg #[.int .i64 a, .int .i64 b, .int .i64 c], .int .i64 n] w fun e w' => e = .returned (.bool true) ∧ Gr w w' := by
  have Hm := Lib.hid hm
  clear hm
  go_enter Tryd.func4, Tryd.ntmps4
  go_wp2_with fail
  refine (alive_any m _ (((Gr.refl w).alloc _ _).keep Hm.out)).mono ?_
  rintro e w1 ⟨rfl, g1⟩
  obtain ⟨c0, c1, c2⟩ := three_cells (g1.heap (heap_alloc_new w _))
  have G1 := Lib.hid g1
  clear g1
  go_wp2_with fail
  refine (h14 _).mono ?_
  rintro e w2 ⟨rfl, g2⟩
  have G2 := Lib.hid (grown_trans G1.out g2)
  clear g2 c0 c1 c2
  go_wp2_with fail
  refine (h15 _).mono ?_
  rintro e w3 ⟨rfl, g3⟩
  have G3 := Lib.hid (grown_trans G2.out g3)
  clear g3
  go_wp2_with fail
  refine (h16 _).mono ?_
  rintro e w4 ⟨rfl, g4⟩
  have K4 := Lib.hid (K.make (w5 := w4) (x' := a) (y' := b) (z' := c) G3.out g4)
  obtain ⟨c0, c1, c2⟩ := three_cells K4.out.b0
  clear g4
  go_wp2_with fail
  refine (h17 _).mono ?_
  rintro e w6 ⟨rfl, g6⟩
  have K6 := Lib.hid (K4.out.gr g6)
  clear g6 K4 G3 G2 G1 c0 c1 c2
  obtain ⟨c0, c1, c2⟩ := three_cells K6.out.b0
  obtain ⟨d0, d1, d2⟩ := three_cells K6.out.b1
  obtain ⟨e0, e1, e2⟩ := three_cells K6.out.b2
  have sm := same3_self a b c
  go_wp2_with fail
  refine (h9 _).mono ?_
  rintro e w7 ⟨rfl, g7⟩
  have K7 := Lib.hid (K6.out.gr g7)
  clear g7 K6 c0 c1 c2 d0 d1 d2 e0 e1 e2
  obtain ⟨c0, c1, c2⟩ := three_cells K7.out.b0
  obtain ⟨d0, d1, d2⟩ := three_cells K7.out.b1
  go_wp2_with fail
  refine (h15' _).mono ?_
  rintro e w8 ⟨rfl, g8⟩
  have K8 := Lib.hid (K7.out.gr g8)
  clear g8 K7 c0 c1 c2 d0 d1 d2
  have f := fz K8.out.b1
  obtain ⟨d0, d1, d2⟩ := three_cells K8.out.b1
  go_wp2_with fail
  have K9 := Lib.hid (K8.out.setp x y z)
  clear f d0 d1 d2 K8
  generalize ((w8.setCell { block := w3.heap.size, off := 0 } (Value.int IntKind.i64 x)).setCell { block := w3.heap.size, off := 1 } (Value.int IntKind.i64 y)).setCell { block := w3.heap.size, off := 2 } (Value.int IntKind.i64 z) = w9 at *
  refine (h16' _).mono ?_
  rintro e w10 ⟨rfl, g10⟩
  have K10 := Lib.hid (K9.out.gr g10)
  clear g10 K9
  have f := fz K10.out.b2
  obtain ⟨e0, e1, e2⟩ := three_cells K10.out.b2
  have K11 := Lib.hid (K10.out.setq x y z)
  obtain ⟨p0, p1, p2⟩ := three_cells K11.out.b1
  obtain ⟨q0, q1, q2⟩ := three_cells K11.out.b2
  have sx := same3_self x y z
  clear K10
  cases gn
  · go_wp2_with fail
    go_ret
    exact ⟨rfl, K11.out.g⟩
  · have h20 : ∀ w, Calls Tryd.prog 14 #[.agg #[.int .i64 x, .int .i64 y, .int .i64 z]] w (Nu n w) := h14' rfl
    clear h14'
    go_wp2_with fail
    refine (h20 _).mono ?_
    rintro e w12 ⟨rfl, g12⟩
    have G12 := Lib.hid (grown_trans K11.out.g g12)
    clear g12
    go_wp2_with fail
    go_ret
    exact ⟨rfl, G12.out⟩
set_option maxRecDepth 10000 in
theorem numbers_no (m k n : Int) (a b c x y z : Int) (gn : Bool) (w : World) (hm : w.cell? ⟨1, 0, none⟩ = some (.int .i64 m))
    (h14 : ∀ w, Calls Tryd.prog 14 #[.agg #[.int .i64 a, .int .i64 b, .int .i64 c]] w (Nu k w)) (h17 : ∀ w, Calls Tryd.prog 17 #[.agg #[.int .i64 a, .int .i64 b, .int .i64 c]] w (Nu k w))
    (h9 : ∀ w, Calls Tryd.prog 9 #[.agg #[.int .i64 a, .int .i64 b, .int .i64 c]] w (Bo false w))
    (h15 : ∀ w, Calls Tryd.prog 15 #[.int .i64 k] w (OfT 0 0 0 false w)) (h16 : ∀ w, Calls Tryd.prog 16 #[.int .i64 k] w (OfT 0 0 0 false w))
    (h15' : ∀ w, Calls Tryd.prog 15 #[.int .i64 n] w (OfT x y z gn w)) (h16' : ∀ w, Calls Tryd.prog 16 #[.int .i64 n] w (OfT x y z gn w))
    (h14' : gn = true → ∀ w, Calls Tryd.prog 14 #[.agg #[.int .i64 x, .int .i64 y, .int .i64 z]] w (Nu n w)) :
    Calls Tryd.prog 4 #[.agg #[.int .i64 a, .int .i64 b, .int .i64 c], .int .i64 n] w fun e w' => e = .returned (.bool true) ∧ Gr w w' := by
  have Hm := Lib.hid hm
  clear hm
  go_enter Tryd.func4, Tryd.ntmps4
  go_wp2_with fail
  refine (alive_any m _ (((Gr.refl w).alloc _ _).keep Hm.out)).mono ?_
  rintro e w1 ⟨rfl, g1⟩
  obtain ⟨c0, c1, c2⟩ := three_cells (g1.heap (heap_alloc_new w _))
  have G1 := Lib.hid g1
  clear g1
  go_wp2_with fail
  refine (h14 _).mono ?_
  rintro e w2 ⟨rfl, g2⟩
  have G2 := Lib.hid (grown_trans G1.out g2)
  clear g2 c0 c1 c2
  go_wp2_with fail
  refine (h15 _).mono ?_
  rintro e w3 ⟨rfl, g3⟩
  have G3 := Lib.hid (grown_trans G2.out g3)
  clear g3
  go_wp2_with fail
  refine (h16 _).mono ?_
  rintro e w4 ⟨rfl, g4⟩
  have K4 := Lib.hid (K.make (w5 := w4) (x' := 0) (y' := 0) (z' := 0) G3.out g4)
  obtain ⟨c0, c1, c2⟩ := three_cells K4.out.b0
  clear g4
  go_wp2_with fail
  refine (h17 _).mono ?_
  rintro e w6 ⟨rfl, g6⟩
  have K6 := Lib.hid (K4.out.gr g6)
  clear g6 K4 G3 G2 G1 c0 c1 c2
  obtain ⟨c0, c1, c2⟩ := three_cells K6.out.b0
  obtain ⟨d0, d1, d2⟩ := three_cells K6.out.b1
  obtain ⟨e0, e1, e2⟩ := three_cells K6.out.b2
  have sm := same3_self 0 0 0
  go_wp2_with fail
  refine (h9 _).mono ?_
  rintro e w7 ⟨rfl, g7⟩
  have K7 := Lib.hid (K6.out.gr g7)
  clear g7 K6 c0 c1 c2 d0 d1 d2 e0 e1 e2
  obtain ⟨c0, c1, c2⟩ := three_cells K7.out.b0
  obtain ⟨d0, d1, d2⟩ := three_cells K7.out.b1
  go_wp2_with fail
  refine (h15' _).mono ?_
  rintro e w8 ⟨rfl, g8⟩
  have K8 := Lib.hid (K7.out.gr g8)
  clear g8 K7 c0 c1 c2 d0 d1 d2
  have f := fz K8.out.b1
  obtain ⟨d0, d1, d2⟩ := three_cells K8.out.b1
  go_wp2_with fail
  have K9 := Lib.hid (K8.out.setp x y z)
  clear f d0 d1 d2 K8
  generalize ((w8.setCell { block := w3.heap.size, off := 0 } (Value.int IntKind.i64 x)).setCell { block := w3.heap.size, off := 1 } (Value.int IntKind.i64 y)).setCell { block := w3.heap.size, off := 2 } (Value.int IntKind.i64 z) = w9 at *
  refine (h16' _).mono ?_
  rintro e w10 ⟨rfl, g10⟩
  have K10 := Lib.hid (K9.out.gr g10)
  clear g10 K9
  have f := fz K10.out.b2
  obtain ⟨e0, e1, e2⟩ := three_cells K10.out.b2
  have K11 := Lib.hid (K10.out.setq x y z)
  obtain ⟨p0, p1, p2⟩ := three_cells K11.out.b1
  obtain ⟨q0, q1, q2⟩ := three_cells K11.out.b2
  have sx := same3_self x y z
  clear K10
  cases gn
  · go_wp2_with fail
    go_ret
    exact ⟨rfl, K11.out.g⟩
  · have h20 : ∀ w, Calls Tryd.prog 14 #[.agg #[.int .i64 x, .int .i64 y, .int .i64 z]] w (Nu n w) := h14' rfl
    clear h14'
    go_wp2_with fail
    refine (h20 _).mono ?_
    rintro e w12 ⟨rfl, g12⟩
    have G12 := Lib.hid (grown_trans K11.out.g g12)
    clear g12
    go_wp2_with fail
    go_ret
    exact ⟨rfl, G12.out⟩
theorem num_of (a b c : Int) (h : goodB a b c = true) : 0 ≤ numI a b c ∧ numI a b c ≤ 999999999 ∧ numI a b c / 1000000 = a ∧ numI a b c / 1000 % 1000 = b ∧ numI a b c % 1000 = c := by
  rw [num_yes h]
  obtain ⟨h1, h2, h3, h4, h5, h6⟩ := good_iff.1 h
  omega
theorem of_num (n : Int) (h1 : 0 ≤ n) (h2 : n ≤ 999999999) : numI (n / 1000000) (n / 1000 % 1000) (n % 1000) = n ∧ goodB (n / 1000000) (n / 1000 % 1000) (n % 1000) = true := by
  have h : goodB (n / 1000000) (n / 1000 % 1000) (n % 1000) = true := good_yes (by omega)
  exact ⟨by rw [num_yes h]; omega, h⟩
theorem numbers_any (m n : Int) (a b c : Int) (w : World) (hm : w.cell? ⟨1, 0, none⟩ = some (.int .i64 m)) :
    Calls Tryd.prog 4 #[.agg #[.int .i64 a, .int .i64 b, .int .i64 c], .int .i64 n] w fun e w' => e = .returned (.bool true) ∧ Gr w w' := by
  have hn : ∃ x y z gn, (∀ w, Calls Tryd.prog 15 #[.int .i64 n] w (OfT x y z gn w)) ∧ (∀ w, Calls Tryd.prog 16 #[.int .i64 n] w (OfT x y z gn w)) ∧ (gn = true → ∀ w, Calls Tryd.prog 14 #[.agg #[.int .i64 x, .int .i64 y, .int .i64 z]] w (Nu n w)) := by
    by_cases h : 0 ≤ n ∧ n ≤ 999999999
    · refine ⟨_, _, _, true, fun w => of_good n w h.1 h.2, fun w => ofR_good n w h.1 h.2, fun _ w => ?_⟩
      have := number_any (n / 1000000) (n / 1000 % 1000) (n % 1000) w
      rwa [(of_num n h.1 h.2).1] at this
    · exact ⟨0, 0, 0, false, fun w => of_bad n w (by omega), fun w => ofR_bad n w (by omega), fun h => by cases h⟩
  obtain ⟨x, y, z, gn, k1, k2, k3⟩ := hn
  cases hg : goodB a b c
  · have hk := num_no hg
    refine numbers_no m (numI a b c) n a b c x y z gn w hm (fun w => number_any a b c w) (fun w => numberR_any a b c w) (fun w => by rw [← hg]; exact good_any a b c w) (fun w => by rw [hk]; exact of_bad _ w (by omega)) (fun w => by rw [hk]; exact ofR_bad _ w (by omega)) k1 k2 k3
  · obtain ⟨h1, h2, h3, h4, h5⟩ := num_of a b c hg
    refine numbers_yes m (numI a b c) n a b c x y z gn w hm (fun w => number_any a b c w) (fun w => numberR_any a b c w) (fun w => by rw [← hg]; exact good_any a b c w) (fun w => ?_) (fun w => ?_) k1 k2 k3
    · have := of_good _ w h1 h2
      rwa [h3, h4, h5] at this
    · have := ofR_good _ w h1 h2
      rwa [h3, h4, h5] at this
end Go.Proofs.YtfcanopbgikmcaaDoor
