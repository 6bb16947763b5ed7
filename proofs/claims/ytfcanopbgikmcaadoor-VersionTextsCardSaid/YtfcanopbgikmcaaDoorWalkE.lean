/- The walk of the statement on the order. Condition: the library's own variable holds some number. -/
import Derived.Test.YtfcanopbgikmcaaDoorWalkD
import Derived.Deep.RegionHeld3
namespace Go.Proofs.YtfcanopbgikmcaaDoor
set_option linter.unusedVariables false
open Go.ChangeShapes Go.WideShapes Go.ChangeAt Go.RowKit
structure J (w w' : World) (a b c x y z : Int) : Prop where
  b0 : w'.heap[w.heap.size]? = some (.cells #[.int .i64 a, .int .i64 b, .int .i64 c] 23 (0, 0))
  b1 : w'.heap[w.heap.size + 1]? = some (.cells #[.int .i64 x, .int .i64 y, .int .i64 z] 23 (0, 0))
  g : Gr w w'
theorem J.gr {w w1 w2 : World} {a b c x y z : Int} (h : J w w1 a b c x y z) (g : Gr w1 w2) : J w w2 a b c x y z := ⟨g.heap h.b0, g.heap h.b1, grown_trans h.g g⟩
theorem S_keep {w w1 w2 : World} {a b c x y z : Int} (hg : Gr w1 w2)
    (h : w1.cell? ⟨w.heap.size, 0, none⟩ = some (.int .i64 a) ∧ w1.cell? ⟨w.heap.size, 1, none⟩ = some (.int .i64 b) ∧ w1.cell? ⟨w.heap.size, 2, none⟩ = some (.int .i64 c) ∧
      w1.cell? ⟨w.heap.size + 1, 0, none⟩ = some (.int .i64 x) ∧ w1.cell? ⟨w.heap.size + 1, 1, none⟩ = some (.int .i64 y) ∧ w1.cell? ⟨w.heap.size + 1, 2, none⟩ = some (.int .i64 z) ∧ Gr w w1) :
    w2.cell? ⟨w.heap.size, 0, none⟩ = some (.int .i64 a) ∧ w2.cell? ⟨w.heap.size, 1, none⟩ = some (.int .i64 b) ∧ w2.cell? ⟨w.heap.size, 2, none⟩ = some (.int .i64 c) ∧
      w2.cell? ⟨w.heap.size + 1, 0, none⟩ = some (.int .i64 x) ∧ w2.cell? ⟨w.heap.size + 1, 1, none⟩ = some (.int .i64 y) ∧ w2.cell? ⟨w.heap.size + 1, 2, none⟩ = some (.int .i64 z) ∧ Gr w w2 := by
  obtain ⟨h1, h2, h3, h4, h5, h6, h7⟩ := h
  exact ⟨hg.keep h1, hg.keep h2, hg.keep h3, hg.keep h4, hg.keep h5, hg.keep h6, grown_trans h7 hg⟩
theorem cmpI_cases (a x : Int) : (cmpI a x = -1 ∧ cmpI x a = 1 ∧ (a == x) = false) ∨ (cmpI a x = 0 ∧ cmpI x a = 0 ∧ (a == x) = true) ∨ (cmpI a x = 1 ∧ cmpI x a = -1 ∧ (a == x) = false) := by
  unfold cmpI
  rcases Int.lt_trichotomy a x with h | h | h
  · exact .inl ⟨if_pos h, by rw [if_neg (by omega), if_pos h], by simp; omega⟩
  · subst h; exact .inr (.inl ⟨by simp, by simp, by simp⟩)
  · exact .inr (.inr ⟨by rw [if_neg (by omega), if_pos h], if_pos h, by simp; omega⟩)
theorem cmp3_cases (a b c x y z : Int) : (cmp3 a b c x y z = -1 ∨ cmp3 a b c x y z = 0 ∨ cmp3 a b c x y z = 1) ∧ cmp3 x y z a b c = - cmp3 a b c x y z ∧ same3 a b c x y z = decide (cmp3 a b c x y z = 0) := by
  unfold cmp3 same3 orI
  rcases cmpI_cases a x with ⟨h1, h2, h3⟩ | ⟨h1, h2, h3⟩ | ⟨h1, h2, h3⟩ <;> rcases cmpI_cases b y with ⟨k1, k2, k3⟩ | ⟨k1, k2, k3⟩ | ⟨k1, k2, k3⟩ <;>
    rcases cmpI_cases c z with ⟨l1, l2, l3⟩ | ⟨l1, l2, l3⟩ | ⟨l1, l2, l3⟩ <;> rw [h1, h2, h3, k1, k2, k3, l1, l2, l3] <;> decide
theorem cmp3_num {a b c x y z : Int} (h : goodB a b c = true) (k : goodB x y z = true) : (cmp3 a b c x y z = -1 → numI a b c < numI x y z) ∧ (cmp3 a b c x y z = 0 → numI a b c = numI x y z) ∧ (cmp3 a b c x y z = 1 → numI x y z < numI a b c) := by
  rw [num_yes h, num_yes k]
  obtain ⟨h1, h2, h3, h4, h5, h6⟩ := good_iff.1 h
  obtain ⟨k1, k2, k3, k4, k5, k6⟩ := good_iff.1 k
  by_cases e1 : a = x
  · subst e1
    by_cases e2 : b = y
    · subst e2
      rw [cmp3_3]
      split
      · omega
      · split <;> omega
    · rw [cmp3_2 e2]
      split <;> omega
  · rw [cmp3_1 e1]
    split <;> omega
set_option maxHeartbeats 2000000 in
set_option maxRecDepth 10000 in
theorem stands_lt (m : Int) (a b c x y z : Int) (w : World) (hm : w.cell? ⟨1, 0, none⟩ = some (.int .i64 m))
    (h18 : ∀ w, Calls Tryd.prog 18 #[.agg #[.int .i64 a, .int .i64 b, .int .i64 c], .agg #[.int .i64 x, .int .i64 y, .int .i64 z]] w (Nu (-1) w))
    (h19 : ∀ w, Calls Tryd.prog 19 #[.agg #[.int .i64 a, .int .i64 b, .int .i64 c], .agg #[.int .i64 x, .int .i64 y, .int .i64 z]] w (Nu (-1) w))
    (k18 : ∀ w, Calls Tryd.prog 18 #[.agg #[.int .i64 x, .int .i64 y, .int .i64 z], .agg #[.int .i64 a, .int .i64 b, .int .i64 c]] w (Nu 1 w))
    (sm : same3 a b c x y z = false) (hn : goodB a b c = true → goodB x y z = true → numI a b c < numI x y z) :
    Calls Tryd.prog 5 #[.agg #[.int .i64 a, .int .i64 b, .int .i64 c], .agg #[.int .i64 x, .int .i64 y, .int .i64 z]] w fun e w' => e = .returned (.bool true) ∧ Gr w w' := by
  have Hm := Lib.hid hm
  clear hm
  go_enter Tryd.func5, Tryd.ntmps5
  go_wp2_with fail
  refine (alive_any m _ ((((Gr.refl w).alloc _ _).alloc _ _).keep Hm.out)).mono ?_
  rintro e w1 ⟨rfl, g1⟩
  obtain ⟨hp, hq⟩ := two w (.cells #[.int .i64 a, .int .i64 b, .int .i64 c] 23) (.cells #[.int .i64 x, .int .i64 y, .int .i64 z] 23)
  have J1 := Lib.hid (J.gr ⟨hp, hq, ((Gr.refl w).alloc _ _).alloc _ _⟩ g1)
  clear hp hq g1
  obtain ⟨c0, c1, c2⟩ := three_cells J1.out.b0
  obtain ⟨d0, d1, d2⟩ := three_cells J1.out.b1
  go_wp2_with fail
  refine (h18 _).mono ?_
  rintro e w2 ⟨rfl, g2⟩
  have J2 := Lib.hid (J1.out.gr g2)
  clear g2 J1 c0 c1 c2 d0 d1 d2
  obtain ⟨c0, c1, c2⟩ := three_cells J2.out.b0
  obtain ⟨d0, d1, d2⟩ := three_cells J2.out.b1
  go_wp2_with fail
  refine (h19 _).mono ?_
  rintro e w3 ⟨rfl, g3⟩
  have J3 := Lib.hid (J2.out.gr g3)
  clear g3 J2 c0 c1 c2 d0 d1 d2
  obtain ⟨c0, c1, c2⟩ := three_cells J3.out.b0
  obtain ⟨d0, d1, d2⟩ := three_cells J3.out.b1
  go_wp2_with fail
  refine (k18 _).mono ?_
  rintro e w4 ⟨rfl, g4⟩
  have J4 := Lib.hid (J3.out.gr g4)
  clear g4 J3 c0 c1 c2 d0 d1 d2
  obtain ⟨c0, c1, c2⟩ := three_cells J4.out.b0
  obtain ⟨d0, d1, d2⟩ := three_cells J4.out.b1
  go_wp2_with fail
  refine (good_any a b c _).mono ?_
  rintro e w5 ⟨rfl, g5⟩
  have J5 := Lib.hid (J4.out.gr g5)
  clear g5 J4 c0 c1 c2 d0 d1 d2
  obtain ⟨c0, c1, c2⟩ := three_cells J5.out.b0
  obtain ⟨d0, d1, d2⟩ := three_cells J5.out.b1
  cases ga : goodB a b c
  · go_wp2_with fail
    go_ret
    exact ⟨rfl, J5.out.g⟩
  · go_wp2_with fail
    refine (good_any x y z _).mono ?_
    rintro e w6 ⟨rfl, g6⟩
    have J6 := Lib.hid (J5.out.gr g6)
    clear g6 J5 c0 c1 c2 d0 d1 d2
    obtain ⟨c0, c1, c2⟩ := three_cells J6.out.b0
    obtain ⟨d0, d1, d2⟩ := three_cells J6.out.b1
    cases gb : goodB x y z
    · go_wp2_with fail
      go_ret
      exact ⟨rfl, J6.out.g⟩
    · go_wp2_with fail
      have hl := hn ga gb
      have h0 : (w6.cell? ⟨w.heap.size, 0, none⟩ = some (.int .i64 a) ∧ w6.cell? ⟨w.heap.size, 1, none⟩ = some (.int .i64 b) ∧ w6.cell? ⟨w.heap.size, 2, none⟩ = some (.int .i64 c) ∧
        w6.cell? ⟨w.heap.size + 1, 0, none⟩ = some (.int .i64 x) ∧ w6.cell? ⟨w.heap.size + 1, 1, none⟩ = some (.int .i64 y) ∧ w6.cell? ⟨w.heap.size + 1, 2, none⟩ = some (.int .i64 z) ∧ Gr w w6) := ⟨c0, c1, c2, d0, d1, d2, J6.out.g⟩
      go_region_held3 (fun w' => w'.cell? ⟨w.heap.size, 0, none⟩ = some (.int .i64 a) ∧ w'.cell? ⟨w.heap.size, 1, none⟩ = some (.int .i64 b) ∧ w'.cell? ⟨w.heap.size, 2, none⟩ = some (.int .i64 c) ∧
        w'.cell? ⟨w.heap.size + 1, 0, none⟩ = some (.int .i64 x) ∧ w'.cell? ⟨w.heap.size + 1, 1, none⟩ = some (.int .i64 y) ∧ w'.cell? ⟨w.heap.size + 1, 2, none⟩ = some (.int .i64 z) ∧ Gr w w')
        (first | exact S_keep (Gr.drew (Gr.refl _)) h0 | exact S_keep hg (by assumption))
        (first | (go_at_call 14; refine (number_any _ _ _ _).mono ?_; rintro e w' ⟨rfl, hg⟩))
      rename_i hh
      have hG := Lib.hid hh.2.2.2.2.2.2
      clear hh h0
      generalize numI a b c = u at *
      generalize numI x y z = v at *
      have l2 : ¬ v < u := by omega
      go_wp2_with fail
      go_ret
      exact ⟨rfl, hG.out⟩
set_option maxHeartbeats 2000000 in
set_option maxRecDepth 10000 in
theorem stands_gt (m : Int) (a b c x y z : Int) (w : World) (hm : w.cell? ⟨1, 0, none⟩ = some (.int .i64 m))
    (h18 : ∀ w, Calls Tryd.prog 18 #[.agg #[.int .i64 a, .int .i64 b, .int .i64 c], .agg #[.int .i64 x, .int .i64 y, .int .i64 z]] w (Nu 1 w))
    (h19 : ∀ w, Calls Tryd.prog 19 #[.agg #[.int .i64 a, .int .i64 b, .int .i64 c], .agg #[.int .i64 x, .int .i64 y, .int .i64 z]] w (Nu 1 w))
    (k18 : ∀ w, Calls Tryd.prog 18 #[.agg #[.int .i64 x, .int .i64 y, .int .i64 z], .agg #[.int .i64 a, .int .i64 b, .int .i64 c]] w (Nu (-1) w))
    (sm : same3 a b c x y z = false) (hn : goodB a b c = true → goodB x y z = true → numI x y z < numI a b c) :
    Calls Tryd.prog 5 #[.agg #[.int .i64 a, .int .i64 b, .int .i64 c], .agg #[.int .i64 x, .int .i64 y, .int .i64 z]] w fun e w' => e = .returned (.bool true) ∧ Gr w w' := by
  have Hm := Lib.hid hm
  clear hm
  go_enter Tryd.func5, Tryd.ntmps5
  go_wp2_with fail
  refine (alive_any m _ ((((Gr.refl w).alloc _ _).alloc _ _).keep Hm.out)).mono ?_
  rintro e w1 ⟨rfl, g1⟩
  obtain ⟨hp, hq⟩ := two w (.cells #[.int .i64 a, .int .i64 b, .int .i64 c] 23) (.cells #[.int .i64 x, .int .i64 y, .int .i64 z] 23)
  have J1 := Lib.hid (J.gr ⟨hp, hq, ((Gr.refl w).alloc _ _).alloc _ _⟩ g1)
  clear hp hq g1
  obtain ⟨c0, c1, c2⟩ := three_cells J1.out.b0
  obtain ⟨d0, d1, d2⟩ := three_cells J1.out.b1
  go_wp2_with fail
  refine (h18 _).mono ?_
  rintro e w2 ⟨rfl, g2⟩
  have J2 := Lib.hid (J1.out.gr g2)
  clear g2 J1 c0 c1 c2 d0 d1 d2
  obtain ⟨c0, c1, c2⟩ := three_cells J2.out.b0
  obtain ⟨d0, d1, d2⟩ := three_cells J2.out.b1
  go_wp2_with fail
  refine (h19 _).mono ?_
  rintro e w3 ⟨rfl, g3⟩
  have J3 := Lib.hid (J2.out.gr g3)
  clear g3 J2 c0 c1 c2 d0 d1 d2
  obtain ⟨c0, c1, c2⟩ := three_cells J3.out.b0
  obtain ⟨d0, d1, d2⟩ := three_cells J3.out.b1
  go_wp2_with fail
  refine (k18 _).mono ?_
  rintro e w4 ⟨rfl, g4⟩
  have J4 := Lib.hid (J3.out.gr g4)
  clear g4 J3 c0 c1 c2 d0 d1 d2
  obtain ⟨c0, c1, c2⟩ := three_cells J4.out.b0
  obtain ⟨d0, d1, d2⟩ := three_cells J4.out.b1
  go_wp2_with fail
  refine (good_any a b c _).mono ?_
  rintro e w5 ⟨rfl, g5⟩
  have J5 := Lib.hid (J4.out.gr g5)
  clear g5 J4 c0 c1 c2 d0 d1 d2
  obtain ⟨c0, c1, c2⟩ := three_cells J5.out.b0
  obtain ⟨d0, d1, d2⟩ := three_cells J5.out.b1
  cases ga : goodB a b c
  · go_wp2_with fail
    go_ret
    exact ⟨rfl, J5.out.g⟩
  · go_wp2_with fail
    refine (good_any x y z _).mono ?_
    rintro e w6 ⟨rfl, g6⟩
    have J6 := Lib.hid (J5.out.gr g6)
    clear g6 J5 c0 c1 c2 d0 d1 d2
    obtain ⟨c0, c1, c2⟩ := three_cells J6.out.b0
    obtain ⟨d0, d1, d2⟩ := three_cells J6.out.b1
    cases gb : goodB x y z
    · go_wp2_with fail
      go_ret
      exact ⟨rfl, J6.out.g⟩
    · go_wp2_with fail
      have hl := hn ga gb
      have h0 : (w6.cell? ⟨w.heap.size, 0, none⟩ = some (.int .i64 a) ∧ w6.cell? ⟨w.heap.size, 1, none⟩ = some (.int .i64 b) ∧ w6.cell? ⟨w.heap.size, 2, none⟩ = some (.int .i64 c) ∧
        w6.cell? ⟨w.heap.size + 1, 0, none⟩ = some (.int .i64 x) ∧ w6.cell? ⟨w.heap.size + 1, 1, none⟩ = some (.int .i64 y) ∧ w6.cell? ⟨w.heap.size + 1, 2, none⟩ = some (.int .i64 z) ∧ Gr w w6) := ⟨c0, c1, c2, d0, d1, d2, J6.out.g⟩
      go_region_held3 (fun w' => w'.cell? ⟨w.heap.size, 0, none⟩ = some (.int .i64 a) ∧ w'.cell? ⟨w.heap.size, 1, none⟩ = some (.int .i64 b) ∧ w'.cell? ⟨w.heap.size, 2, none⟩ = some (.int .i64 c) ∧
        w'.cell? ⟨w.heap.size + 1, 0, none⟩ = some (.int .i64 x) ∧ w'.cell? ⟨w.heap.size + 1, 1, none⟩ = some (.int .i64 y) ∧ w'.cell? ⟨w.heap.size + 1, 2, none⟩ = some (.int .i64 z) ∧ Gr w w')
        (first | exact S_keep (Gr.drew (Gr.refl _)) h0 | exact S_keep hg (by assumption))
        (first | (go_at_call 14; refine (number_any _ _ _ _).mono ?_; rintro e w' ⟨rfl, hg⟩))
      rename_i hh
      have hG := Lib.hid hh.2.2.2.2.2.2
      clear hh h0
      generalize numI a b c = u at *
      generalize numI x y z = v at *
      have l2 : ¬ u < v := by omega
      go_wp2_with fail
      go_ret
      exact ⟨rfl, hG.out⟩
set_option maxHeartbeats 2000000 in
set_option maxRecDepth 10000 in
theorem stands_eq (m : Int) (a b c x y z : Int) (w : World) (hm : w.cell? ⟨1, 0, none⟩ = some (.int .i64 m))
    (h18 : ∀ w, Calls Tryd.prog 18 #[.agg #[.int .i64 a, .int .i64 b, .int .i64 c], .agg #[.int .i64 x, .int .i64 y, .int .i64 z]] w (Nu 0 w))
    (h19 : ∀ w, Calls Tryd.prog 19 #[.agg #[.int .i64 a, .int .i64 b, .int .i64 c], .agg #[.int .i64 x, .int .i64 y, .int .i64 z]] w (Nu 0 w))
    (k18 : ∀ w, Calls Tryd.prog 18 #[.agg #[.int .i64 x, .int .i64 y, .int .i64 z], .agg #[.int .i64 a, .int .i64 b, .int .i64 c]] w (Nu 0 w))
    (sm : same3 a b c x y z = true) (hn : goodB a b c = true → goodB x y z = true → numI a b c = numI x y z) :
    Calls Tryd.prog 5 #[.agg #[.int .i64 a, .int .i64 b, .int .i64 c], .agg #[.int .i64 x, .int .i64 y, .int .i64 z]] w fun e w' => e = .returned (.bool true) ∧ Gr w w' := by
  have Hm := Lib.hid hm
  clear hm
  go_enter Tryd.func5, Tryd.ntmps5
  go_wp2_with fail
  refine (alive_any m _ ((((Gr.refl w).alloc _ _).alloc _ _).keep Hm.out)).mono ?_
  rintro e w1 ⟨rfl, g1⟩
  obtain ⟨hp, hq⟩ := two w (.cells #[.int .i64 a, .int .i64 b, .int .i64 c] 23) (.cells #[.int .i64 x, .int .i64 y, .int .i64 z] 23)
  have J1 := Lib.hid (J.gr ⟨hp, hq, ((Gr.refl w).alloc _ _).alloc _ _⟩ g1)
  clear hp hq g1
  obtain ⟨c0, c1, c2⟩ := three_cells J1.out.b0
  obtain ⟨d0, d1, d2⟩ := three_cells J1.out.b1
  go_wp2_with fail
  refine (h18 _).mono ?_
  rintro e w2 ⟨rfl, g2⟩
  have J2 := Lib.hid (J1.out.gr g2)
  clear g2 J1 c0 c1 c2 d0 d1 d2
  obtain ⟨c0, c1, c2⟩ := three_cells J2.out.b0
  obtain ⟨d0, d1, d2⟩ := three_cells J2.out.b1
  go_wp2_with fail
  refine (h19 _).mono ?_
  rintro e w3 ⟨rfl, g3⟩
  have J3 := Lib.hid (J2.out.gr g3)
  clear g3 J2 c0 c1 c2 d0 d1 d2
  obtain ⟨c0, c1, c2⟩ := three_cells J3.out.b0
  obtain ⟨d0, d1, d2⟩ := three_cells J3.out.b1
  go_wp2_with fail
  refine (k18 _).mono ?_
  rintro e w4 ⟨rfl, g4⟩
  have J4 := Lib.hid (J3.out.gr g4)
  clear g4 J3 c0 c1 c2 d0 d1 d2
  obtain ⟨c0, c1, c2⟩ := three_cells J4.out.b0
  obtain ⟨d0, d1, d2⟩ := three_cells J4.out.b1
  go_wp2_with fail
  refine (good_any a b c _).mono ?_
  rintro e w5 ⟨rfl, g5⟩
  have J5 := Lib.hid (J4.out.gr g5)
  clear g5 J4 c0 c1 c2 d0 d1 d2
  obtain ⟨c0, c1, c2⟩ := three_cells J5.out.b0
  obtain ⟨d0, d1, d2⟩ := three_cells J5.out.b1
  cases ga : goodB a b c
  · go_wp2_with fail
    go_ret
    exact ⟨rfl, J5.out.g⟩
  · go_wp2_with fail
    refine (good_any x y z _).mono ?_
    rintro e w6 ⟨rfl, g6⟩
    have J6 := Lib.hid (J5.out.gr g6)
    clear g6 J5 c0 c1 c2 d0 d1 d2
    obtain ⟨c0, c1, c2⟩ := three_cells J6.out.b0
    obtain ⟨d0, d1, d2⟩ := three_cells J6.out.b1
    cases gb : goodB x y z
    · go_wp2_with fail
      go_ret
      exact ⟨rfl, J6.out.g⟩
    · go_wp2_with fail
      have hl := hn ga gb
      have h0 : (w6.cell? ⟨w.heap.size, 0, none⟩ = some (.int .i64 a) ∧ w6.cell? ⟨w.heap.size, 1, none⟩ = some (.int .i64 b) ∧ w6.cell? ⟨w.heap.size, 2, none⟩ = some (.int .i64 c) ∧
        w6.cell? ⟨w.heap.size + 1, 0, none⟩ = some (.int .i64 x) ∧ w6.cell? ⟨w.heap.size + 1, 1, none⟩ = some (.int .i64 y) ∧ w6.cell? ⟨w.heap.size + 1, 2, none⟩ = some (.int .i64 z) ∧ Gr w w6) := ⟨c0, c1, c2, d0, d1, d2, J6.out.g⟩
      go_region_held3 (fun w' => w'.cell? ⟨w.heap.size, 0, none⟩ = some (.int .i64 a) ∧ w'.cell? ⟨w.heap.size, 1, none⟩ = some (.int .i64 b) ∧ w'.cell? ⟨w.heap.size, 2, none⟩ = some (.int .i64 c) ∧
        w'.cell? ⟨w.heap.size + 1, 0, none⟩ = some (.int .i64 x) ∧ w'.cell? ⟨w.heap.size + 1, 1, none⟩ = some (.int .i64 y) ∧ w'.cell? ⟨w.heap.size + 1, 2, none⟩ = some (.int .i64 z) ∧ Gr w w')
        (first | exact S_keep (Gr.drew (Gr.refl _)) h0 | exact S_keep hg (by assumption))
        (first | (go_at_call 14; refine (number_any _ _ _ _).mono ?_; rintro e w' ⟨rfl, hg⟩))
      rename_i hh
      have hG := Lib.hid hh.2.2.2.2.2.2
      clear hh h0
      generalize numI a b c = u at *
      generalize numI x y z = v at *
      subst hl
      have l2 : ¬ u < u := by omega
      go_wp2_with fail
      go_ret
      exact ⟨rfl, hG.out⟩
theorem stands_any (m : Int) (a b c x y z : Int) (w : World) (hm : w.cell? ⟨1, 0, none⟩ = some (.int .i64 m)) :
    Calls Tryd.prog 5 #[.agg #[.int .i64 a, .int .i64 b, .int .i64 c], .agg #[.int .i64 x, .int .i64 y, .int .i64 z]] w fun e w' => e = .returned (.bool true) ∧ Gr w w' := by
  obtain ⟨hc, hr, hs⟩ := cmp3_cases a b c x y z
  have h18 := fun w => compare_any a b c x y z w
  have h19 := fun w => compareR_any a b c x y z w
  have k18 := fun w => compare_any x y z a b c w
  have hn := fun h k => @cmp3_num a b c x y z h k
  rw [hr] at k18
  generalize cmp3 a b c x y z = s at *
  rcases hc with rfl | rfl | rfl
  · exact stands_lt m a b c x y z w hm h18 h19 k18 (hs.trans (by decide)) (fun h k => (hn h k).1 rfl)
  · exact stands_eq m a b c x y z w hm h18 h19 k18 (hs.trans (by decide)) (fun h k => (hn h k).2.1 rfl)
  · exact stands_gt m a b c x y z w hm h18 h19 k18 (hs.trans (by decide)) (fun h k => (hn h k).2.2 rfl)
end Go.Proofs.YtfcanopbgikmcaaDoor
