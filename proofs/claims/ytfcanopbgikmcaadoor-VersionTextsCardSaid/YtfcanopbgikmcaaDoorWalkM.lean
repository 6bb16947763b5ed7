/- The walk of the statement on texts. Conditions: the library's variables read as laid. -/
import Derived.Test.YtfcanopbgikmcaaDoorWalkL
namespace Go.Proofs.YtfcanopbgikmcaaDoor
set_option linter.unusedVariables false
open Go.ChangeShapes Go.WideShapes Go.ChangeAt Go.RowKit Go.Sort
set_option maxHeartbeats 2000000 in
set_option maxRecDepth 10000 in
theorem texts_yy (m : Int) (a b c x y z : Int) (s T : ByteArray) (w : World) (hm : w.cell? ⟨1, 0, none⟩ = some (.int .i64 m)) (he : Er w) (ht : Tb w) (hl : (s.size : Int) ≤ 1024)
    (h8 : ∀ w, Tb w → Calls Tryd.prog 8 #[.agg #[.int .i64 a, .int .i64 b, .int .i64 c]] w fun e w' => e = .returned (.string T) ∧ Gr w w')
    (h11 : ∀ w, Tb w → Calls Tryd.prog 11 #[.agg #[.int .i64 a, .int .i64 b, .int .i64 c]] w fun e w' => e = .returned (.string T) ∧ Gr w w')
    (h9 : ∀ w, Calls Tryd.prog 9 #[.agg #[.int .i64 a, .int .i64 b, .int .i64 c]] w (Bo true w)) (h10 : ∀ w, Calls Tryd.prog 10 #[.agg #[.int .i64 a, .int .i64 b, .int .i64 c]] w (Bo true w))
    (hP : ∀ w, w.cell? ⟨1, 0, none⟩ = some (.int .i64 m) → Er w → Tb w → Calls Tryd.prog 12 #[.string T] w (ParseT a b c 0 w))
    (hS : ∀ w, w.cell? ⟨1, 0, none⟩ = some (.int .i64 m) → Er w → Tb w → Calls Tryd.prog 12 #[.string s] w (ParseT x y z 0 w)) (hR : ∀ w, Calls Tryd.prog 13 #[.string s] w (ParseT x y z 0 w))
    (k8 : ∀ w, Tb w → Calls Tryd.prog 8 #[.agg #[.int .i64 x, .int .i64 y, .int .i64 z]] w fun e w' => e = .returned (.string s) ∧ Gr w w') :
    Calls Tryd.prog 3 #[.agg #[.int .i64 a, .int .i64 b, .int .i64 c], .string s] w fun e w' => e = .returned (.bool true) ∧ Gr w w' := by
  have Hm := Lib.hid hm
  have He := Lib.hid he
  have Ht := Lib.hid ht
  clear hm he ht
  go_enter Tryd.func3, Tryd.ntmps3
  go_wp2_with fail
  refine (alive_any m _ (((Gr.refl w).alloc _ _).keep Hm.out)).mono ?_
  rintro e w1 ⟨rfl, g1⟩
  obtain ⟨c0, c1, c2⟩ := three_cells (g1.heap (heap_alloc_new w _))
  have B1 := Lib.hid (g1.heap (heap_alloc_new w (.cells #[.int .i64 a, .int .i64 b, .int .i64 c] 23)))
  have G1 := Lib.hid (grown_trans ((Gr.refl w).alloc _ _) g1)
  clear g1
  go_wp2_with fail
  refine (h8 _ (Ht.out.keep G1.out)).mono ?_
  rintro e w2 ⟨rfl, g2⟩
  have B2 := Lib.hid (g2.heap B1.out)
  have G2 := Lib.hid (grown_trans G1.out g2)
  clear c0 c1 c2 g2 B1 G1
  obtain ⟨c0, c1, c2⟩ := three_cells B2.out
  have k0 := cell_regrown c0
  have k1 := cell_regrown c1
  have k2 := cell_regrown c2
  have q9 := q_of (fun w => h9 w) w2
  have q10 := q_of (fun w => h10 w) w2
  have q11 := q_tab h11 w2 (Ht.out.keep G2.out)
  clear c0 c1 c2
  go_wp2_with fail
  refine wp_region_quiet_below (by kernel_rfl) (by kernel_rfl) ?_
  repeat (quiet_step (first | (go_at_call 9; exact q9 _ _) | (go_at_call 10; exact q10 _ _) | (go_at_call 11; exact q11 _ _)))
  refine wpQuiet_nil ?_
  intro _ hw'
  obtain ⟨⟨dq, osq⟩, hw''⟩ := hw'
  subst hw''
  have g3 : Gr w2 (grow (redrawn w2 dq) osq) := below_regrown w2 dq osq
  have B3 := Lib.hid (g3.heap B2.out)
  have G3 := Lib.hid (grown_trans G2.out g3)
  clear g3 B2 G2 k0 k1 k2 q9 q10 q11
  generalize grow (redrawn w2 dq) osq = w3 at *
  go_wp2_with fail
  refine (hP _ (G3.out.keep Hm.out) (He.out.keep G3.out) (Ht.out.keep G3.out)).mono ?_
  rintro e w4 ⟨rfl, g4⟩
  have B4 := Lib.hid (((Gr.refl w4).alloc #[.int .i64 a, .int .i64 b, .int .i64 c] 23).heap (g4.heap B3.out))
  have P4 := Lib.hid (heap_alloc_new w4 (.cells #[.int .i64 a, .int .i64 b, .int .i64 c] 23))
  have G4 := Lib.hid ((grown_trans G3.out g4).alloc #[.int .i64 a, .int .i64 b, .int .i64 c] 23)
  have hp4 : w.heap.size < w4.heap.size := Nat.lt_of_lt_of_le (lt_of_block B3.out) g4.size
  clear g4 B3 G3
  obtain ⟨c0, c1, c2⟩ := three_cells B4.out
  go_wp2_with fail
  generalize w4.alloc (.cells #[.int .i64 a, .int .i64 b, .int .i64 c] 23) = w5 at *
  generalize w4.heap.size = p at *
  refine (h9 _).mono ?_
  rintro e w6 ⟨rfl, g6⟩
  have B6 := Lib.hid (g6.heap B4.out)
  have P6 := Lib.hid (g6.heap P4.out)
  have G6 := Lib.hid (grown_trans G4.out g6)
  clear g6 B4 P4 G4 c0 c1 c2
  obtain ⟨c0, c1, c2⟩ := three_cells B6.out
  obtain ⟨d0, d1, d2⟩ := three_cells P6.out
  have sm := same3_self a b c
  go_wp2_with fail
  refine (hS _ (G6.out.keep Hm.out) (He.out.keep G6.out) (Ht.out.keep G6.out)).mono ?_
  rintro e w7 ⟨rfl, g7⟩
  have P7 := Lib.hid (g7.heap P6.out)
  have G7 := Lib.hid (grown_trans G6.out g7)
  clear g7 B6 P6 G6 c0 c1 c2 d0 d1 d2
  have f := fz P7.out
  obtain ⟨d0, d1, d2⟩ := three_cells P7.out
  go_wp2_with fail
  have P8 := Lib.hid (set_all P7.out x y z)
  have G8 := Lib.hid (((G7.out.set (b := p) (i := 0) (by omega) (.int .i64 x)).set (b := p) (i := 1) (by omega) (.int .i64 y)).set (b := p) (i := 2) (by omega) (.int .i64 z))
  clear f d0 d1 d2 P7 G7
  generalize ((w7.setCell ⟨p, 0, none⟩ (.int .i64 x)).setCell ⟨p, 1, none⟩ (.int .i64 y)).setCell ⟨p, 2, none⟩ (.int .i64 z) = w8 at *
  refine (hR _).mono ?_
  rintro e w9 ⟨rfl, g9⟩
  have P9 := Lib.hid (((Gr.refl w9).alloc #[.int .i64 x, .int .i64 y, .int .i64 z] 23).heap (g9.heap P8.out))
  have R9 := Lib.hid (heap_alloc_new w9 (.cells #[.int .i64 x, .int .i64 y, .int .i64 z] 23))
  have G9 := Lib.hid ((grown_trans G8.out g9).alloc #[.int .i64 x, .int .i64 y, .int .i64 z] 23)
  clear g9 P8 G8
  obtain ⟨d0, d1, d2⟩ := three_cells P9.out
  obtain ⟨e0, e1, e2⟩ := three_cells R9.out
  have sx := same3_self x y z
  go_wp2_with fail
  refine (k8 _ (Ht.out.keep G9.out)).mono ?_
  rintro e wa ⟨rfl, ga⟩
  have Ga := Lib.hid (grown_trans G9.out ga)
  clear ga
  go_wp2_with fail
  go_ret
  exact ⟨rfl, Ga.out⟩
set_option maxHeartbeats 2000000 in
set_option maxRecDepth 10000 in
theorem texts_yn (m : Int) (a b c x y z : Int) (s T : ByteArray) (w : World) (hm : w.cell? ⟨1, 0, none⟩ = some (.int .i64 m)) (he : Er w) (ht : Tb w) (hl : (s.size : Int) ≤ 1024)
    (h8 : ∀ w, Tb w → Calls Tryd.prog 8 #[.agg #[.int .i64 a, .int .i64 b, .int .i64 c]] w fun e w' => e = .returned (.string T) ∧ Gr w w')
    (h11 : ∀ w, Tb w → Calls Tryd.prog 11 #[.agg #[.int .i64 a, .int .i64 b, .int .i64 c]] w fun e w' => e = .returned (.string T) ∧ Gr w w')
    (h9 : ∀ w, Calls Tryd.prog 9 #[.agg #[.int .i64 a, .int .i64 b, .int .i64 c]] w (Bo true w)) (h10 : ∀ w, Calls Tryd.prog 10 #[.agg #[.int .i64 a, .int .i64 b, .int .i64 c]] w (Bo true w))
    (hP : ∀ w, w.cell? ⟨1, 0, none⟩ = some (.int .i64 m) → Er w → Tb w → Calls Tryd.prog 12 #[.string T] w (ParseT a b c 0 w))
    (hS : ∀ w, w.cell? ⟨1, 0, none⟩ = some (.int .i64 m) → Er w → Tb w → Calls Tryd.prog 12 #[.string s] w (ParseT x y z 20 w)) (hR : ∀ w, Calls Tryd.prog 13 #[.string s] w (ParseT x y z 20 w)) :
    Calls Tryd.prog 3 #[.agg #[.int .i64 a, .int .i64 b, .int .i64 c], .string s] w fun e w' => e = .returned (.bool true) ∧ Gr w w' := by
  have Hm := Lib.hid hm
  have He := Lib.hid he
  have Ht := Lib.hid ht
  clear hm he ht
  go_enter Tryd.func3, Tryd.ntmps3
  go_wp2_with fail
  refine (alive_any m _ (((Gr.refl w).alloc _ _).keep Hm.out)).mono ?_
  rintro e w1 ⟨rfl, g1⟩
  obtain ⟨c0, c1, c2⟩ := three_cells (g1.heap (heap_alloc_new w _))
  have B1 := Lib.hid (g1.heap (heap_alloc_new w (.cells #[.int .i64 a, .int .i64 b, .int .i64 c] 23)))
  have G1 := Lib.hid (grown_trans ((Gr.refl w).alloc _ _) g1)
  clear g1
  go_wp2_with fail
  refine (h8 _ (Ht.out.keep G1.out)).mono ?_
  rintro e w2 ⟨rfl, g2⟩
  have B2 := Lib.hid (g2.heap B1.out)
  have G2 := Lib.hid (grown_trans G1.out g2)
  clear c0 c1 c2 g2 B1 G1
  obtain ⟨c0, c1, c2⟩ := three_cells B2.out
  have k0 := cell_regrown c0
  have k1 := cell_regrown c1
  have k2 := cell_regrown c2
  have q9 := q_of (fun w => h9 w) w2
  have q10 := q_of (fun w => h10 w) w2
  have q11 := q_tab h11 w2 (Ht.out.keep G2.out)
  clear c0 c1 c2
  go_wp2_with fail
  refine wp_region_quiet_below (by kernel_rfl) (by kernel_rfl) ?_
  repeat (quiet_step (first | (go_at_call 9; exact q9 _ _) | (go_at_call 10; exact q10 _ _) | (go_at_call 11; exact q11 _ _)))
  refine wpQuiet_nil ?_
  intro _ hw'
  obtain ⟨⟨dq, osq⟩, hw''⟩ := hw'
  subst hw''
  have g3 : Gr w2 (grow (redrawn w2 dq) osq) := below_regrown w2 dq osq
  have B3 := Lib.hid (g3.heap B2.out)
  have G3 := Lib.hid (grown_trans G2.out g3)
  clear g3 B2 G2 k0 k1 k2 q9 q10 q11
  generalize grow (redrawn w2 dq) osq = w3 at *
  go_wp2_with fail
  refine (hP _ (G3.out.keep Hm.out) (He.out.keep G3.out) (Ht.out.keep G3.out)).mono ?_
  rintro e w4 ⟨rfl, g4⟩
  have B4 := Lib.hid (((Gr.refl w4).alloc #[.int .i64 a, .int .i64 b, .int .i64 c] 23).heap (g4.heap B3.out))
  have P4 := Lib.hid (heap_alloc_new w4 (.cells #[.int .i64 a, .int .i64 b, .int .i64 c] 23))
  have G4 := Lib.hid ((grown_trans G3.out g4).alloc #[.int .i64 a, .int .i64 b, .int .i64 c] 23)
  have hp4 : w.heap.size < w4.heap.size := Nat.lt_of_lt_of_le (lt_of_block B3.out) g4.size
  clear g4 B3 G3
  obtain ⟨c0, c1, c2⟩ := three_cells B4.out
  go_wp2_with fail
  generalize w4.alloc (.cells #[.int .i64 a, .int .i64 b, .int .i64 c] 23) = w5 at *
  generalize w4.heap.size = p at *
  refine (h9 _).mono ?_
  rintro e w6 ⟨rfl, g6⟩
  have B6 := Lib.hid (g6.heap B4.out)
  have P6 := Lib.hid (g6.heap P4.out)
  have G6 := Lib.hid (grown_trans G4.out g6)
  clear g6 B4 P4 G4 c0 c1 c2
  obtain ⟨c0, c1, c2⟩ := three_cells B6.out
  obtain ⟨d0, d1, d2⟩ := three_cells P6.out
  have sm := same3_self a b c
  go_wp2_with fail
  refine (hS _ (G6.out.keep Hm.out) (He.out.keep G6.out) (Ht.out.keep G6.out)).mono ?_
  rintro e w7 ⟨rfl, g7⟩
  have P7 := Lib.hid (g7.heap P6.out)
  have G7 := Lib.hid (grown_trans G6.out g7)
  clear g7 B6 P6 G6 c0 c1 c2 d0 d1 d2
  have f := fz P7.out
  obtain ⟨d0, d1, d2⟩ := three_cells P7.out
  go_wp2_with fail
  have P8 := Lib.hid (set_all P7.out x y z)
  have G8 := Lib.hid (((G7.out.set (b := p) (i := 0) (by omega) (.int .i64 x)).set (b := p) (i := 1) (by omega) (.int .i64 y)).set (b := p) (i := 2) (by omega) (.int .i64 z))
  clear f d0 d1 d2 P7 G7
  generalize ((w7.setCell ⟨p, 0, none⟩ (.int .i64 x)).setCell ⟨p, 1, none⟩ (.int .i64 y)).setCell ⟨p, 2, none⟩ (.int .i64 z) = w8 at *
  refine (hR _).mono ?_
  rintro e w9 ⟨rfl, g9⟩
  have P9 := Lib.hid (((Gr.refl w9).alloc #[.int .i64 x, .int .i64 y, .int .i64 z] 23).heap (g9.heap P8.out))
  have R9 := Lib.hid (heap_alloc_new w9 (.cells #[.int .i64 x, .int .i64 y, .int .i64 z] 23))
  have G9 := Lib.hid ((grown_trans G8.out g9).alloc #[.int .i64 x, .int .i64 y, .int .i64 z] 23)
  clear g9 P8 G8
  obtain ⟨d0, d1, d2⟩ := three_cells P9.out
  obtain ⟨e0, e1, e2⟩ := three_cells R9.out
  have sx := same3_self x y z
  go_wp2_with fail
  go_ret
  exact ⟨rfl, G9.out⟩
set_option maxHeartbeats 2000000 in
set_option maxRecDepth 10000 in
theorem texts_ny (m : Int) (a b c x y z : Int) (s T : ByteArray) (w : World) (hm : w.cell? ⟨1, 0, none⟩ = some (.int .i64 m)) (he : Er w) (ht : Tb w) (hl : (s.size : Int) ≤ 1024)
    (h8 : ∀ w, Tb w → Calls Tryd.prog 8 #[.agg #[.int .i64 a, .int .i64 b, .int .i64 c]] w fun e w' => e = .returned (.string T) ∧ Gr w w')
    (h11 : ∀ w, Tb w → Calls Tryd.prog 11 #[.agg #[.int .i64 a, .int .i64 b, .int .i64 c]] w fun e w' => e = .returned (.string T) ∧ Gr w w')
    (h9 : ∀ w, Calls Tryd.prog 9 #[.agg #[.int .i64 a, .int .i64 b, .int .i64 c]] w (Bo false w)) (h10 : ∀ w, Calls Tryd.prog 10 #[.agg #[.int .i64 a, .int .i64 b, .int .i64 c]] w (Bo false w))
    (hP : ∀ w, w.cell? ⟨1, 0, none⟩ = some (.int .i64 m) → Er w → Tb w → Calls Tryd.prog 12 #[.string T] w (ParseT 0 0 0 20 w))
    (hS : ∀ w, w.cell? ⟨1, 0, none⟩ = some (.int .i64 m) → Er w → Tb w → Calls Tryd.prog 12 #[.string s] w (ParseT x y z 0 w)) (hR : ∀ w, Calls Tryd.prog 13 #[.string s] w (ParseT x y z 0 w))
    (k8 : ∀ w, Tb w → Calls Tryd.prog 8 #[.agg #[.int .i64 x, .int .i64 y, .int .i64 z]] w fun e w' => e = .returned (.string s) ∧ Gr w w') :
    Calls Tryd.prog 3 #[.agg #[.int .i64 a, .int .i64 b, .int .i64 c], .string s] w fun e w' => e = .returned (.bool true) ∧ Gr w w' := by
  have Hm := Lib.hid hm
  have He := Lib.hid he
  have Ht := Lib.hid ht
  clear hm he ht
  go_enter Tryd.func3, Tryd.ntmps3
  go_wp2_with fail
  refine (alive_any m _ (((Gr.refl w).alloc _ _).keep Hm.out)).mono ?_
  rintro e w1 ⟨rfl, g1⟩
  obtain ⟨c0, c1, c2⟩ := three_cells (g1.heap (heap_alloc_new w _))
  have B1 := Lib.hid (g1.heap (heap_alloc_new w (.cells #[.int .i64 a, .int .i64 b, .int .i64 c] 23)))
  have G1 := Lib.hid (grown_trans ((Gr.refl w).alloc _ _) g1)
  clear g1
  go_wp2_with fail
  refine (h8 _ (Ht.out.keep G1.out)).mono ?_
  rintro e w2 ⟨rfl, g2⟩
  have B2 := Lib.hid (g2.heap B1.out)
  have G2 := Lib.hid (grown_trans G1.out g2)
  clear c0 c1 c2 g2 B1 G1
  obtain ⟨c0, c1, c2⟩ := three_cells B2.out
  have k0 := cell_regrown c0
  have k1 := cell_regrown c1
  have k2 := cell_regrown c2
  have q9 := q_of (fun w => h9 w) w2
  have q10 := q_of (fun w => h10 w) w2
  have q11 := q_tab h11 w2 (Ht.out.keep G2.out)
  clear c0 c1 c2
  go_wp2_with fail
  refine wp_region_quiet_below (by kernel_rfl) (by kernel_rfl) ?_
  repeat (quiet_step (first | (go_at_call 9; exact q9 _ _) | (go_at_call 10; exact q10 _ _) | (go_at_call 11; exact q11 _ _)))
  refine wpQuiet_nil ?_
  intro _ hw'
  obtain ⟨⟨dq, osq⟩, hw''⟩ := hw'
  subst hw''
  have g3 : Gr w2 (grow (redrawn w2 dq) osq) := below_regrown w2 dq osq
  have B3 := Lib.hid (g3.heap B2.out)
  have G3 := Lib.hid (grown_trans G2.out g3)
  clear g3 B2 G2 k0 k1 k2 q9 q10 q11
  generalize grow (redrawn w2 dq) osq = w3 at *
  go_wp2_with fail
  refine (hP _ (G3.out.keep Hm.out) (He.out.keep G3.out) (Ht.out.keep G3.out)).mono ?_
  rintro e w4 ⟨rfl, g4⟩
  have B4 := Lib.hid (((Gr.refl w4).alloc #[.int .i64 0, .int .i64 0, .int .i64 0] 23).heap (g4.heap B3.out))
  have P4 := Lib.hid (heap_alloc_new w4 (.cells #[.int .i64 0, .int .i64 0, .int .i64 0] 23))
  have G4 := Lib.hid ((grown_trans G3.out g4).alloc #[.int .i64 0, .int .i64 0, .int .i64 0] 23)
  have hp4 : w.heap.size < w4.heap.size := Nat.lt_of_lt_of_le (lt_of_block B3.out) g4.size
  clear g4 B3 G3
  obtain ⟨c0, c1, c2⟩ := three_cells B4.out
  go_wp2_with fail
  generalize w4.alloc (.cells #[.int .i64 0, .int .i64 0, .int .i64 0] 23) = w5 at *
  generalize w4.heap.size = p at *
  refine (h9 _).mono ?_
  rintro e w6 ⟨rfl, g6⟩
  have B6 := Lib.hid (g6.heap B4.out)
  have P6 := Lib.hid (g6.heap P4.out)
  have G6 := Lib.hid (grown_trans G4.out g6)
  clear g6 B4 P4 G4 c0 c1 c2
  obtain ⟨c0, c1, c2⟩ := three_cells B6.out
  obtain ⟨d0, d1, d2⟩ := three_cells P6.out
  have sm := same3_self a b c
  go_wp2_with fail
  refine (hS _ (G6.out.keep Hm.out) (He.out.keep G6.out) (Ht.out.keep G6.out)).mono ?_
  rintro e w7 ⟨rfl, g7⟩
  have P7 := Lib.hid (g7.heap P6.out)
  have G7 := Lib.hid (grown_trans G6.out g7)
  clear g7 B6 P6 G6 c0 c1 c2 d0 d1 d2
  have f := fz P7.out
  obtain ⟨d0, d1, d2⟩ := three_cells P7.out
  go_wp2_with fail
  have P8 := Lib.hid (set_all P7.out x y z)
  have G8 := Lib.hid (((G7.out.set (b := p) (i := 0) (by omega) (.int .i64 x)).set (b := p) (i := 1) (by omega) (.int .i64 y)).set (b := p) (i := 2) (by omega) (.int .i64 z))
  clear f d0 d1 d2 P7 G7
  generalize ((w7.setCell ⟨p, 0, none⟩ (.int .i64 x)).setCell ⟨p, 1, none⟩ (.int .i64 y)).setCell ⟨p, 2, none⟩ (.int .i64 z) = w8 at *
  refine (hR _).mono ?_
  rintro e w9 ⟨rfl, g9⟩
  have P9 := Lib.hid (((Gr.refl w9).alloc #[.int .i64 x, .int .i64 y, .int .i64 z] 23).heap (g9.heap P8.out))
  have R9 := Lib.hid (heap_alloc_new w9 (.cells #[.int .i64 x, .int .i64 y, .int .i64 z] 23))
  have G9 := Lib.hid ((grown_trans G8.out g9).alloc #[.int .i64 x, .int .i64 y, .int .i64 z] 23)
  clear g9 P8 G8
  obtain ⟨d0, d1, d2⟩ := three_cells P9.out
  obtain ⟨e0, e1, e2⟩ := three_cells R9.out
  have sx := same3_self x y z
  go_wp2_with fail
  refine (k8 _ (Ht.out.keep G9.out)).mono ?_
  rintro e wa ⟨rfl, ga⟩
  have Ga := Lib.hid (grown_trans G9.out ga)
  clear ga
  go_wp2_with fail
  go_ret
  exact ⟨rfl, Ga.out⟩
set_option maxHeartbeats 2000000 in
set_option maxRecDepth 10000 in
theorem texts_nn (m : Int) (a b c x y z : Int) (s T : ByteArray) (w : World) (hm : w.cell? ⟨1, 0, none⟩ = some (.int .i64 m)) (he : Er w) (ht : Tb w) (hl : (s.size : Int) ≤ 1024)
    (h8 : ∀ w, Tb w → Calls Tryd.prog 8 #[.agg #[.int .i64 a, .int .i64 b, .int .i64 c]] w fun e w' => e = .returned (.string T) ∧ Gr w w')
    (h11 : ∀ w, Tb w → Calls Tryd.prog 11 #[.agg #[.int .i64 a, .int .i64 b, .int .i64 c]] w fun e w' => e = .returned (.string T) ∧ Gr w w')
    (h9 : ∀ w, Calls Tryd.prog 9 #[.agg #[.int .i64 a, .int .i64 b, .int .i64 c]] w (Bo false w)) (h10 : ∀ w, Calls Tryd.prog 10 #[.agg #[.int .i64 a, .int .i64 b, .int .i64 c]] w (Bo false w))
    (hP : ∀ w, w.cell? ⟨1, 0, none⟩ = some (.int .i64 m) → Er w → Tb w → Calls Tryd.prog 12 #[.string T] w (ParseT 0 0 0 20 w))
    (hS : ∀ w, w.cell? ⟨1, 0, none⟩ = some (.int .i64 m) → Er w → Tb w → Calls Tryd.prog 12 #[.string s] w (ParseT x y z 20 w)) (hR : ∀ w, Calls Tryd.prog 13 #[.string s] w (ParseT x y z 20 w)) :
    Calls Tryd.prog 3 #[.agg #[.int .i64 a, .int .i64 b, .int .i64 c], .string s] w fun e w' => e = .returned (.bool true) ∧ Gr w w' := by
  have Hm := Lib.hid hm
  have He := Lib.hid he
  have Ht := Lib.hid ht
  clear hm he ht
  go_enter Tryd.func3, Tryd.ntmps3
  go_wp2_with fail
  refine (alive_any m _ (((Gr.refl w).alloc _ _).keep Hm.out)).mono ?_
  rintro e w1 ⟨rfl, g1⟩
  obtain ⟨c0, c1, c2⟩ := three_cells (g1.heap (heap_alloc_new w _))
  have B1 := Lib.hid (g1.heap (heap_alloc_new w (.cells #[.int .i64 a, .int .i64 b, .int .i64 c] 23)))
  have G1 := Lib.hid (grown_trans ((Gr.refl w).alloc _ _) g1)
  clear g1
  go_wp2_with fail
  refine (h8 _ (Ht.out.keep G1.out)).mono ?_
  rintro e w2 ⟨rfl, g2⟩
  have B2 := Lib.hid (g2.heap B1.out)
  have G2 := Lib.hid (grown_trans G1.out g2)
  clear c0 c1 c2 g2 B1 G1
  obtain ⟨c0, c1, c2⟩ := three_cells B2.out
  have k0 := cell_regrown c0
  have k1 := cell_regrown c1
  have k2 := cell_regrown c2
  have q9 := q_of (fun w => h9 w) w2
  have q10 := q_of (fun w => h10 w) w2
  have q11 := q_tab h11 w2 (Ht.out.keep G2.out)
  clear c0 c1 c2
  go_wp2_with fail
  refine wp_region_quiet_below (by kernel_rfl) (by kernel_rfl) ?_
  repeat (quiet_step (first | (go_at_call 9; exact q9 _ _) | (go_at_call 10; exact q10 _ _) | (go_at_call 11; exact q11 _ _)))
  refine wpQuiet_nil ?_
  intro _ hw'
  obtain ⟨⟨dq, osq⟩, hw''⟩ := hw'
  subst hw''
  have g3 : Gr w2 (grow (redrawn w2 dq) osq) := below_regrown w2 dq osq
  have B3 := Lib.hid (g3.heap B2.out)
  have G3 := Lib.hid (grown_trans G2.out g3)
  clear g3 B2 G2 k0 k1 k2 q9 q10 q11
  generalize grow (redrawn w2 dq) osq = w3 at *
  go_wp2_with fail
  refine (hP _ (G3.out.keep Hm.out) (He.out.keep G3.out) (Ht.out.keep G3.out)).mono ?_
  rintro e w4 ⟨rfl, g4⟩
  have B4 := Lib.hid (((Gr.refl w4).alloc #[.int .i64 0, .int .i64 0, .int .i64 0] 23).heap (g4.heap B3.out))
  have P4 := Lib.hid (heap_alloc_new w4 (.cells #[.int .i64 0, .int .i64 0, .int .i64 0] 23))
  have G4 := Lib.hid ((grown_trans G3.out g4).alloc #[.int .i64 0, .int .i64 0, .int .i64 0] 23)
  have hp4 : w.heap.size < w4.heap.size := Nat.lt_of_lt_of_le (lt_of_block B3.out) g4.size
  clear g4 B3 G3
  obtain ⟨c0, c1, c2⟩ := three_cells B4.out
  go_wp2_with fail
  generalize w4.alloc (.cells #[.int .i64 0, .int .i64 0, .int .i64 0] 23) = w5 at *
  generalize w4.heap.size = p at *
  refine (h9 _).mono ?_
  rintro e w6 ⟨rfl, g6⟩
  have B6 := Lib.hid (g6.heap B4.out)
  have P6 := Lib.hid (g6.heap P4.out)
  have G6 := Lib.hid (grown_trans G4.out g6)
  clear g6 B4 P4 G4 c0 c1 c2
  obtain ⟨c0, c1, c2⟩ := three_cells B6.out
  obtain ⟨d0, d1, d2⟩ := three_cells P6.out
  have sm := same3_self a b c
  go_wp2_with fail
  refine (hS _ (G6.out.keep Hm.out) (He.out.keep G6.out) (Ht.out.keep G6.out)).mono ?_
  rintro e w7 ⟨rfl, g7⟩
  have P7 := Lib.hid (g7.heap P6.out)
  have G7 := Lib.hid (grown_trans G6.out g7)
  clear g7 B6 P6 G6 c0 c1 c2 d0 d1 d2
  have f := fz P7.out
  obtain ⟨d0, d1, d2⟩ := three_cells P7.out
  go_wp2_with fail
  have P8 := Lib.hid (set_all P7.out x y z)
  have G8 := Lib.hid (((G7.out.set (b := p) (i := 0) (by omega) (.int .i64 x)).set (b := p) (i := 1) (by omega) (.int .i64 y)).set (b := p) (i := 2) (by omega) (.int .i64 z))
  clear f d0 d1 d2 P7 G7
  generalize ((w7.setCell ⟨p, 0, none⟩ (.int .i64 x)).setCell ⟨p, 1, none⟩ (.int .i64 y)).setCell ⟨p, 2, none⟩ (.int .i64 z) = w8 at *
  refine (hR _).mono ?_
  rintro e w9 ⟨rfl, g9⟩
  have P9 := Lib.hid (((Gr.refl w9).alloc #[.int .i64 x, .int .i64 y, .int .i64 z] 23).heap (g9.heap P8.out))
  have R9 := Lib.hid (heap_alloc_new w9 (.cells #[.int .i64 x, .int .i64 y, .int .i64 z] 23))
  have G9 := Lib.hid ((grown_trans G8.out g9).alloc #[.int .i64 x, .int .i64 y, .int .i64 z] 23)
  clear g9 P8 G8
  obtain ⟨d0, d1, d2⟩ := three_cells P9.out
  obtain ⟨e0, e1, e2⟩ := three_cells R9.out
  have sx := same3_self x y z
  go_wp2_with fail
  go_ret
  exact ⟨rfl, G9.out⟩
end Go.Proofs.YtfcanopbgikmcaaDoor
