/- The walk of the statement on rising versions. Conditions: the library's own variable holds some number; its table of powers of ten reads as laid. -/
import Derived.Test.YtfcanopbgikmcaaDoorTextMath
namespace Go.Proofs.YtfcanopbgikmcaaDoor
set_option linter.unusedVariables false
open Go.ChangeShapes Go.WideShapes Go.ChangeAt Go.RowKit Go.Sort
theorem q_of {f : FuncId} {args : Array Value} {v : Value} (h : ∀ w, Calls Tryd.prog f args w fun e w' => e = .returned v ∧ Gr w w') (w : World) (d : Nat) (os : Array Obj) :
    Calls Tryd.prog f args (grow (redrawn w d) os) fun e w' => e = .returned v ∧ ∃ p : Regrown, w' = grow (redrawn w p.d) p.os := Calls.regrown_of (h _)
theorem q_tab {f : FuncId} {args : Array Value} {v : Value} (h : ∀ w, Tb w → Calls Tryd.prog f args w fun e w' => e = .returned v ∧ Gr w w') (w : World) (ht : Tb w) (d : Nat) (os : Array Obj) :
    Calls Tryd.prog f args (grow (redrawn w d) os) fun e w' => e = .returned v ∧ ∃ p : Regrown, w' = grow (redrawn w p.d) p.os := Calls.regrown_of (h _ (ht.keep (below_regrown w d os)))
theorem J2 {w w3 w4 : World} {a b c x y z : Int} (g : Gr w w3) (g4 : Gr (w3.alloc (.cells #[.int .i64 a, .int .i64 b, .int .i64 c] 23)) w4) :
    (w4.alloc (.cells #[.int .i64 x, .int .i64 y, .int .i64 z] 23)).heap[w3.heap.size]? = some (.cells #[.int .i64 a, .int .i64 b, .int .i64 c] 23 (0, 0)) ∧
    (w4.alloc (.cells #[.int .i64 x, .int .i64 y, .int .i64 z] 23)).heap[w4.heap.size]? = some (.cells #[.int .i64 x, .int .i64 y, .int .i64 z] 23 (0, 0)) ∧ Gr w (w4.alloc (.cells #[.int .i64 x, .int .i64 y, .int .i64 z] 23)) :=
  ⟨((Gr.refl w4).alloc _ _).heap (g4.heap (heap_alloc_new w3 _)), heap_alloc_new w4 _, grown_trans (grown_trans (grown_trans g ((Gr.refl w3).alloc _ _)) g4) ((Gr.refl w4).alloc _ _)⟩
set_option maxHeartbeats 600000 in
set_option maxRecDepth 10000 in
theorem rises_walk (m n : Int) (a b c x y z : Int) (A B : ByteArray) (w : World) (hm : w.cell? ⟨1, 0, none⟩ = some (.int .i64 m)) (ht : Tb w) (h0 : 0 ≤ n) (h1 : n < 999999999)
    (h15 : ∀ w, Calls Tryd.prog 15 #[.int .i64 n] w (OfT a b c true w)) (h15' : ∀ w, Calls Tryd.prog 15 #[.int .i64 (n + 1)] w (OfT x y z true w))
    (h18 : ∀ w, Calls Tryd.prog 18 #[.agg #[.int .i64 a, .int .i64 b, .int .i64 c], .agg #[.int .i64 x, .int .i64 y, .int .i64 z]] w (Nu (-1) w))
    (h8 : ∀ w, Tb w → Calls Tryd.prog 8 #[.agg #[.int .i64 a, .int .i64 b, .int .i64 c]] w fun e w' => e = .returned (.string A) ∧ Gr w w')
    (h8' : ∀ w, Tb w → Calls Tryd.prog 8 #[.agg #[.int .i64 x, .int .i64 y, .int .i64 z]] w fun e w' => e = .returned (.string B) ∧ Gr w w')
    (h14 : ∀ w, Calls Tryd.prog 14 #[.agg #[.int .i64 x, .int .i64 y, .int .i64 z]] w (Nu (n + 1) w)) (hne : ¬ A = B) :
    Calls Tryd.prog 6 #[.int .i64 n] w fun e w' => e = .returned (.bool true) ∧ Gr w w' := by
  have Hm := Lib.hid hm
  have Ht := Lib.hid ht
  have H18 := Lib.hid h18
  have H8 := Lib.hid h8
  have H8' := Lib.hid h8'
  have H14 := Lib.hid h14
  have H15 := Lib.hid h15
  have H15' := Lib.hid h15'
  have hwr : IntKind.i64.wrap (n + 1) = n + 1 := by rw [IntKind.wrap_i64]; omega
  have e2 : (A.toList == B.toList) = false := by
    rw [beq_eq_false_iff_ne]
    intro e
    rw [Lib.toList_data, Lib.toList_data] at e
    exact hne (ByteArray.ext (Array.ext' e))
  have e1 : (A == B) = false := by rw [beq_toListBytes]; exact e2
  clear hm ht h18 h8 h8' h14 hne h15 h15'
  go_enter Tryd.func6, Tryd.ntmps6
  go_wp2_with fail
  refine (alive_any m _ Hm.out).mono ?_
  rintro e w1 ⟨rfl, g1⟩
  have G1 := Lib.hid g1
  clear g1
  go_wp2_with fail
  refine (H15.out _).mono ?_
  rintro e w2 ⟨rfl, g2⟩
  have G2 := Lib.hid (grown_trans G1.out g2)
  clear g2 G1
  go_wp2_with fail
  refine (H15'.out _).mono ?_
  rintro e w3 ⟨rfl, g3⟩
  obtain ⟨j1, j2, j3⟩ := J2 (x := x) (y := y) (z := z) G2.out g3
  have J3 := Lib.hid j3
  have t3 := Ht.out.keep j3
  obtain ⟨c0, c1, c2⟩ := three_cells j1
  obtain ⟨d0, d1, d2⟩ := three_cells j2
  have k0 := cell_regrown c0
  have k1 := cell_regrown c1
  have k2 := cell_regrown c2
  have k3 := cell_regrown d0
  have k4 := cell_regrown d1
  have k5 := cell_regrown d2
  have q0 := q_of H18.out (w3.alloc (.cells #[.int .i64 x, .int .i64 y, .int .i64 z] 23))
  have q1 := q_tab H8.out _ t3
  have q2 := q_tab H8'.out _ t3
  have q3 := q_of H14.out (w3.alloc (.cells #[.int .i64 x, .int .i64 y, .int .i64 z] 23))
  clear g3 j1 j2 j3 t3 G2 H18 H8 H8' H14 H15 H15' c0 c1 c2 d0 d1 d2
  go_wp2_with fail
  generalize w3.alloc (.cells #[.int .i64 x, .int .i64 y, .int .i64 z] 23) = w4 at *
  refine wp_region_quiet_below (by kernel_rfl) (by kernel_rfl) ?_
  repeat (quiet_step (first | (go_at_call 18; exact q0 _ _) | (go_at_call 14; exact q3 _ _) | (go_at_call_of 8 (Value.int IntKind.i64 a); exact q1 _ _) | (go_at_call_of 8 (Value.int IntKind.i64 x); exact q2 _ _)))
  refine wpQuiet_nil ?_
  intro _ hw'
  obtain ⟨⟨dq, osq⟩, hw''⟩ := hw'
  subst hw''
  go_wp2_with fail
  go_ret
  exact ⟨rfl, grown_trans J3.out (below_regrown w4 dq osq)⟩
theorem rises_out (m n : Int) (w : World) (hm : w.cell? ⟨1, 0, none⟩ = some (.int .i64 m)) (h : n < 0 ∨ 999999999 ≤ n) :
    Calls Tryd.prog 6 #[.int .i64 n] w fun e w' => e = .returned (.bool true) ∧ Gr w w' := by
  have Hm := Lib.hid hm
  clear hm
  rcases h with h | h
  · go_enter Tryd.func6, Tryd.ntmps6
    go_wp2_with fail
    refine (alive_any m _ Hm.out).mono ?_
    rintro e w1 ⟨rfl, g1⟩
    go_wp2_with fail
    go_ret
    exact ⟨rfl, g1⟩
  · go_enter Tryd.func6, Tryd.ntmps6
    go_wp2_with fail
    refine (alive_any m _ Hm.out).mono ?_
    rintro e w1 ⟨rfl, g1⟩
    go_wp2_with fail
    go_ret
    exact ⟨rfl, g1⟩
theorem cmp3_lt {a b c x y z : Int} (h : goodB a b c = true) (k : goodB x y z = true) (hl : numI a b c < numI x y z) : cmp3 a b c x y z = -1 := by
  rcases (cmp3_cases a b c x y z).1 with e | e | e
  · exact e
  · have := (cmp3_num h k).2.1 e; omega
  · have := (cmp3_num h k).2.2 e; omega
theorem text_ne {a b c x y z : Int} (h : goodB a b c = true) (k : goodB x y z = true) (hc : ¬ c = z) : ¬ dot (it a) (it b) (it c) = dot (it x) (it y) (it z) := by
  obtain ⟨h1, h2, h3, h4, h5, h6⟩ := good_iff.1 h
  obtain ⟨k1, k2, k3, k4, k5, k6⟩ := good_iff.1 k
  obtain ⟨a, rfl⟩ := Int.eq_ofNat_of_zero_le h1
  obtain ⟨b, rfl⟩ := Int.eq_ofNat_of_zero_le h3
  obtain ⟨c, rfl⟩ := Int.eq_ofNat_of_zero_le h5
  obtain ⟨x, rfl⟩ := Int.eq_ofNat_of_zero_le k1
  obtain ⟨y, rfl⟩ := Int.eq_ofNat_of_zero_le k3
  obtain ⟨z, rfl⟩ := Int.eq_ofNat_of_zero_le k5
  exact dot_ne (fun e => hc (by rw [e.2.2]))
theorem rises_any (m n : Int) (w : World) (hm : w.cell? ⟨1, 0, none⟩ = some (.int .i64 m)) (ht : Tb w) :
    Calls Tryd.prog 6 #[.int .i64 n] w fun e w' => e = .returned (.bool true) ∧ Gr w w' := by
  by_cases h : 0 ≤ n ∧ n < 999999999
  · obtain ⟨p1, p2⟩ := of_num n h.1 (by omega)
    obtain ⟨p3, p4⟩ := of_num (n + 1) (by omega) (by omega)
    refine rises_walk m n _ _ _ _ _ _ _ _ w hm ht h.1 h.2 (fun w => of_good n w h.1 (by omega)) (fun w => of_good (n + 1) w (by omega) (by omega)) (fun w => ?_) (fun w t => text_good _ _ _ w t p2) (fun w t => text_good _ _ _ w t p4) (fun w => ?_) (text_ne p2 p4 (by omega))
    · have := compare_any (n / 1000000) (n / 1000 % 1000) (n % 1000) ((n + 1) / 1000000) ((n + 1) / 1000 % 1000) ((n + 1) % 1000) w
      rwa [cmp3_lt p2 p4 (by rw [p1, p3]; omega)] at this
    · have := number_any ((n + 1) / 1000000) ((n + 1) / 1000 % 1000) ((n + 1) % 1000) w
      rwa [p3] at this
  · exact rises_out m n w hm (by omega)
end Go.Proofs.YtfcanopbgikmcaaDoor
