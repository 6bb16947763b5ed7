/- The contracts of Compare, of the program and of the document. No condition. -/
import Derived.Test.YtfcanopbgikmcaaDoorWalkC
import Derived.StillTailTactics
import Derived.Deep.QuietTactic
import Derived.BigQuiet
namespace Go.Proofs.YtfcanopbgikmcaaDoor
set_option linter.unusedVariables false
open Go.ChangeShapes Go.WideShapes Go.ChangeAt Go.RowKit
theorem nan_any (a : Int) (w : World) : Calls Tryd.prog 30 #[.int .i64 a] w fun e w' => e = .returned (.bool false) ∧ w' = w := by
  go_enter Tryd.func30, Tryd.ntmps30
  go_wp2
  go_ret
  exact ⟨rfl, rfl⟩
def cmpI (a b : Int) : Int := if a < b then -1 else if b < a then 1 else 0
theorem cmp_any (a b : Int) (w : World) : Calls Tryd.prog 26 #[.int .i64 a, .int .i64 b] w fun e w' => e = .returned (.int .i64 (cmpI a b)) ∧ w' = w := by
  by_cases h1 : a < b
  · have hx : cmpI a b = -1 := by simp [cmpI, h1]
    rw [hx]
    go_enter Tryd.func26, Tryd.ntmps26
    go_wp2_with fail
    refine (nan_any a _).mono ?_
    rintro e w1 ⟨rfl, rfl⟩
    go_wp2_with fail
    refine (nan_any b _).mono ?_
    rintro e w1 ⟨rfl, rfl⟩
    go_wp2_with fail
    go_ret
    exact ⟨rfl, rfl⟩
  · by_cases h2 : b < a
    · have hx : cmpI a b = 1 := by simp [cmpI, h1, h2]
      rw [hx]
      go_enter Tryd.func26, Tryd.ntmps26
      go_wp2_with fail
      refine (nan_any a _).mono ?_
      rintro e w1 ⟨rfl, rfl⟩
      go_wp2_with fail
      refine (nan_any b _).mono ?_
      rintro e w1 ⟨rfl, rfl⟩
      go_wp2_with fail
      go_ret
      exact ⟨rfl, rfl⟩
    · have hx : cmpI a b = 0 := by simp [cmpI, h1, h2]
      rw [hx]
      go_enter Tryd.func26, Tryd.ntmps26
      go_wp2_with fail
      refine (nan_any a _).mono ?_
      rintro e w1 ⟨rfl, rfl⟩
      go_wp2_with fail
      refine (nan_any b _).mono ?_
      rintro e w1 ⟨rfl, rfl⟩
      go_wp2_with fail
      go_ret
      exact ⟨rfl, rfl⟩
def orI (x y z : Int) : Int := if x ≠ 0 then x else if y ≠ 0 then y else z
theorem or_any (b : Nat) (x y z : Int) (w : World) (h : w.heap[b]? = some (.cells #[.int .i64 x, .int .i64 y, .int .i64 z] 3 (0, 0))) :
    Calls Tryd.prog 25 #[.slice (some ⟨b, 0, none⟩) 3 3] w fun e w' => e = .returned (.int .i64 (orI x y z)) ∧ w' = w := by
  have c0 : w.cell? ⟨b, 0, none⟩ = some (.int .i64 x) := by rw [cell_of_row w _ 0 _ 3 (0, 0) h]; rfl
  have c1 : w.cell? ⟨b, 1, none⟩ = some (.int .i64 y) := by rw [cell_of_row w _ 1 _ 3 (0, 0) h]; rfl
  have c2 : w.cell? ⟨b, 2, none⟩ = some (.int .i64 z) := by rw [cell_of_row w _ 2 _ 3 (0, 0) h]; rfl
  clear h
  by_cases h1 : x = 0
  · by_cases h2 : y = 0
    · by_cases h3 : z = 0
      · subst h1 h2 h3
        rw [show orI 0 0 0 = 0 by simp [orI]]
        go_enter Tryd.func25, Tryd.ntmps25
        go_wp2_with fail
        refine wp_loop_rounds 4 ?_
        rw [rounds_succ]
        go_wp2_with fail
        rw [rounds_succ]
        go_wp2_with fail
        rw [rounds_succ]
        go_wp2_with fail
        rw [rounds_succ]
        go_wp2_with fail
        go_ret
        exact ⟨rfl, rfl⟩
      · subst h1 h2
        rw [show orI 0 0 z = z by simp [orI]]
        go_enter Tryd.func25, Tryd.ntmps25
        go_wp2_with fail
        refine wp_loop_rounds 3 ?_
        rw [rounds_succ]
        go_wp2_with fail
        rw [rounds_succ]
        go_wp2_with fail
        rw [rounds_succ]
        go_wp2_with fail
        go_ret
        exact ⟨rfl, rfl⟩
    · subst h1
      rw [show orI 0 y z = y by simp [orI, h2]]
      go_enter Tryd.func25, Tryd.ntmps25
      go_wp2_with fail
      refine wp_loop_rounds 2 ?_
      rw [rounds_succ]
      go_wp2_with fail
      rw [rounds_succ]
      go_wp2_with fail
      go_ret
      exact ⟨rfl, rfl⟩
  · rw [show orI x y z = x by simp [orI, h1]]
    go_enter Tryd.func25, Tryd.ntmps25
    go_wp2_with fail
    refine wp_loop_rounds 1 ?_
    rw [rounds_succ]
    go_wp2_with fail
    go_ret
    exact ⟨rfl, rfl⟩
def cmp3 (a b c x y z : Int) : Int := orI (cmpI a x) (cmpI b y) (cmpI c z)
theorem cmp3_self (a b c : Int) : cmp3 a b c a b c = 0 := by simp [cmp3, cmpI, orI]
theorem two (w : World) (x y : Obj) : ((w.alloc x).alloc y).heap[w.heap.size]? = some x ∧ ((w.alloc x).alloc y).heap[w.heap.size + 1]? = some y := by
  have s1 : (w.alloc x).heap.size = w.heap.size + 1 := by show (w.heap.push _).size = _; simp
  refine ⟨?_, ?_⟩
  · rw [Below.heap_alloc _ _ _ (by omega)]; exact heap_alloc_new w x
  · rw [← s1]; exact heap_alloc_new _ y
theorem Gr.drew {a w : World} (h : Gr a w) : Gr a w.drew := Below.drew h
set_option maxRecDepth 10000 in
theorem compare_any (a b c x y z : Int) (w : World) : Calls Tryd.prog 18 #[.agg #[.int .i64 a, .int .i64 b, .int .i64 c], .agg #[.int .i64 x, .int .i64 y, .int .i64 z]] w (Nu (cmp3 a b c x y z) w) := by
  by_cases h : a = x ∧ b = y ∧ c = z
  · obtain ⟨rfl, rfl, rfl⟩ := h
    rw [cmp3_self]
    have sm := same3_self a b c
    go_enter Tryd.func18, Tryd.ntmps18
    go_wp2_with fail
    go_ret
    exact ⟨rfl, ((Gr.refl _).alloc _ _).alloc _ _⟩
  · have sm := same3_no h
    clear h
    go_enter Tryd.func18, Tryd.ntmps18
    go_wp2_with fail
    obtain ⟨hp, hq⟩ := two w (.cells #[.int .i64 a, .int .i64 b, .int .i64 c] 23) (.cells #[.int .i64 x, .int .i64 y, .int .i64 z] 23)
    have hg : Gr w ((w.alloc (.cells #[.int .i64 a, .int .i64 b, .int .i64 c] 23)).alloc (.cells #[.int .i64 x, .int .i64 y, .int .i64 z] 23)).drew := (((Gr.refl _).alloc _ _).alloc _ _).drew
    obtain ⟨c0, c1, c2⟩ := three_cells (w := ((w.alloc (.cells #[.int .i64 a, .int .i64 b, .int .i64 c] 23)).alloc (.cells #[.int .i64 x, .int .i64 y, .int .i64 z] 23)).drew) hp
    obtain ⟨d0, d1, d2⟩ := three_cells (w := ((w.alloc (.cells #[.int .i64 a, .int .i64 b, .int .i64 c] 23)).alloc (.cells #[.int .i64 x, .int .i64 y, .int .i64 z] 23)).drew) hq
    clear hp hq
    refine wp_region_still_tail 15 (by kernel_rfl) (by kernel_rfl) ?_
    simp only [List.take_succ_cons, List.take_zero, List.drop_succ_cons, List.drop_zero]
    change wpStill _ _ (World.drew ((w.alloc _).alloc _)) (fun a' => wpList _ _ _ _ a' (World.drew ((w.alloc _).alloc _))) _ _
    generalize ((w.alloc (.cells #[.int .i64 a, .int .i64 b, .int .i64 c] 23)).alloc (.cells #[.int .i64 x, .int .i64 y, .int .i64 z] 23)).drew = w2 at *
    have Hg := Lib.hid hg
    clear hg
    repeat still_step
    still_call (cmp_any a x _)
    repeat still_step
    still_call (cmp_any b y _)
    repeat still_step
    still_call (cmp_any c z _)
    refine wpStill_nil ?_
    clear c0 c1 c2 d0 d1 d2
    go_wp2_with fail
    refine (or_any _ _ _ _ _ (heap_alloc_new w2 _)).mono ?_
    rintro e w3 ⟨rfl, rfl⟩
    go_wp2_with fail
    go_ret
    exact ⟨rfl, Hg.out.alloc _ _⟩
theorem Gr.drewN {a w : World} (h : Gr a w) (n : Nat) : Gr a (w.drewN n) := ⟨h.os, h.tape, h.output, h.size, h.block⟩
theorem cmp3_1 {a b c x y z : Int} (h : ¬ a = x) : cmp3 a b c x y z = if a < x then -1 else 1 := by
  unfold cmp3 cmpI orI; split <;> split <;> simp_all <;> omega
theorem cmp3_2 {a b c y z : Int} (h : ¬ b = y) : cmp3 a b c a y z = if b < y then -1 else 1 := by
  unfold cmp3 cmpI orI; simp; split <;> simp_all <;> omega
theorem cmp3_3 {a b c z : Int} : cmp3 a b c a b z = if c < z then -1 else if z < c then 1 else 0 := by
  unfold cmp3 cmpI orI; simp
set_option maxHeartbeats 1000000 in
set_option maxRecDepth 10000 in
theorem compareR_any (a b c x y z : Int) (w : World) : Calls Tryd.prog 19 #[.agg #[.int .i64 a, .int .i64 b, .int .i64 c], .agg #[.int .i64 x, .int .i64 y, .int .i64 z]] w (Nu (cmp3 a b c x y z) w) := by
  obtain ⟨hp, hq⟩ := two w (.cells #[.int .i64 a, .int .i64 b, .int .i64 c] 23) (.cells #[.int .i64 x, .int .i64 y, .int .i64 z] 23)
  obtain ⟨c0, c1, c2⟩ := three_cells hp
  obtain ⟨d0, d1, d2⟩ := three_cells hq
  have Hg := Lib.hid (((Gr.refl w).alloc #[.int .i64 a, .int .i64 b, .int .i64 c] 23).alloc #[.int .i64 x, .int .i64 y, .int .i64 z] 23)
  clear hp hq
  by_cases h1 : a = x
  · subst h1
    by_cases h2 : b = y
    · subst h2
      rw [cmp3_3]
      by_cases h3 : c < z
      · rw [if_pos h3]
        go_enter Tryd.func19, Tryd.ntmps19
        go_wp2_with fail
        generalize (w.alloc (.cells #[.int .i64 a, .int .i64 b, .int .i64 c] 23)).alloc (.cells #[.int .i64 a, .int .i64 b, .int .i64 z] 23) = w2 at *
        refine wp_loop_rounds 3 ?_
        rw [rounds_succ]
        go_wp2_with fail
        go_quiet (fail)
        go_wp2_with fail
        rw [rounds_succ]
        go_wp2_with fail
        go_quiet (fail)
        go_wp2_with fail
        rw [rounds_succ]
        go_wp2_with fail
        go_quiet (fail)
        go_wp2_with fail
        go_quiet (fail)
        go_wp2_with fail
        go_ret
        exact ⟨rfl, by first | exact Hg.out.drewN _ | exact (Hg.out.drewN _).drewN _ | exact ((Hg.out.drewN _).drewN _).drewN _ | exact (((Hg.out.drewN _).drewN _).drewN _).drewN _ | exact ((((Hg.out.drewN _).drewN _).drewN _).drewN _).drewN _⟩
      · rw [if_neg h3]
        by_cases h4 : z < c
        · rw [if_pos h4]
          go_enter Tryd.func19, Tryd.ntmps19
          go_wp2_with fail
          generalize (w.alloc (.cells #[.int .i64 a, .int .i64 b, .int .i64 c] 23)).alloc (.cells #[.int .i64 a, .int .i64 b, .int .i64 z] 23) = w2 at *
          refine wp_loop_rounds 3 ?_
          rw [rounds_succ]
          go_wp2_with fail
          go_quiet (fail)
          go_wp2_with fail
          rw [rounds_succ]
          go_wp2_with fail
          go_quiet (fail)
          go_wp2_with fail
          rw [rounds_succ]
          go_wp2_with fail
          go_quiet (fail)
          go_wp2_with fail
          go_quiet (fail)
          go_wp2_with fail
          go_quiet (fail)
          go_wp2_with fail
          go_ret
          exact ⟨rfl, by first | exact Hg.out.drewN _ | exact (Hg.out.drewN _).drewN _ | exact ((Hg.out.drewN _).drewN _).drewN _ | exact (((Hg.out.drewN _).drewN _).drewN _).drewN _ | exact ((((Hg.out.drewN _).drewN _).drewN _).drewN _).drewN _⟩
        · rw [if_neg h4]
          go_enter Tryd.func19, Tryd.ntmps19
          go_wp2_with fail
          generalize (w.alloc (.cells #[.int .i64 a, .int .i64 b, .int .i64 c] 23)).alloc (.cells #[.int .i64 a, .int .i64 b, .int .i64 z] 23) = w2 at *
          refine wp_loop_rounds 3 ?_
          rw [rounds_succ]
          go_wp2_with fail
          go_quiet (fail)
          go_wp2_with fail
          rw [rounds_succ]
          go_wp2_with fail
          go_quiet (fail)
          go_wp2_with fail
          rw [rounds_succ]
          go_wp2_with fail
          go_quiet (fail)
          go_wp2_with fail
          go_quiet (fail)
          go_wp2_with fail
          go_quiet (fail)
          go_wp2_with fail
          go_ret
          exact ⟨rfl, by first | exact Hg.out.drewN _ | exact (Hg.out.drewN _).drewN _ | exact ((Hg.out.drewN _).drewN _).drewN _ | exact (((Hg.out.drewN _).drewN _).drewN _).drewN _ | exact ((((Hg.out.drewN _).drewN _).drewN _).drewN _).drewN _⟩
    · rw [cmp3_2 h2]
      by_cases h3 : b < y
      · rw [if_pos h3]
        go_enter Tryd.func19, Tryd.ntmps19
        go_wp2_with fail
        generalize (w.alloc (.cells #[.int .i64 a, .int .i64 b, .int .i64 c] 23)).alloc (.cells #[.int .i64 a, .int .i64 y, .int .i64 z] 23) = w2 at *
        refine wp_loop_rounds 2 ?_
        rw [rounds_succ]
        go_wp2_with fail
        go_quiet (fail)
        go_wp2_with fail
        rw [rounds_succ]
        go_wp2_with fail
        go_quiet (fail)
        go_wp2_with fail
        go_quiet (fail)
        go_wp2_with fail
        go_ret
        exact ⟨rfl, by first | exact Hg.out.drewN _ | exact (Hg.out.drewN _).drewN _ | exact ((Hg.out.drewN _).drewN _).drewN _ | exact (((Hg.out.drewN _).drewN _).drewN _).drewN _ | exact ((((Hg.out.drewN _).drewN _).drewN _).drewN _).drewN _⟩
      · rw [if_neg h3]
        have h4 : y < b := by omega
        go_enter Tryd.func19, Tryd.ntmps19
        go_wp2_with fail
        generalize (w.alloc (.cells #[.int .i64 a, .int .i64 b, .int .i64 c] 23)).alloc (.cells #[.int .i64 a, .int .i64 y, .int .i64 z] 23) = w2 at *
        refine wp_loop_rounds 2 ?_
        rw [rounds_succ]
        go_wp2_with fail
        go_quiet (fail)
        go_wp2_with fail
        rw [rounds_succ]
        go_wp2_with fail
        go_quiet (fail)
        go_wp2_with fail
        go_quiet (fail)
        go_wp2_with fail
        go_quiet (fail)
        go_wp2_with fail
        go_ret
        exact ⟨rfl, by first | exact Hg.out.drewN _ | exact (Hg.out.drewN _).drewN _ | exact ((Hg.out.drewN _).drewN _).drewN _ | exact (((Hg.out.drewN _).drewN _).drewN _).drewN _ | exact ((((Hg.out.drewN _).drewN _).drewN _).drewN _).drewN _⟩
  · rw [cmp3_1 h1]
    by_cases h2 : a < x
    · rw [if_pos h2]
      go_enter Tryd.func19, Tryd.ntmps19
      go_wp2_with fail
      generalize (w.alloc (.cells #[.int .i64 a, .int .i64 b, .int .i64 c] 23)).alloc (.cells #[.int .i64 x, .int .i64 y, .int .i64 z] 23) = w2 at *
      refine wp_loop_rounds 1 ?_
      rw [rounds_succ]
      go_wp2_with fail
      go_quiet (fail)
      go_wp2_with fail
      go_quiet (fail)
      go_wp2_with fail
      go_ret
      exact ⟨rfl, by first | exact Hg.out.drewN _ | exact (Hg.out.drewN _).drewN _ | exact ((Hg.out.drewN _).drewN _).drewN _ | exact (((Hg.out.drewN _).drewN _).drewN _).drewN _ | exact ((((Hg.out.drewN _).drewN _).drewN _).drewN _).drewN _⟩
    · rw [if_neg h2]
      have h4 : x < a := by omega
      go_enter Tryd.func19, Tryd.ntmps19
      go_wp2_with fail
      generalize (w.alloc (.cells #[.int .i64 a, .int .i64 b, .int .i64 c] 23)).alloc (.cells #[.int .i64 x, .int .i64 y, .int .i64 z] 23) = w2 at *
      refine wp_loop_rounds 1 ?_
      rw [rounds_succ]
      go_wp2_with fail
      go_quiet (fail)
      go_wp2_with fail
      go_quiet (fail)
      go_wp2_with fail
      go_quiet (fail)
      go_wp2_with fail
      go_ret
      exact ⟨rfl, by first | exact Hg.out.drewN _ | exact (Hg.out.drewN _).drewN _ | exact ((Hg.out.drewN _).drewN _).drewN _ | exact (((Hg.out.drewN _).drewN _).drewN _).drewN _ | exact ((((Hg.out.drewN _).drewN _).drewN _).drewN _).drewN _⟩
end Go.Proofs.YtfcanopbgikmcaaDoor
