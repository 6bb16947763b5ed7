/- The document's ribbon: Off. Condition: what stands in RS.ok. -/
import Derived.Test.YtpjnbcecbppeoaaRefA
namespace Go.Proofs.Ytpjnbcecbppeoaa
set_option linter.unusedVariables false
open Go.ChangeShapes Go.WideShapes Go.ChangeAt Go.RowKit
theorem keep_al {w w' : World} {b : Nat} {u1 u2 : Value} (h : Chg NoB w w') (d0 : w.cell? ⟨b, 0, none⟩ = some u1) (d1 : w.cell? ⟨b, 1, none⟩ = some u2) (f1 : w.frozen? ⟨b, 0, none⟩ = false) :
    w'.cell? ⟨b, 0, none⟩ = some u1 ∧ w'.cell? ⟨b, 1, none⟩ = some u2 ∧ w'.frozen? ⟨b, 0, none⟩ = false := ⟨h.cell d0 id, h.cell d1 id, h.frozen (p := ⟨b, 0, none⟩) d0 id f1⟩
set_option maxHeartbeats 1000000 in
theorem moff_up (b : Nat) (R : Nat → Prop) (s : RS) (k : Int) (w : World) (h : Mb w b R s) (hd : s.down = false) :
    Calls Try.prog 18 #[.pointer (some ⟨b, 0, none⟩), .int .i64 k] w (MDid b R (s.moff k) (.tuple #[]) w) := by
  obtain ⟨⟨o1, o2, o3, o4⟩, h1, ad, cap, h2, h3, h4⟩ := h
  have hle : s.xs.length ≤ cap ∧ cap ≤ maxLen := by
    obtain ⟨_, _, e, q1, q2, _⟩ := h3.shape
    simp only [Value.slice.injEq] at e
    obtain ⟨_, _, rfl⟩ := e
    exact ⟨q1, q2⟩
  obtain ⟨hle, hcm⟩ := hle
  unfold maxLen at hcm
  have c := fun i => cell_of_row w b i _ 38 (0, 0) h2
  have c0 := c 0
  have c1 := c 1
  have c2 := c 2
  have c4 := c 4
  simp [hd] at c0 c1 c2 c4
  have f := fz h2
  have H2 := Lib.hid h2
  have H3 := Lib.hid h3
  have Hd := Lib.hid hd
  have Hok := Lib.hid (show s.ok from ⟨o1, o2, o3, o4⟩)
  have H4 := Lib.hid h4
  clear h2 h3 c hd h4
  rcases (show k < 0 ∨ (0 ≤ k ∧ k < (s.xs.length : Int) - s.safe) ∨ (0 ≤ k ∧ (s.xs.length : Int) - s.safe ≤ k) by omega) with hk | ⟨hk, hk2⟩ | ⟨hk, hk2⟩
  · go_enter Try.func18, Try.ntmps18
    go_wp2
    go_quiet (fail)
    go_wp2
    obtain ⟨m, hm⟩ : ∃ m : Nat, m = s.safe := ⟨_, rfl⟩
    have hx : (s.safe : Int) = (m : Int) := by omega
    have Hml := Lib.hid (show m ≤ s.xs.length from by omega)
    have Hm := Lib.hid (show m = s.safe + min (k).toNat (s.xs.length - s.safe) from by omega)
    rw [hx]
    clear hx hm
    obtain ⟨w1, hw1⟩ : ∃ w1, w1 = (w.drewN nq).setCell ⟨b, 1, none⟩ (.int .i64 (m : Int)) := ⟨_, rfl⟩
    rw [← hw1]
    obtain ⟨hc1, hrow1, hsrc1⟩ := mst w w1 b R nq m ad cap s.xs _ _ _ _ _ _ H2.out H3.out H4.out hw1 Hml.out
    obtain ⟨ys, hys⟩ : ∃ ys, ys = s.xs.take m := ⟨_, rfl⟩
    rw [← hys] at hsrc1
    have Hyl := Lib.hid (show ys.length = m by rw [hys, List.length_take]; have := Hml.out; omega)
    have Hys := Lib.hid hys
    have Hrow1 := Lib.hid hrow1
    have Hsrc1 := Lib.hid hsrc1
    have Hc1 := Lib.hid hc1
    have c' := fun i => cell_of_row w1 b i _ 38 (0, 0) hrow1
    have d0 := c' 0
    have d1 := c' 1
    simp at d0 d1
    have f1 := fz hrow1 0
    have hmc0 : (0 : Int) ≤ (m : Int) := Int.natCast_nonneg _
    have hmc : (m : Int) ≤ (cap : Int) := by have := Hml.out; omega
    have hmcn : m ≤ cap := by omega
    have hbne : b ≠ w1.heap.size := by have := lt_of_block hrow1; omega
    have hal := Chg.drew ((Chg.refl NoB w1).alloc (.cells #[] 5))
    obtain ⟨e0, e1, e2⟩ := keep_al hal d0 d1 f1
    have Hbs := Lib.hid hal.size
    have Hal := Lib.hid hal
    clear hal hw1 hc1 hrow1 hsrc1 hys c' c0 c1 c2 c4 f
    go_region_law (first | (refine step_append_nil (by rfl) _ (.tmp 36) (.tmp 45) (by rfl) w1.heap.size w1.heap.size 0 ys (by rfl) ((own_empty w1).chg (S := NoB) (Chg.drew (Chg.refl _ _)) (fun _ _ => id)) _ (by rfl) (Hsrc1.out.chg (S := NoB) (Chg.drew ((Chg.refl NoB w1).alloc _)) fun _ _ => id) (by rw [Hyl.out]; have := Hml.out; omega) Hbs.out ?_; intro g cp w2 hown1 hcg; obtain ⟨s0, s1, s2, s3, s4, s5, s6⟩ := row_cells (row_kept hcg (row_kept Hal.out Hrow1.out id) hbne)))
    all_goals go_wp2
    all_goals go_end0
    all_goals exact moff_end b R s _ m _ cap _ ad ys w w1 _ _ _ Hd.out Hm.out h1 Hok.out Hc1.out Hys.out Hrow1.out Hal.out hcg hown1 (by first | exact Chg.refl _ _ | exact (Chg.refl _ _).drew | exact (Chg.refl _ _).drew.drew | exact (Chg.refl _ _).drew.drew.drew)
  · obtain ⟨kn, rfl⟩ := Int.eq_ofNat_of_zero_le (a := k) (by omega)
    go_enter Try.func18, Try.ntmps18
    go_wp2
    go_quiet (fail)
    go_wp2
    obtain ⟨m, hm⟩ : ∃ m : Nat, m = s.safe + kn := ⟨_, rfl⟩
    have hx : (s.safe : Int) + (kn : Int) = (m : Int) := by omega
    have Hml := Lib.hid (show m ≤ s.xs.length from by omega)
    have Hm := Lib.hid (show m = s.safe + min ((kn : Int)).toNat (s.xs.length - s.safe) from by omega)
    rw [hx]
    clear hx hm
    obtain ⟨w1, hw1⟩ : ∃ w1, w1 = (w.drewN nq).setCell ⟨b, 1, none⟩ (.int .i64 (m : Int)) := ⟨_, rfl⟩
    rw [← hw1]
    obtain ⟨hc1, hrow1, hsrc1⟩ := mst w w1 b R nq m ad cap s.xs _ _ _ _ _ _ H2.out H3.out H4.out hw1 Hml.out
    obtain ⟨ys, hys⟩ : ∃ ys, ys = s.xs.take m := ⟨_, rfl⟩
    rw [← hys] at hsrc1
    have Hyl := Lib.hid (show ys.length = m by rw [hys, List.length_take]; have := Hml.out; omega)
    have Hys := Lib.hid hys
    have Hrow1 := Lib.hid hrow1
    have Hsrc1 := Lib.hid hsrc1
    have Hc1 := Lib.hid hc1
    have c' := fun i => cell_of_row w1 b i _ 38 (0, 0) hrow1
    have d0 := c' 0
    have d1 := c' 1
    simp at d0 d1
    have f1 := fz hrow1 0
    have hmc0 : (0 : Int) ≤ (m : Int) := Int.natCast_nonneg _
    have hmc : (m : Int) ≤ (cap : Int) := by have := Hml.out; omega
    have hmcn : m ≤ cap := by omega
    have hbne : b ≠ w1.heap.size := by have := lt_of_block hrow1; omega
    have hal := Chg.drew ((Chg.refl NoB w1).alloc (.cells #[] 5))
    obtain ⟨e0, e1, e2⟩ := keep_al hal d0 d1 f1
    have Hbs := Lib.hid hal.size
    have Hal := Lib.hid hal
    clear hal hw1 hc1 hrow1 hsrc1 hys c' c0 c1 c2 c4 f
    go_region_law (first | (refine step_append_nil (by rfl) _ (.tmp 36) (.tmp 45) (by rfl) w1.heap.size w1.heap.size 0 ys (by rfl) ((own_empty w1).chg (S := NoB) (Chg.drew (Chg.refl _ _)) (fun _ _ => id)) _ (by rfl) (Hsrc1.out.chg (S := NoB) (Chg.drew ((Chg.refl NoB w1).alloc _)) fun _ _ => id) (by rw [Hyl.out]; have := Hml.out; omega) Hbs.out ?_; intro g cp w2 hown1 hcg; obtain ⟨s0, s1, s2, s3, s4, s5, s6⟩ := row_cells (row_kept hcg (row_kept Hal.out Hrow1.out id) hbne)))
    all_goals go_wp2
    all_goals go_end0
    all_goals exact moff_end b R s _ m _ cap _ ad ys w w1 _ _ _ Hd.out Hm.out h1 Hok.out Hc1.out Hys.out Hrow1.out Hal.out hcg hown1 (by first | exact Chg.refl _ _ | exact (Chg.refl _ _).drew | exact (Chg.refl _ _).drew.drew | exact (Chg.refl _ _).drew.drew.drew)
  · obtain ⟨kn, rfl⟩ := Int.eq_ofNat_of_zero_le (a := k) (by omega)
    go_enter Try.func18, Try.ntmps18
    go_wp2
    go_quiet (fail)
    go_wp2
    obtain ⟨m, hm⟩ : ∃ m : Nat, m = s.xs.length := ⟨_, rfl⟩
    have hx : (s.safe : Int) + ((s.xs.length : Int) - (s.safe : Int)) = (m : Int) := by omega
    have Hml := Lib.hid (show m ≤ s.xs.length from by omega)
    have Hm := Lib.hid (show m = s.safe + min ((kn : Int)).toNat (s.xs.length - s.safe) from by omega)
    rw [hx]
    clear hx hm
    obtain ⟨w1, hw1⟩ : ∃ w1, w1 = (w.drewN nq).setCell ⟨b, 1, none⟩ (.int .i64 (m : Int)) := ⟨_, rfl⟩
    rw [← hw1]
    obtain ⟨hc1, hrow1, hsrc1⟩ := mst w w1 b R nq m ad cap s.xs _ _ _ _ _ _ H2.out H3.out H4.out hw1 Hml.out
    obtain ⟨ys, hys⟩ : ∃ ys, ys = s.xs.take m := ⟨_, rfl⟩
    rw [← hys] at hsrc1
    have Hyl := Lib.hid (show ys.length = m by rw [hys, List.length_take]; have := Hml.out; omega)
    have Hys := Lib.hid hys
    have Hrow1 := Lib.hid hrow1
    have Hsrc1 := Lib.hid hsrc1
    have Hc1 := Lib.hid hc1
    have c' := fun i => cell_of_row w1 b i _ 38 (0, 0) hrow1
    have d0 := c' 0
    have d1 := c' 1
    simp at d0 d1
    have f1 := fz hrow1 0
    have hmc0 : (0 : Int) ≤ (m : Int) := Int.natCast_nonneg _
    have hmc : (m : Int) ≤ (cap : Int) := by have := Hml.out; omega
    have hmcn : m ≤ cap := by omega
    have hbne : b ≠ w1.heap.size := by have := lt_of_block hrow1; omega
    have hal := Chg.drew ((Chg.refl NoB w1).alloc (.cells #[] 5))
    obtain ⟨e0, e1, e2⟩ := keep_al hal d0 d1 f1
    have Hbs := Lib.hid hal.size
    have Hal := Lib.hid hal
    clear hal hw1 hc1 hrow1 hsrc1 hys c' c0 c1 c2 c4 f
    go_region_law (first | (refine step_append_nil (by rfl) _ (.tmp 36) (.tmp 45) (by rfl) w1.heap.size w1.heap.size 0 ys (by rfl) ((own_empty w1).chg (S := NoB) (Chg.drew (Chg.refl _ _)) (fun _ _ => id)) _ (by rfl) (Hsrc1.out.chg (S := NoB) (Chg.drew ((Chg.refl NoB w1).alloc _)) fun _ _ => id) (by rw [Hyl.out]; have := Hml.out; omega) Hbs.out ?_; intro g cp w2 hown1 hcg; obtain ⟨s0, s1, s2, s3, s4, s5, s6⟩ := row_cells (row_kept hcg (row_kept Hal.out Hrow1.out id) hbne)))
    all_goals go_wp2
    all_goals go_end0
    all_goals exact moff_end b R s _ m _ cap _ ad ys w w1 _ _ _ Hd.out Hm.out h1 Hok.out Hc1.out Hys.out Hrow1.out Hal.out hcg hown1 (by first | exact Chg.refl _ _ | exact (Chg.refl _ _).drew | exact (Chg.refl _ _).drew.drew | exact (Chg.refl _ _).drew.drew.drew)
set_option maxHeartbeats 1000000 in
theorem moff_down (b : Nat) (R : Nat → Prop) (s : RS) (k : Int) (w : World) (h : Mb w b R s) (hd : s.down = true) :
    Calls Try.prog 18 #[.pointer (some ⟨b, 0, none⟩), .int .i64 k] w (MDid b R (s.moff k) (.tuple #[]) w) := by
  have h0 := h
  obtain ⟨hok, h1, ad, cap, h2, h3, h4⟩ := h
  obtain ⟨_, _, c2, _, _, _, _⟩ := row_cells h2
  rw [hd] at c2
  simp at c2
  have e : s.moff k = s := by unfold RS.moff; rw [hd]; rfl
  have E := Lib.hid e
  have H := Lib.hid h0
  clear h2 h3 hd h4 e h0
  go_enter Try.func18, Try.ntmps18
  go_wp2
  go_end0
  rw [E.out]
  exact ⟨rfl, R, H.out, Went.refl _ _⟩
theorem moff_any (b : Nat) (R : Nat → Prop) (s : RS) (k : Int) (w : World) (h : Mb w b R s) :
    Calls Try.prog 18 #[.pointer (some ⟨b, 0, none⟩), .int .i64 k] w (MDid b R (s.moff k) (.tuple #[]) w) := by
  cases hd : s.down
  · exact moff_up b R s k w h hd
  · exact moff_down b R s k w h hd
end Go.Proofs.Ytpjnbcecbppeoaa
