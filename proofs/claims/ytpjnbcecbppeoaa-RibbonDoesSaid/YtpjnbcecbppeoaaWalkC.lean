/- The contracts of ready, act, On, Acts, Down and Read. Condition: what stands in RS.ok. -/
import Derived.Test.YtpjnbcecbppeoaaWalkB
namespace Go.Proofs.Ytpjnbcecbppeoaa
set_option linter.unusedVariables false
open Go.ChangeShapes Go.WideShapes Go.ChangeAt Go.RowKit
set_option maxHeartbeats 1000000 in
theorem off_down (b : Nat) (R : Nat → Prop) (s : RS) (k : Int) (w : World) (h : Rb w b R s) (hd : s.down = true) :
    Calls Try.prog 17 #[.pointer (some ⟨b, 0, none⟩), .int .i64 k] w (Off1 b R (s.off k) w) := by
  have h0 := h
  obtain ⟨hok, h1, ad, cap, h2, h3, h4⟩ := h
  have c2 := cell_of_row w b 2 _ 49 (0, 0) h2
  simp [hd] at c2
  have e : s.off k = s := by unfold RS.off; rw [hd]; rfl
  have E := Lib.hid e
  have H := Lib.hid h0
  clear h2 h3 hd h4 e h0
  go_enter Try.func17, Try.ntmps17
  go_wp2
  go_end0
  rw [E.out]
  exact ⟨rfl, H.out, Chg.refl _ _⟩
theorem off_any (b : Nat) (R : Nat → Prop) (s : RS) (k : Int) (w : World) (h : Rb w b R s) :
    Calls Try.prog 17 #[.pointer (some ⟨b, 0, none⟩), .int .i64 k] w (Off1 b R (s.off k) w) := by
  cases hd : s.down
  · exact off_up b R s k w h hd
  · exact off_down b R s k w h hd
set_option maxHeartbeats 1000000 in
theorem on_any (b : Nat) (R : Nat → Prop) (s : RS) (w : World) (h : Rb w b R s) :
    Calls Try.prog 19 #[.pointer (some ⟨b, 0, none⟩)] w (Off1 b R { s with down := false } w) := by
  obtain ⟨hok, h1, ad, cap, h2, h3, h4⟩ := h
  have c2 := cell_of_row w b 2 _ 49 (0, 0) h2
  simp at c2
  have f := fz h2
  have H2 := Lib.hid h2
  clear h2
  go_enter Try.func19, Try.ntmps19
  go_wp2
  go_end0
  have hc : Chg (fun k => k = b) w (w.setCell ⟨b, 2, none⟩ (.bool false)) := setB _ (Chg.refl _ w)
  have hh := set_2 H2.out (.bool false)
  generalize w.setCell ⟨b, 2, none⟩ (.bool false) = w1 at hc hh
  refine ⟨rfl, ?_, hc.mono fun k _ hk => by rw [hk]; exact h1⟩
  exact ⟨hok, h1, ad, cap, hh, h3.chg hc fun k hk => (h4 k hk).2, h4⟩
theorem ret_i64 {a b : Int} (h : a = b) : Ending.returned (.int .i64 a) = .returned (.int .i64 b) := by rw [h]
def RS.code (s : RS) : Int := if s.down then 70 else 0
set_option maxHeartbeats 1000000 in
theorem ready_any (b : Nat) (R : Nat → Prop) (s : RS) (w : World) (h : Rb w b R s) :
    Calls Try.prog 26 #[.pointer (some ⟨b, 0, none⟩)] w fun e w' => e = .returned (.int .i64 s.code) ∧ w = w' := by
  obtain ⟨hok, h1, ad, cap, h2, h3, h4⟩ := h
  have c2 := cell_of_row w b 2 _ 49 (0, 0) h2
  simp at c2
  clear h2 h3 h4
  cases hd : s.down
  · rw [hd] at c2
    have e : s.code = 0 := by unfold RS.code; rw [hd]; rfl
    rw [e]
    clear hd e
    go_enter Try.func26, Try.ntmps26
    go_wp2
    go_ret
    exact ⟨rfl, rfl⟩
  · rw [hd] at c2
    have e : s.code = 70 := by unfold RS.code; rw [hd]; rfl
    rw [e]
    clear hd e
    go_enter Try.func26, Try.ntmps26
    go_wp2
    go_ret
    exact ⟨rfl, rfl⟩
set_option maxHeartbeats 1000000 in
theorem acts_any (b : Nat) (R : Nat → Prop) (s : RS) (w : World) (h : Rb w b R s) :
    Calls Try.prog 23 #[.pointer (some ⟨b, 0, none⟩)] w fun e w' => e = .returned (.int .i64 s.acts) ∧ w = w' := by
  obtain ⟨hok, h1, ad, cap, h2, h3, h4⟩ := h
  have c3 := cell_of_row w b 3 _ 49 (0, 0) h2
  simp at c3
  clear h2 h3 h4
  go_enter Try.func23, Try.ntmps23
  go_wp2
  go_ret
  exact ⟨rfl, rfl⟩
set_option maxHeartbeats 1000000 in
theorem down_any (b : Nat) (R : Nat → Prop) (s : RS) (w : World) (h : Rb w b R s) :
    Calls Try.prog 24 #[.pointer (some ⟨b, 0, none⟩)] w fun e w' => e = .returned (.bool s.down) ∧ w = w' := by
  obtain ⟨hok, h1, ad, cap, h2, h3, h4⟩ := h
  have c2 := cell_of_row w b 2 _ 49 (0, 0) h2
  simp at c2
  clear h2 h3 h4
  go_enter Try.func24, Try.ntmps24
  go_wp2
  go_ret
  exact ⟨rfl, rfl⟩
def Read1 (w : World) (s : RS) (e : Ending) (w' : World) : Prop := ∃ v, e = .returned (.tuple #[v, .int .i64 s.code]) ∧ Own w' w.heap.size v (if s.down then [] else s.xs) ∧ Chg NoB w w'
set_option maxHeartbeats 1000000 in
theorem read_up (b : Nat) (R : Nat → Prop) (s : RS) (w : World) (h : Rb w b R s) (hd : s.down = false) :
    Calls Try.prog 22 #[.pointer (some ⟨b, 0, none⟩)] w (Read1 w s) := by
  have H := Lib.hid h
  obtain ⟨hok, h1, ad, cap, h2, h3, h4⟩ := h
  have c0 := cell_of_row w b 0 _ 49 (0, 0) h2
  simp at c0
  have e : s.code = 0 := by unfold RS.code; rw [hd]; rfl
  have E := Lib.hid e
  have H3 := Lib.hid h3.src
  have Hok := Lib.hid hok
  have Hd := Lib.hid hd
  clear h2 h3 h4 e hok hd
  go_enter Try.func22, Try.ntmps22
  go_wp2_with fail
  refine (ready_any b R s w H.out).mono ?_
  rintro e w' ⟨rfl, rfl⟩
  rw [E.out]
  go_wp2_with fail
  refine (clone_any _ _ _ H3.out Hok.out.2.1).mono ?_
  rintro e w' ⟨v, rfl, ho, hc⟩
  go_wp2_with fail
  go_ret2
  exact ⟨v, by rw [E.out]; rfl, by rw [Hd.out]; exact ho, hc⟩
set_option maxHeartbeats 1000000 in
theorem read_down (b : Nat) (R : Nat → Prop) (s : RS) (w : World) (h : Rb w b R s) (hd : s.down = true) :
    Calls Try.prog 22 #[.pointer (some ⟨b, 0, none⟩)] w (Read1 w s) := by
  have H := Lib.hid h
  have e : s.code = 70 := by unfold RS.code; rw [hd]; rfl
  have E := Lib.hid e
  have Hd := Lib.hid hd
  clear h e hd
  go_enter Try.func22, Try.ntmps22
  go_wp2_with fail
  refine (ready_any b R s w H.out).mono ?_
  rintro e w' ⟨rfl, rfl⟩
  rw [E.out]
  go_wp2_with fail
  go_ret2
  exact ⟨.slice none 0 0, by rw [E.out]; rfl, by rw [Hd.out]; exact World.ownsRow_nil _ _ _ _, Chg.refl _ _⟩
theorem read_any (b : Nat) (R : Nat → Prop) (s : RS) (w : World) (h : Rb w b R s) :
    Calls Try.prog 22 #[.pointer (some ⟨b, 0, none⟩)] w (Read1 w s) := by
  cases hd : s.down
  · exact read_up b R s w h hd
  · exact read_down b R s w h hd
def Act1 (b : Nat) (R : Nat → Prop) (s : RS) (w : World) (e : Ending) (w' : World) : Prop := e = .returned (.int .i64 s.code) ∧ Rb w' b R s ∧ Chg R w w'
theorem cast_succ (n : Nat) : ((n : Int) + 1) = ((n + 1 : Nat) : Int) := by omega
theorem cast_pred (n : Nat) (h : 1 ≤ n) : ((n : Int) - 1) = ((n - 1 : Nat) : Int) := by omega
set_option maxHeartbeats 1000000 in
theorem act_0 (b : Nat) (R : Nat → Prop) (s : RS) (w : World) (h : Rb w b R s) (hd : s.down = false) (hb : s.acts < 1000000000) (ha : s.armed = 0) :
    Calls Try.prog 27 #[.pointer (some ⟨b, 0, none⟩)] w (Act1 b R s.actTo w) := by
  obtain ⟨hok, h1, ad, cap, h2, h3, h4⟩ := h
  have c3 := cell_of_row w b 3 _ 49 (0, 0) h2
  have c4 := cell_of_row w b 4 _ 49 (0, 0) h2
  simp [ha] at c3 c4
  have f := fz h2
  have e : s.actTo = { s with acts := s.acts + 1 } := by unfold RS.actTo; rw [if_pos ha]
  have E := Lib.hid e
  have H2 := Lib.hid h2
  have Hd := Lib.hid hd
  clear h2 ha e hd
  go_enter Try.func27, Try.ntmps27
  go_wp2
  go_ret
  have hc : Chg (fun k => k = b) w (w.setCell ⟨b, 3, none⟩ (.int .i64 (s.acts + 1))) := setB _ (Chg.refl _ w)
  have hh := set_3 H2.out (.int .i64 (s.acts + 1))
  generalize w.setCell ⟨b, 3, none⟩ (.int .i64 (s.acts + 1)) = w1 at hc hh
  rw [E.out]
  rw [cast_succ] at hh
  refine ⟨ret_i64 ?_, rb_mk _ _ _ _ _ _ _ _ _ _ _ _ rfl hh (h3.chg hc fun k hk => (h4 k hk).2) h4 h1 ⟨hok.1, hok.2.1, hb, hok.2.2.2⟩, hc.mono fun k _ hk => by rw [hk]; exact h1⟩
  unfold RS.code
  simp only [Hd.out]
  rfl
set_option maxHeartbeats 1000000 in
theorem act_2 (b : Nat) (R : Nat → Prop) (s : RS) (w : World) (h : Rb w b R s) (hd : s.down = false) (hb : s.acts < 1000000000) (ha : 2 ≤ s.armed) :
    Calls Try.prog 27 #[.pointer (some ⟨b, 0, none⟩)] w (Act1 b R s.actTo w) := by
  obtain ⟨hok, h1, ad, cap, h2, h3, h4⟩ := h
  have ho4 := hok.2.2.2
  have c3 := cell_of_row w b 3 _ 49 (0, 0) h2
  have c4 := cell_of_row w b 4 _ 49 (0, 0) h2
  simp at c3 c4
  have f := fz h2
  have e : s.actTo = { s with acts := s.acts + 1, armed := s.armed - 1 } := by unfold RS.actTo; rw [if_neg (by omega), if_neg (by omega)]
  have E := Lib.hid e
  have H2 := Lib.hid h2
  have Hd := Lib.hid hd
  have hz : ((s.armed : Int) == 0) = false := by simp; omega
  clear h2 e hd
  go_enter Try.func27, Try.ntmps27
  go_wp2
  go_ret
  have hc : Chg (fun k => k = b) w ((w.setCell ⟨b, 3, none⟩ (.int .i64 (s.acts + 1))).setCell ⟨b, 4, none⟩ (.int .i64 (s.armed - 1))) := setB _ (setB _ (Chg.refl _ w))
  have hh := set_4 (set_3 H2.out (.int .i64 (s.acts + 1))) (.int .i64 (s.armed - 1))
  generalize (w.setCell ⟨b, 3, none⟩ (.int .i64 (s.acts + 1))).setCell ⟨b, 4, none⟩ (.int .i64 (s.armed - 1)) = w1 at hc hh
  rw [E.out]
  rw [cast_succ, cast_pred _ (by omega)] at hh
  refine ⟨ret_i64 ?_, rb_mk _ _ _ _ _ _ _ _ _ _ _ _ rfl hh (h3.chg hc fun k hk => (h4 k hk).2) h4 h1 ⟨hok.1, hok.2.1, hb, by show s.armed - 1 ≤ _; omega⟩, hc.mono fun k _ hk => by rw [hk]; exact h1⟩
  unfold RS.code
  simp only [Hd.out]
  rfl
theorem off_code (s : RS) (k : Int) : (s.off k).code = 70 := by
  unfold RS.code RS.off
  cases h : s.down <;> simp [h]
set_option maxHeartbeats 1000000 in
theorem act_1 (b : Nat) (R : Nat → Prop) (s : RS) (w : World) (h : Rb w b R s) (hd : s.down = false) (hb : s.acts < 1000000000) (ha : s.armed = 1) :
    Calls Try.prog 27 #[.pointer (some ⟨b, 0, none⟩)] w (Act1 b R s.actTo w) := by
  obtain ⟨hok, h1, ad, cap, h2, h3, h4⟩ := h
  have c3 := cell_of_row w b 3 _ 49 (0, 0) h2
  have c4 := cell_of_row w b 4 _ 49 (0, 0) h2
  have c5 := cell_of_row w b 5 _ 49 (0, 0) h2
  simp [ha] at c3 c4 c5
  have f := fz h2
  have e : s.actTo = RS.off { s with acts := s.acts + 1, armed := 0 } s.keep := by unfold RS.actTo; rw [if_neg (by omega), if_pos ha]
  have hc : Chg (fun k => k = b) w ((w.setCell ⟨b, 3, none⟩ (.int .i64 (s.acts + 1))).setCell ⟨b, 4, none⟩ (.int .i64 0)) := setB _ (setB _ (Chg.refl _ w))
  have hh := set_4 (set_3 h2 (.int .i64 (s.acts + 1))) (.int .i64 0)
  rw [cast_succ] at hh
  have hrb : Rb ((w.setCell ⟨b, 3, none⟩ (.int .i64 (s.acts + 1))).setCell ⟨b, 4, none⟩ (.int .i64 0)) b R { s with acts := s.acts + 1, armed := 0 } :=
    rb_mk _ _ _ _ _ _ _ _ _ _ _ _ rfl (by rw [cast_succ]; exact hh) (h3.chg hc fun k hk => (h4 k hk).2) h4 h1 ⟨hok.1, hok.2.1, hb, by show 0 ≤ _; omega⟩
  have E := Lib.hid e
  have Hrb := Lib.hid hrb
  have Hc := Lib.hid hc
  clear h2 ha e hd hc hh hrb h3 h4
  go_enter Try.func27, Try.ntmps27
  go_wp2_with fail
  refine (off_any b R _ _ _ Hrb.out).mono ?_
  rintro e w1 ⟨rfl, hr, hc⟩
  go_wp2_with fail
  go_ret
  rw [E.out]
  exact ⟨ret_i64 (off_code _ _).symm, hr, (Hc.out.mono fun k _ hk => by rw [hk]; exact h1).trans hc⟩
theorem act_any (b : Nat) (R : Nat → Prop) (s : RS) (w : World) (h : Rb w b R s) (hd : s.down = false) (hb : s.acts < 1000000000) :
    Calls Try.prog 27 #[.pointer (some ⟨b, 0, none⟩)] w (Act1 b R s.actTo w) := by
  rcases (show s.armed = 0 ∨ s.armed = 1 ∨ 2 ≤ s.armed by omega) with ha | ha | ha
  · exact act_0 b R s w h hd hb ha
  · exact act_1 b R s w h hd hb ha
  · exact act_2 b R s w h hd hb ha
end Go.Proofs.Ytpjnbcecbppeoaa
