/- The document's ribbon: act, Arm, Write, Flush, Cut, New. Condition: what stands in RS.ok; fewer than 10^9 acts. -/
import Derived.Test.YtpjnbcecbppeoaaRefB
namespace Go.Proofs.Ytpjnbcecbppeoaa
set_option linter.unusedVariables false
open Go.ChangeShapes Go.WideShapes Go.ChangeAt Go.RowKit
def RS.mact (s : RS) : RS :=
  if s.armed = 0 then { s with acts := s.acts + 1 } else
    if s.armed = 1 then RS.moff { s with acts := s.acts + 1, armed := 0 } s.keep else { s with acts := s.acts + 1, armed := s.armed - 1 }
def RS.cut1 (s : RS) : Bool := s.armed == 1
set_option maxHeartbeats 1000000 in
theorem mact_0 (b : Nat) (R : Nat → Prop) (s : RS) (w : World) (h : Mb w b R s) (hd : s.down = false) (hb : s.acts < 1000000000) (ha : s.armed = 0) :
    Calls Try.prog 28 #[.pointer (some ⟨b, 0, none⟩)] w (MDid b R s.mact (.bool false) w) := by
  obtain ⟨hok, h1, ad, cap, h2, h3, h4⟩ := h
  obtain ⟨_, _, _, c3, c4, _, f⟩ := row_cells h2
  rw [ha] at c4
  simp at c3 c4
  have e : s.mact = { s with acts := s.acts + 1 } := by unfold RS.mact; rw [if_pos ha]
  have E := Lib.hid e
  have H2 := Lib.hid h2
  have Hd := Lib.hid hd
  clear h2 ha e hd
  go_enter Try.func28, Try.ntmps28
  go_wp2
  go_ret
  have hc : Chg (fun k => k = b) w (w.setCell ⟨b, 3, none⟩ (.int .i64 (s.acts + 1))) := setB _ (Chg.refl _ w)
  have hh := set_3 H2.out (.int .i64 (s.acts + 1))
  generalize w.setCell ⟨b, 3, none⟩ (.int .i64 (s.acts + 1)) = w1 at hc hh
  rw [E.out]
  rw [cast_succ] at hh
  exact ⟨rfl, R, mb_mk _ _ _ _ _ _ _ _ _ _ _ _ _ rfl rfl hh (h3.chg hc fun k hk => (h4 k hk).2) h4 h1 ⟨hok.1, hok.2.1, hb, hok.2.2.2⟩, Went.same (hc.mono fun k _ hk => by rw [hk]; exact h1)⟩
set_option maxHeartbeats 1000000 in
theorem mact_2 (b : Nat) (R : Nat → Prop) (s : RS) (w : World) (h : Mb w b R s) (hd : s.down = false) (hb : s.acts < 1000000000) (ha : 2 ≤ s.armed) :
    Calls Try.prog 28 #[.pointer (some ⟨b, 0, none⟩)] w (MDid b R s.mact (.bool false) w) := by
  obtain ⟨hok, h1, ad, cap, h2, h3, h4⟩ := h
  have ho4 := hok.2.2.2
  obtain ⟨_, _, _, c3, c4, _, f⟩ := row_cells h2
  have e : s.mact = { s with acts := s.acts + 1, armed := s.armed - 1 } := by unfold RS.mact; rw [if_neg (by omega), if_neg (by omega)]
  have E := Lib.hid e
  have H2 := Lib.hid h2
  have Hd := Lib.hid hd
  have hz : ((s.armed : Int) == 0) = false := by simp; omega
  clear h2 e hd
  go_enter Try.func28, Try.ntmps28
  go_wp2
  go_ret
  have hc : Chg (fun k => k = b) w ((w.setCell ⟨b, 3, none⟩ (.int .i64 (s.acts + 1))).setCell ⟨b, 4, none⟩ (.int .i64 (s.armed - 1))) := setB _ (setB _ (Chg.refl _ w))
  have hh := set_4 (set_3 H2.out (.int .i64 (s.acts + 1))) (.int .i64 (s.armed - 1))
  generalize (w.setCell ⟨b, 3, none⟩ (.int .i64 (s.acts + 1))).setCell ⟨b, 4, none⟩ (.int .i64 (s.armed - 1)) = w1 at hc hh
  rw [E.out]
  rw [cast_succ, cast_pred _ (by omega)] at hh
  exact ⟨rfl, R, mb_mk _ _ _ _ _ _ _ _ _ _ _ _ _ rfl rfl hh (h3.chg hc fun k hk => (h4 k hk).2) h4 h1 ⟨hok.1, hok.2.1, hb, by show s.armed - 1 ≤ _; omega⟩, Went.same (hc.mono fun k _ hk => by rw [hk]; exact h1)⟩
set_option maxHeartbeats 1000000 in
theorem mact_1 (b : Nat) (R : Nat → Prop) (s : RS) (w : World) (h : Mb w b R s) (hd : s.down = false) (hb : s.acts < 1000000000) (ha : s.armed = 1) :
    Calls Try.prog 28 #[.pointer (some ⟨b, 0, none⟩)] w (MDid b R s.mact (.bool true) w) := by
  obtain ⟨hok, h1, ad, cap, h2, h3, h4⟩ := h
  obtain ⟨_, _, _, c3, c4, c5, f⟩ := row_cells h2
  rw [ha] at c4
  simp at c3 c4 c5
  have e : s.mact = RS.moff { s with acts := s.acts + 1, armed := 0 } s.keep := by unfold RS.mact; rw [if_neg (by omega), if_pos ha]
  have hc : Chg (fun k => k = b) w ((w.setCell ⟨b, 3, none⟩ (.int .i64 (s.acts + 1))).setCell ⟨b, 4, none⟩ (.int .i64 0)) := setB _ (setB _ (Chg.refl _ w))
  have hh := set_4 (set_3 h2 (.int .i64 (s.acts + 1))) (.int .i64 0)
  rw [cast_succ] at hh
  have hrb : Mb ((w.setCell ⟨b, 3, none⟩ (.int .i64 (s.acts + 1))).setCell ⟨b, 4, none⟩ (.int .i64 0)) b R { s with acts := s.acts + 1, armed := 0 } :=
    mb_mk _ _ _ _ _ _ _ _ _ _ _ _ _ rfl rfl (by rw [cast_succ]; exact hh) (h3.chg hc fun k hk => (h4 k hk).2) h4 h1 ⟨hok.1, hok.2.1, hb, by show 0 ≤ _; omega⟩
  have E := Lib.hid e
  have Hrb := Lib.hid hrb
  have Hc := Lib.hid hc
  clear h2 ha e hd hc hh hrb h3 h4
  go_enter Try.func28, Try.ntmps28
  go_wp2_with fail
  refine (moff_any b R _ _ _ Hrb.out).mono ?_
  rintro e w1 ⟨rfl, R1, hr, hw⟩
  go_wp2_with fail
  go_ret
  rw [E.out]
  exact ⟨rfl, R1, hr, (Went.same (Hc.out.mono fun k _ hk => by rw [hk]; exact h1)).trans hw⟩
theorem mact_any (b : Nat) (R : Nat → Prop) (s : RS) (w : World) (h : Mb w b R s) (hd : s.down = false) (hb : s.acts < 1000000000) :
    Calls Try.prog 28 #[.pointer (some ⟨b, 0, none⟩)] w (MDid b R s.mact (.bool s.cut1) w) := by
  rcases (show s.armed = 0 ∨ s.armed = 1 ∨ 2 ≤ s.armed by omega) with ha | ha | ha
  · have : s.cut1 = false := by unfold RS.cut1; rw [ha]; rfl
    rw [this]; exact mact_0 b R s w h hd hb ha
  · have : s.cut1 = true := by unfold RS.cut1; rw [ha]; rfl
    rw [this]; exact mact_1 b R s w h hd hb ha
  · have : s.cut1 = false := by unfold RS.cut1; simp; omega
    rw [this]; exact mact_2 b R s w h hd hb ha
def RS.arm (s : RS) (n k : Int) : RS := { s with armed := n.toNat, keep := k }
set_option maxHeartbeats 1000000 in
theorem marm_any (b : Nat) (R : Nat → Prop) (s : RS) (n k : Int) (w : World) (h : Mb w b R s) (hn : n ≤ 9223372036854775807) :
    Calls Try.prog 21 #[.pointer (some ⟨b, 0, none⟩), .int .i64 n, .int .i64 k] w (MDid b R (s.arm n k) (.tuple #[]) w) := by
  obtain ⟨hok, h1, ad, cap, h2, h3, h4⟩ := h
  obtain ⟨_, _, _, _, c4, c5, f⟩ := row_cells h2
  have H2 := Lib.hid h2
  clear h2
  by_cases hn0 : n < 0
  · go_enter Try.func21, Try.ntmps21
    go_wp2
    go_end0
    have hc : Chg (fun k => k = b) w (((w.setCell ⟨b, 4, none⟩ (.int .i64 n)).setCell ⟨b, 4, none⟩ (.int .i64 0)).setCell ⟨b, 5, none⟩ (.int .i64 k)) := setB _ (setB _ (setB _ (Chg.refl _ w)))
    have hh := set_5 (set_4 (set_4 H2.out (.int .i64 n)) (.int .i64 0)) (.int .i64 k)
    have e : s.arm n k = { s with armed := 0, keep := k } := by unfold RS.arm; rw [show n.toNat = 0 by omega]
    rw [e]
    exact ⟨rfl, R, mb_mk _ _ _ _ _ _ _ _ _ _ _ _ _ rfl rfl hh (h3.chg hc fun k hk => (h4 k hk).2) h4 h1 ⟨hok.1, hok.2.1, hok.2.2.1, by show 0 ≤ _; omega⟩, Went.same (hc.mono fun k _ hk => by rw [hk]; exact h1)⟩
  · obtain ⟨m, rfl⟩ := Int.eq_ofNat_of_zero_le (show 0 ≤ n by omega)
    go_enter Try.func21, Try.ntmps21
    go_wp2
    go_end0
    have hc : Chg (fun k => k = b) w ((w.setCell ⟨b, 4, none⟩ (.int .i64 m)).setCell ⟨b, 5, none⟩ (.int .i64 k)) := setB _ (setB _ (Chg.refl _ w))
    have hh := set_5 (set_4 H2.out (.int .i64 m)) (.int .i64 k)
    have e : s.arm m k = { s with armed := m, keep := k } := by unfold RS.arm; rw [show (m : Int).toNat = m by omega]
    rw [e]
    exact ⟨rfl, R, mb_mk _ _ _ _ _ _ _ _ _ _ _ _ _ rfl rfl hh (h3.chg hc fun k hk => (h4 k hk).2) h4 h1 ⟨hok.1, hok.2.1, hok.2.2.1, by show m ≤ _; omega⟩, Went.same (hc.mono fun k _ hk => by rw [hk]; exact h1)⟩
end Go.Proofs.Ytpjnbcecbppeoaa
