/- A nil ribbon; the ribbon's methods in whatever state; the two ribbons side by side. Condition: what stands in RS.ok; fewer than 10^9 acts. -/
import Derived.Test.YtpjnbcecbppeoaaRefF
namespace Go.Proofs.Ytpjnbcecbppeoaa
set_option linter.unusedVariables false
open Go.ChangeShapes Go.WideShapes Go.ChangeAt Go.RowKit
def Nil1 (v : Value) (w : World) (e : Ending) (w' : World) : Prop := e = .returned v ∧ w' = w
theorem nil_off (k : Int) (w : World) : Calls Try.prog 17 #[.pointer none, .int .i64 k] w (Nil1 (.tuple #[]) w) := by
  go_enter Try.func17, Try.ntmps17
  go_wp2
  go_end0
  exact ⟨rfl, rfl⟩
theorem nil_on (w : World) : Calls Try.prog 19 #[.pointer none] w (Nil1 (.tuple #[]) w) := by
  go_enter Try.func19, Try.ntmps19
  go_wp2
  go_end0
  exact ⟨rfl, rfl⟩
theorem nil_arm (n k : Int) (w : World) : Calls Try.prog 20 #[.pointer none, .int .i64 n, .int .i64 k] w (Nil1 (.tuple #[]) w) := by
  go_enter Try.func20, Try.ntmps20
  go_wp2
  go_end0
  exact ⟨rfl, rfl⟩
theorem nil_ready (w : World) : Calls Try.prog 26 #[.pointer none] w (Nil1 (.int .i64 2) w) := by
  go_enter Try.func26, Try.ntmps26
  go_wp2
  go_ret
  exact ⟨rfl, rfl⟩
theorem nil_acts (w : World) : Calls Try.prog 23 #[.pointer none] w (Nil1 (.int .i64 0) w) := by
  go_enter Try.func23, Try.ntmps23
  go_wp2
  go_ret
  exact ⟨rfl, rfl⟩
theorem nil_down (w : World) : Calls Try.prog 24 #[.pointer none] w (Nil1 (.bool false) w) := by
  go_enter Try.func24, Try.ntmps24
  go_wp2
  go_ret
  exact ⟨rfl, rfl⟩
theorem nil_read (w : World) : Calls Try.prog 22 #[.pointer none] w (Nil1 (.tuple #[.slice none 0 0, .int .i64 2]) w) := by
  go_enter Try.func22, Try.ntmps22
  go_wp2_with fail
  refine (nil_ready w).mono ?_
  rintro e w' ⟨rfl, rfl⟩
  go_wp2_with fail
  go_ret2
  exact ⟨rfl, rfl⟩
theorem nil_write (v : Value) (w : World) : Calls Try.prog 11 #[.pointer none, v] w (Nil1 (.int .i64 2) w) := by
  go_enter Try.func11, Try.ntmps11
  go_wp2_with fail
  refine (nil_ready w).mono ?_
  rintro e w' ⟨rfl, rfl⟩
  go_wp2_with fail
  go_ret
  exact ⟨rfl, rfl⟩
theorem nil_flush (w : World) : Calls Try.prog 13 #[.pointer none] w (Nil1 (.int .i64 2) w) := by
  go_enter Try.func13, Try.ntmps13
  go_wp2_with fail
  refine (nil_ready w).mono ?_
  rintro e w' ⟨rfl, rfl⟩
  go_wp2_with fail
  go_ret
  exact ⟨rfl, rfl⟩
theorem nil_cut (n : Int) (w : World) : Calls Try.prog 15 #[.pointer none, .int .i64 n] w (Nil1 (.int .i64 2) w) := by
  go_enter Try.func15, Try.ntmps15
  go_wp2_with fail
  refine (nil_ready w).mono ?_
  rintro e w' ⟨rfl, rfl⟩
  go_wp2_with fail
  go_ret
  exact ⟨rfl, rfl⟩
set_option maxHeartbeats 1000000 in
theorem write_full (b : Nat) (R : Nat → Prop) (s : RS) (q : Option Addr) (n c : Nat) (w : World) (h : Rb w b R s) (hd : s.down = false) (hl : 1048576 < s.xs.length + n) (hn : n ≤ 4194304) :
    Calls Try.prog 11 #[.pointer (some ⟨b, 0, none⟩), .slice q n c] w (Did b R s 71 w) := by
  have H := Lib.hid h
  have Hr := Lib.hid (ready_up b R s w h hd)
  obtain ⟨hok, h1, ad, cap, h2, h3, h4⟩ := h
  obtain ⟨c0, _, c2, _, _, _, _⟩ := row_cells h2
  have hok2 := hok.2.1
  have hbig : (1048576 : Int) < (s.xs.length : Int) + (n : Int) := by omega
  clear h2 h3 h4 hd
  go_enter Try.func11, Try.ntmps11
  go_wp2_with fail
  refine Hr.out.mono ?_
  rintro e w' ⟨rfl, rfl⟩
  go_wp2_with fail
  go_ret
  exact ⟨rfl, R, H.out, Went.refl _ _⟩
set_option maxHeartbeats 1000000 in
theorem write_down (b : Nat) (R : Nat → Prop) (s : RS) (v : Value) (w : World) (h : Rb w b R s) (hd : s.down = true) :
    Calls Try.prog 11 #[.pointer (some ⟨b, 0, none⟩), v] w (Did b R s 70 w) := by
  have H := Lib.hid h
  have Hr := Lib.hid (ready_off b R s w h hd)
  clear h hd
  go_enter Try.func11, Try.ntmps11
  go_wp2_with fail
  refine Hr.out.mono ?_
  rintro e w' ⟨rfl, rfl⟩
  go_wp2_with fail
  go_ret
  exact ⟨rfl, R, H.out, Went.refl _ _⟩
/- the two states: the document's keeps what it was armed with -/
def Sim (s m : RS) : Prop := s.xs = m.xs ∧ s.safe = m.safe ∧ s.down = m.down ∧ s.acts = m.acts ∧ s.armed = m.armed ∧ (m.armed ≠ 0 → s.keep = m.keep)
theorem Sim.off {s m : RS} (h : Sim s m) (k : Int) : Sim (s.off k) (m.moff k) := by
  obtain ⟨h1, h2, h3, h4, h5, h6⟩ := h
  unfold RS.off RS.moff
  rw [h3]
  cases hd : m.down
  · simp only [Bool.false_eq_true, if_false]
    exact ⟨by simp [h1, h2], by simp [h1, h2], rfl, h4, rfl, fun x => absurd rfl x⟩
  · simp only [if_true]
    exact ⟨h1, h2, h3, h4, h5, h6⟩
theorem Sim.act {s m : RS} (h : Sim s m) : Sim s.actTo m.mact := by
  have h0 := h
  obtain ⟨h1, h2, h3, h4, h5, h6⟩ := h
  unfold RS.actTo RS.mact
  rw [h5]
  by_cases ha : m.armed = 0
  · rw [if_pos ha, if_pos ha]
    exact ⟨h1, h2, h3, by simp [h4], by simp [ha], fun x => absurd ha x⟩
  · rw [if_neg ha, if_neg ha]
    by_cases hb : m.armed = 1
    · rw [if_pos hb, if_pos hb, h6 ha]
      exact Sim.off (s := { s with acts := s.acts + 1, armed := 0, keep := m.keep }) (m := { m with acts := m.acts + 1, armed := 0 }) ⟨h1, h2, h3, by simp [h4], rfl, fun x => absurd rfl x⟩ m.keep
    · rw [if_neg hb, if_neg hb]
      exact ⟨h1, h2, h3, by simp [h4], rfl, fun _ => h6 ha⟩
theorem act_down (s : RS) (h : s.down = false) : s.actTo.down = s.cut1 := by
  unfold RS.actTo RS.cut1
  by_cases ha : s.armed = 0
  · rw [if_pos ha, ha]; simpa using h
  · rw [if_neg ha]
    by_cases hb : s.armed = 1
    · rw [if_pos hb, hb]; unfold RS.off; simp [h]
    · rw [if_neg hb]; simp [h, hb]
theorem Sim.cut1 {s m : RS} (h : Sim s m) : s.cut1 = m.cut1 := by unfold RS.cut1; rw [h.2.2.2.2.1]
theorem act_xs (s : RS) (h : s.cut1 = false) : s.actTo.xs = s.xs := by
  have h' : s.armed ≠ 1 := by unfold RS.cut1 at h; simpa using h
  unfold RS.actTo
  by_cases ha : s.armed = 0
  · rw [if_pos ha]
  · rw [if_neg ha, if_neg h']
/- how many acts there were: at most one more -/
theorem off_acts (s : RS) (k : Int) : (s.off k).acts = s.acts := by unfold RS.off; split <;> rfl
theorem moff_acts (s : RS) (k : Int) : (s.moff k).acts = s.acts := by unfold RS.moff; split <;> rfl
theorem mact_acts (s : RS) : s.mact.acts = s.acts + 1 := by
  unfold RS.mact
  split
  · rfl
  · split
    · rw [moff_acts]
    · rfl
/- both ribbons, side by side: nothing of W changed, their blocks apart -/
structure Pair (W w : World) (b m : Nat) (R M : Nat → Prop) (s t : RS) : Prop where
  chg : Chg NoB W w
  r : Rb w b R s
  m : Mb w m M t
  rW : ∀ k, R k → W.heap.size ≤ k ∧ k < w.heap.size
  mW : ∀ k, M k → W.heap.size ≤ k ∧ k < w.heap.size
  apart : ∀ k, R k → ¬ M k
theorem Pair.keep {W w w' : World} {b m : Nat} {R M : Nat → Prop} {s t : RS} (h : Pair W w b m R M s t) (hc : Chg NoB w w') : Pair W w' b m R M s t :=
  ⟨h.chg.trans hc, h.r.keep hc, h.m.chg hc fun _ _ => id, fun k hk => ⟨(h.rW k hk).1, Nat.lt_of_lt_of_le (h.rW k hk).2 hc.size⟩, fun k hk => ⟨(h.mW k hk).1, Nat.lt_of_lt_of_le (h.mW k hk).2 hc.size⟩, h.apart⟩
theorem Pair.r_went {W w w' : World} {b m : Nat} {R R' M : Nat → Prop} {s s' t : RS} (h : Pair W w b m R M s t) (hr : Rb w' b R' s') (hw : Went R R' w w') : Pair W w' b m R' M s' t := by
  refine ⟨Chg.above h.chg hw.chg fun k hk => (h.rW k hk).1, hr, h.m.chg hw.chg fun k hk hk' => h.apart k hk' hk, fun k hk => ?_, fun k hk => ?_, fun k hk hk' => ?_⟩
  · rcases hw.ext k hk with x | x
    · exact ⟨(h.rW k x).1, Nat.lt_of_lt_of_le (h.rW k x).2 hw.chg.size⟩
    · exact ⟨Nat.le_trans h.chg.size x.1, x.2⟩
  · exact ⟨(h.mW k hk).1, Nat.lt_of_lt_of_le (h.mW k hk).2 hw.chg.size⟩
  · rcases hw.ext k hk with x | x
    · exact h.apart k x hk'
    · have := (h.mW k hk').2; omega
theorem Pair.m_went {W w w' : World} {b m : Nat} {R M M' : Nat → Prop} {s t t' : RS} (h : Pair W w b m R M s t) (hm : Mb w' m M' t') (hw : Went M M' w w') : Pair W w' b m R M' s t' := by
  refine ⟨Chg.above h.chg hw.chg fun k hk => (h.mW k hk).1, h.r.chg hw.chg fun k hk hk' => h.apart k hk hk', hm, fun k hk => ?_, fun k hk => ?_, fun k hk hk' => ?_⟩
  · exact ⟨(h.rW k hk).1, Nat.lt_of_lt_of_le (h.rW k hk).2 hw.chg.size⟩
  · rcases hw.ext k hk with x | x
    · exact ⟨(h.mW k x).1, Nat.lt_of_lt_of_le (h.mW k x).2 hw.chg.size⟩
    · exact ⟨Nat.le_trans h.chg.size x.1, x.2⟩
  · rcases hw.ext k hk' with x | x
    · exact h.apart k hk x
    · have := (h.rW k hk).2; omega
/- outside both ribbons nothing moves -/
theorem Pair.r_cell {W w w' : World} {b m : Nat} {R R' M : Nat → Prop} {s t : RS} (h : Pair W w b m R M s t) (hw : Went R R' w w') {p : Addr} {u : Value} (hp : w.cell? p = some u) (hn : ¬ R p.block) : w'.cell? p = some u := hw.chg.cell hp hn
end Go.Proofs.Ytpjnbcecbppeoaa
