/- Each call on both ribbons, in whatever state. Condition: what stands in RS.ok; fewer than 10^9 acts. -/
import Derived.Test.YtpjnbcecbppeoaaDoesA
namespace Go.Proofs.Ytpjnbcecbppeoaa
set_option linter.unusedVariables false
open Go.ChangeShapes Go.WideShapes Go.ChangeAt Go.RowKit
def RS.iwr (s : RS) (ys : List UInt8) : RS := if s.down then s else if 1048576 < s.xs.length + ys.length then s else RS.actTo { s with xs := s.xs ++ ys }
def RS.mwr (s : RS) (ys : List UInt8) : RS := if s.down then s else if 1048576 < s.xs.length + ys.length then s else RS.mact { s with xs := s.xs ++ ys }
def RS.wrC (s : RS) (ys : List UInt8) : Int := if s.down then 70 else if 1048576 < s.xs.length + ys.length then 71 else if s.cut1 then 70 else 0
def RS.ifl (s : RS) : RS := if s.down then s else if s.cut1 then s.actTo else { s.actTo with safe := s.actTo.xs.length }
def RS.icut (s : RS) (n : Int) : RS := if s.down then s else if n < 0 ∨ (s.xs.length : Int) < n then s else if s.cut1 then s.actTo else { s.actTo with xs := s.xs.take n.toNat, safe := n.toNat }
theorem act_code (s : RS) (h : s.down = false) : s.actTo.code = if s.cut1 then 70 else 0 := by
  unfold RS.code; rw [act_down s h]
theorem Src.slice {w : World} {v : Value} {xs : List UInt8} (h : Src w v xs) : ∃ q c, v = .slice q xs.length c := by
  rcases h with ⟨rfl, rfl⟩ | ⟨a, c, rfl, _⟩
  · exact ⟨none, 0, rfl⟩
  · exact ⟨_, _, rfl⟩
theorem write_all (b : Nat) (R : Nat → Prop) (s : RS) (v : Value) (ys : List UInt8) (w : World) (h : Rb w b R s) (hv : Src w v ys) (hb : s.acts < 1000000000) (hl : ys.length ≤ 4194304) :
    Calls Try.prog 11 #[.pointer (some ⟨b, 0, none⟩), v] w (Did b R (s.iwr ys) (s.wrC ys) w) := by
  unfold RS.iwr RS.wrC
  cases hd : s.down
  · simp only [Bool.false_eq_true, if_false]
    by_cases hf : 1048576 < s.xs.length + ys.length
    · rw [if_pos hf, if_pos hf]
      obtain ⟨q, c, rfl⟩ := hv.slice
      exact write_full b R s q ys.length c w h hd hf hl
    · rw [if_neg hf, if_neg hf]
      have := write_any b R s v ys w h hv hd hb (by omega)
      have e : (RS.actTo { s with xs := s.xs ++ ys }).code = if s.cut1 then 70 else 0 := act_code { s with xs := s.xs ++ ys } hd
      rw [e] at this
      simp only [hd] at this
      exact this
  · simp only [if_true]
    exact write_down b R s v w h hd
theorem mwrite_all (b : Nat) (R : Nat → Prop) (s : RS) (v : Value) (ys : List UInt8) (w : World) (h : Mb w b R s) (hv : Src w v ys) (hb : s.acts < 1000000000) (hl : ys.length ≤ 4194304) :
    Calls Try.prog 12 #[.pointer (some ⟨b, 0, none⟩), v] w (MDid b R (s.mwr ys) (.int .i64 (s.wrC ys)) w) := by
  unfold RS.mwr RS.wrC
  cases hd : s.down
  · simp only [Bool.false_eq_true, if_false]
    obtain ⟨q, c, rfl⟩ := hv.slice
    by_cases hf : 1048576 < s.xs.length + ys.length
    · rw [if_pos hf, if_pos hf]
      exact mwrite_full b R s q ys.length c w h hd hf hl
    · rw [if_neg hf, if_neg hf]
      have := mwrite_fits b R s q ys.length c ys w s.cut1 _ rfl rfl h hv rfl hd hb (by omega)
      simp only [hd] at this
      exact this
  · simp only [if_true]
    exact mwrite_down b R s v w h hd
theorem flush_all (b : Nat) (R : Nat → Prop) (s : RS) (w : World) (h : Rb w b R s) (hb : s.acts < 1000000000) :
    Calls Try.prog 13 #[.pointer (some ⟨b, 0, none⟩)] w (Did b R s.ifl s.mflushC w) := by
  unfold RS.ifl RS.mflushC
  cases hd : s.down
  · simp only [Bool.false_eq_true, if_false]
    have ha := act_down s hd
    cases hc : s.cut1
    · simp only [Bool.false_eq_true, if_false]
      rw [hc] at ha
      refine (flush_up b R s w h hd hb ha).mono fun e w' hq => ?_
      have := hq.did
      rw [code_up (s := { s.actTo with safe := s.actTo.xs.length }) ha] at this
      exact this
    · simp only [if_true]
      rw [hc] at ha
      refine (flush_cut b R s w h hd hb ha).mono fun e w' hq => ?_
      have := hq.did
      rw [code_off ha] at this
      exact this
  · simp only [if_true]
    refine (flush_off b R s w h hd).mono fun e w' hq => ?_
    obtain ⟨rfl, rfl⟩ := hq
    exact ⟨rfl, R, h, Went.refl _ _⟩
theorem cut_all (b : Nat) (R : Nat → Prop) (s : RS) (n : Int) (w : World) (h : Rb w b R s) (hb : s.acts < 1000000000) :
    Calls Try.prog 15 #[.pointer (some ⟨b, 0, none⟩), .int .i64 n] w (Did b R (s.icut n) (s.mcutC n) w) := by
  unfold RS.icut RS.mcutC
  cases hd : s.down
  · simp only [Bool.false_eq_true, if_false]
    by_cases hn : n < 0 ∨ (s.xs.length : Int) < n
    · rw [if_pos hn, if_pos hn]
      refine (cut_arg b R s n w h hd hn).mono fun e w' hq => ?_
      obtain ⟨rfl, rfl⟩ := hq
      exact ⟨rfl, R, h, Went.refl _ _⟩
    · rw [if_neg hn, if_neg hn]
      obtain ⟨m, rfl⟩ := Int.eq_ofNat_of_zero_le (show 0 ≤ n by omega)
      have ha := act_down s hd
      cases hc : s.cut1
      · simp only [Bool.false_eq_true, if_false]
        rw [hc] at ha
        refine (cut_up b R s m w h hd hb (by omega) ha (act_xs s hc)).mono fun e w' hq => ?_
        have := hq.did
        rw [code_up (s := { s.actTo with xs := s.xs.take m, safe := m }) ha] at this
        exact this
      · simp only [if_true]
        rw [hc] at ha
        refine (cut_cut b R s m w h hd hb (by omega) ha).mono fun e w' hq => ?_
        have := hq.did
        rw [code_off ha] at this
        exact this
  · simp only [if_true]
    refine (cut_off b R s n w h hd).mono fun e w' hq => ?_
    obtain ⟨rfl, rfl⟩ := hq
    exact ⟨rfl, R, h, Went.refl _ _⟩
theorem Sim.wrC {s t : RS} (h : Sim s t) (ys : List UInt8) : s.wrC ys = t.wrC ys := by
  unfold RS.wrC; rw [h.1, h.2.2.1, h.cut1]
theorem Sim.flC {s t : RS} (h : Sim s t) : s.mflushC = t.mflushC := by
  unfold RS.mflushC; rw [h.2.2.1, h.cut1]
theorem Sim.cutC {s t : RS} (h : Sim s t) (n : Int) : s.mcutC n = t.mcutC n := by
  unfold RS.mcutC; rw [h.1, h.2.2.1, h.cut1]
theorem Sim.wr {s t : RS} (h : Sim s t) (ys : List UInt8) : Sim (s.iwr ys) (t.mwr ys) := by
  have h0 := h
  obtain ⟨h1, h2, h3, h4, h5, h6⟩ := h
  unfold RS.iwr RS.mwr
  rw [h1, h3]
  cases hd : t.down
  · simp only [Bool.false_eq_true, if_false]
    by_cases hf : 1048576 < t.xs.length + ys.length
    · rw [if_pos hf, if_pos hf]; exact h0
    · rw [if_neg hf, if_neg hf]
      exact Sim.act ⟨rfl, h2, rfl, h4, h5, h6⟩
  · simp only [if_true]; exact h0
theorem Sim.fl {s t : RS} (h : Sim s t) : Sim s.ifl t.mflush := by
  have ha := h.act
  unfold RS.ifl RS.mflush
  rw [h.2.2.1, h.cut1]
  cases hd : t.down
  · simp only [Bool.false_eq_true, if_false]
    cases hc : t.cut1
    · simp only [Bool.false_eq_true, if_false]
      obtain ⟨h1, h2, h3, h4, h5, h6⟩ := ha
      exact ⟨h1, by simp [h1], h3, h4, h5, h6⟩
    · simp only [if_true]; exact ha
  · simp only [if_true]; exact h
theorem Sim.cut {s t : RS} (h : Sim s t) (n : Int) : Sim (s.icut n) (t.mcut n) := by
  have ha := h.act
  have hx : t.cut1 = false → t.mact.xs = t.xs := fun hc => by rw [mact_keep t hc]
  unfold RS.icut RS.mcut
  rw [h.2.2.1, h.cut1, h.1]
  cases hd : t.down
  · simp only [Bool.false_eq_true, if_false]
    by_cases hn : n < 0 ∨ (t.xs.length : Int) < n
    · rw [if_pos hn, if_pos hn]; exact h
    · rw [if_neg hn, if_neg hn]
      cases hc : t.cut1
      · simp only [Bool.false_eq_true, if_false]
        obtain ⟨h1, h2, h3, h4, h5, h6⟩ := ha
        exact ⟨by simp [hx hc], rfl, h3, h4, h5, h6⟩
      · simp only [if_true]; exact ha
  · simp only [if_true]; exact h
theorem wr_acts (t : RS) (ys : List UInt8) : (t.mwr ys).acts ≤ t.acts + 1 := by
  unfold RS.mwr
  split
  · omega
  · split
    · omega
    · rw [mact_acts]; exact Nat.le_refl _
theorem fl_acts (t : RS) : t.mflush.acts ≤ t.acts + 1 := by
  unfold RS.mflush
  split
  · omega
  · split
    · rw [mact_acts]; exact Nat.le_refl _
    · show t.mact.acts ≤ _; rw [mact_acts]; exact Nat.le_refl _
theorem cut_acts (t : RS) (n : Int) : (t.mcut n).acts ≤ t.acts + 1 := by
  unfold RS.mcut
  split
  · omega
  · split
    · omega
    · split
      · rw [mact_acts]; exact Nat.le_refl _
      · show t.mact.acts ≤ _; rw [mact_acts]; exact Nat.le_refl _
theorem Sim.arm {s t : RS} (h : Sim s t) (n k : Int) : Sim (s.arm n k) (t.arm n k) := ⟨h.1, h.2.1, h.2.2.1, h.2.2.2.1, rfl, fun _ => rfl⟩
def RS.on (s : RS) : RS := { s with down := false }
theorem Sim.on {s t : RS} (h : Sim s t) : Sim s.on t.on := ⟨h.1, h.2.1, rfl, h.2.2.2.1, h.2.2.2.2.1, h.2.2.2.2.2⟩
theorem Sim.sacts {s t : RS} (h : Sim s t) : s.acts = t.acts := h.2.2.2.1
/- what stands between two rounds -/
def St (W w : World) (b m : Nat) (k : Nat) : Prop := ∃ R M s t, Pair W w b m R M s t ∧ Sim s t ∧ t.acts ≤ k
end Go.Proofs.Ytpjnbcecbppeoaa
