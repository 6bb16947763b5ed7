/- The contracts of the ribbon's methods. Condition: what stands in RS.ok. -/
import Derived.Test.YtpjnbcecbppeoaaWalkA
namespace Go.Proofs.Ytpjnbcecbppeoaa
set_option linter.unusedVariables false
open Go.ChangeShapes Go.WideShapes Go.ChangeAt Go.RowKit
def Off1 (b : Nat) (R : Nat → Prop) (s : RS) (w : World) (e : Ending) (w' : World) : Prop := e = .returned (.tuple #[]) ∧ Rb w' b R s ∧ Chg R w w'
theorem fz {w : World} {b : Nat} {cs : Array Value} {t : TypeId} (h : w.heap[b]? = some (.cells cs t (0, 0))) : ∀ i, w.frozen? ⟨b, i, none⟩ = false := by
  intro i; simp [World.frozen?, h]
theorem setB {a w : World} {b i : Nat} (u : Value) (h : Chg (fun k => k = b) a w) : Chg (fun k => k = b) a (w.setCell ⟨b, i, none⟩ u) := h.setCell (.inl rfl) u
theorem rb_mk (w : World) (b : Nat) (R : Nat → Prop) (ad : Option Addr) (cap n safe : Nat) (down : Bool) (acts armed : Nat) (keep : Int) (xs : List UInt8) (hl : xs.length = n)
    (hh : w.heap[b]? = some (.cells #[.slice ad n cap, .int .i64 (safe : Int), .bool down, .int .i64 (acts : Int), .int .i64 (armed : Int), .int .i64 keep] 49 (0, 0)))
    (ho : Own w 0 (.slice ad n cap) xs) (hb : ∀ k, (Value.slice ad n cap).ownBlock = some k → R k ∧ k ≠ b) (h1 : R b) (hok : RS.ok ⟨xs, safe, down, acts, armed, keep⟩) :
    Rb w b R ⟨xs, safe, down, acts, armed, keep⟩ := by
  subst hl
  exact ⟨hok, h1, ad, cap, hh, ho, hb⟩
theorem Rb.drew {w : World} {b : Nat} {R : Nat → Prop} {s : RS} (h : Rb w b R s) : Rb w.drew b R s := h.chg (S := NoB) (Chg.drew (Chg.refl _ w)) fun _ _ => id
theorem off_end (b : Nat) (R : Nat → Prop) (s : RS) (k x : Int) (m : Nat) (ad : Option Addr) (cap : Nat) (w : World) (hd : s.down = false)
    (hx : x = (m : Int)) (hm : m = s.safe + min k.toNat (s.xs.length - s.safe)) (h1 : R b) (hok : s.ok)
    (h2 : w.heap[b]? = some (.cells #[.slice ad s.xs.length cap, .int .i64 s.safe, .bool s.down, .int .i64 s.acts, .int .i64 s.armed, .int .i64 s.keep] 49 (0, 0)))
    (h3 : Own w 0 (.slice ad s.xs.length cap) s.xs) (h4 : ∀ k, (Value.slice ad s.xs.length cap).ownBlock = some k → R k ∧ k ≠ b) :
    Off1 b R (s.off k) w (.returned (.tuple #[])) (((((w.setCell ⟨b, 1, none⟩ (.int .i64 x)).setCell ⟨b, 0, none⟩ (.slice ad m cap)).setCell ⟨b, 4, none⟩ (.int .i64 0)).setCell ⟨b, 5, none⟩ (.int .i64 0)).setCell ⟨b, 2, none⟩ (.bool true)).drew.drew := by
  subst hx
  obtain ⟨o1, o2, o3, o4⟩ := hok
  have hs : s.off k = { xs := s.xs.take m, safe := m, down := true, acts := s.acts, armed := 0, keep := 0 } := by
    unfold RS.off; rw [hd]; simp [← hm]
  have hl : (s.xs.take m).length = m := by rw [List.length_take]; omega
  have hc : Chg (fun k => k = b) w (((((w.setCell ⟨b, 1, none⟩ (.int .i64 (m : Int))).setCell ⟨b, 0, none⟩ (.slice ad m cap)).setCell ⟨b, 4, none⟩ (.int .i64 0)).setCell ⟨b, 5, none⟩ (.int .i64 0)).setCell ⟨b, 2, none⟩ (.bool true)) :=
    setB _ (setB _ (setB _ (setB _ (setB _ (Chg.refl _ w)))))
  have hb : ∀ k, (Value.slice ad m cap).ownBlock = some k → R k ∧ k ≠ b := by
    intro k hk
    cases ad with
    | none => simp [Value.ownBlock] at hk
    | some a => exact h4 k hk
  have hh := set_2 (set_5 (set_4 (set_0 (set_1 h2 (.int .i64 (m : Int))) (.slice ad m cap)) (.int .i64 0)) (.int .i64 0)) (.bool true)
  have ho := (h3.take m (by omega)).chg hc fun k hk => (hb k hk).2
  rw [hs]
  generalize (((((w.setCell ⟨b, 1, none⟩ (.int .i64 (m : Int))).setCell ⟨b, 0, none⟩ (.slice ad m cap)).setCell ⟨b, 4, none⟩ (.int .i64 0)).setCell ⟨b, 5, none⟩ (.int .i64 0)).setCell ⟨b, 2, none⟩ (.bool true)) = w1 at hc hh ho
  refine ⟨rfl, Rb.drew (Rb.drew ?_), Chg.drew (Chg.drew (hc.mono fun k _ hk => by rw [hk]; exact h1))⟩
  exact rb_mk _ _ _ _ _ _ _ _ _ _ _ _ hl hh ho hb h1 ⟨by show m ≤ (s.xs.take m).length; omega, by show (s.xs.take m).length ≤ _; omega, o3, by show 0 ≤ _; omega⟩
set_option maxHeartbeats 1000000 in
theorem off_up (b : Nat) (R : Nat → Prop) (s : RS) (k : Int) (w : World) (h : Rb w b R s) (hd : s.down = false)  :
    Calls Try.prog 17 #[.pointer (some ⟨b, 0, none⟩), .int .i64 k] w (Off1 b R (s.off k) w) := by
  obtain ⟨⟨o1, o2, o3, o4⟩, h1, ad, cap, h2, h3, h4⟩ := h
  have hle : s.xs.length ≤ cap ∧ cap ≤ maxLen := by
    obtain ⟨_, _, e, q1, q2, _⟩ := h3.shape
    simp only [Value.slice.injEq] at e
    obtain ⟨_, _, rfl⟩ := e
    exact ⟨q1, q2⟩
  obtain ⟨hle, hcm⟩ := hle
  unfold maxLen at hcm
  have c := fun i => cell_of_row w b i _ 49 (0, 0) h2
  have c0 := c 0
  have c1 := c 1
  have c2 := c 2
  have c4 := c 4
  have c5 := c 5
  simp [hd] at c0 c1 c2 c4 c5
  have f := fz h2
  have H2 := Lib.hid h2
  have H3 := Lib.hid h3
  have Hd := Lib.hid hd
  have Hok := Lib.hid (show s.ok from ⟨o1, o2, o3, o4⟩)
  have H4 := Lib.hid h4
  clear h2 h3 c hd h4
  rcases (show k < 0 ∨ k = 0 ∨ (0 < k ∧ k < (s.xs.length : Int) - s.safe) ∨ (0 < k ∧ (s.xs.length : Int) - s.safe ≤ k) by omega) with hk | rfl | ⟨hk, hk2⟩ | ⟨hk, hk2⟩
  · go_enter Try.func17, Try.ntmps17
    go_wp2
    go_region
    go_wp2
    go_region
    all_goals go_wp2
    all_goals go_end0
    all_goals exact off_end b R s _ _ _ ad cap w Hd.out (by omega) (by omega) h1 Hok.out H2.out H3.out H4.out
  · go_enter Try.func17, Try.ntmps17
    go_wp2
    go_region
    go_wp2
    go_region
    all_goals go_wp2
    all_goals go_end0
    all_goals exact off_end b R s _ _ _ ad cap w Hd.out (by omega) (by omega) h1 Hok.out H2.out H3.out H4.out
  · obtain ⟨kn, rfl⟩ := Int.eq_ofNat_of_zero_le (a := k) (by omega)
    go_enter Try.func17, Try.ntmps17
    go_wp2
    go_region
    go_wp2
    go_region
    all_goals go_wp2
    all_goals go_end0
    all_goals exact off_end b R s _ _ _ ad cap w Hd.out (by omega) (by omega) h1 Hok.out H2.out H3.out H4.out
  · obtain ⟨kn, rfl⟩ := Int.eq_ofNat_of_zero_le (a := k) (by omega)
    go_enter Try.func17, Try.ntmps17
    go_wp2
    go_region
    all_goals go_wp2
    all_goals go_region
    all_goals go_wp2
    all_goals go_end0
    all_goals exact off_end b R s _ _ _ ad cap w Hd.out (by omega) (by omega) h1 Hok.out H2.out H3.out H4.out
end Go.Proofs.Ytpjnbcecbppeoaa
