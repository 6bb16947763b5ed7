/- The contracts of Flush, Cut, Arm and New. Condition: what stands in RS.ok; fewer than 10^9 acts. -/
import Derived.Test.YtpjnbcecbppeoaaWalkD
namespace Go.Proofs.Ytpjnbcecbppeoaa
set_option linter.unusedVariables false
open Go.ChangeShapes Go.WideShapes Go.ChangeAt Go.RowKit
theorem Own.base0 {w : World} {base : Nat} {v : Value} {xs : List UInt8} (h : Own w base v xs) : Own w 0 v xs := own_base0 h
theorem ready_up (b : Nat) (R : Nat → Prop) (s : RS) (w : World) (h : Rb w b R s) (hd : s.down = false) :
    Calls Try.prog 26 #[.pointer (some ⟨b, 0, none⟩)] w fun e w' => e = .returned (.int .i64 0) ∧ w = w' := by
  have hrd := ready_any b R s w h
  have e0 : s.code = 0 := by unfold RS.code; rw [hd]; rfl
  rw [e0] at hrd
  exact hrd
theorem ready_off (b : Nat) (R : Nat → Prop) (s : RS) (w : World) (h : Rb w b R s) (hd : s.down = true) :
    Calls Try.prog 26 #[.pointer (some ⟨b, 0, none⟩)] w fun e w' => e = .returned (.int .i64 70) ∧ w = w' := by
  have hrd := ready_any b R s w h
  have e0 : s.code = 70 := by unfold RS.code; rw [hd]; rfl
  rw [e0] at hrd
  exact hrd
theorem code_up {s : RS} (hd : s.down = false) : s.code = 0 := by unfold RS.code; rw [hd]; rfl
theorem code_off {s : RS} (hd : s.down = true) : s.code = 70 := by unfold RS.code; rw [hd]; rfl
set_option maxHeartbeats 1000000 in
theorem flush_off (b : Nat) (R : Nat → Prop) (s : RS) (w : World) (h : Rb w b R s) (hd : s.down = true) :
    Calls Try.prog 13 #[.pointer (some ⟨b, 0, none⟩)] w fun e w' => e = .returned (.int .i64 70) ∧ w = w' := by
  have Hr := Lib.hid (ready_off b R s w h hd)
  clear h hd
  go_enter Try.func13, Try.ntmps13
  go_wp2_with fail
  refine Hr.out.mono ?_
  rintro e w' ⟨rfl, rfl⟩
  go_wp2_with fail
  go_ret
  exact ⟨rfl, rfl⟩
set_option maxHeartbeats 1000000 in
theorem flush_cut (b : Nat) (R : Nat → Prop) (s : RS) (w : World) (h : Rb w b R s) (hd : s.down = false) (hb : s.acts < 1000000000) (ha : s.actTo.down = true) :
    Calls Try.prog 13 #[.pointer (some ⟨b, 0, none⟩)] w (Act1 b R s.actTo w) := by
  have Hr := Lib.hid (ready_up b R s w h hd)
  have hc := code_off ha
  have Hc := Lib.hid hc
  have H := Lib.hid h
  have Hd := Lib.hid hd
  clear h hd ha hc
  go_enter Try.func13, Try.ntmps13
  go_wp2_with fail
  refine Hr.out.mono ?_
  rintro e w' ⟨rfl, rfl⟩
  go_wp2_with fail
  refine (act_any b R _ _ H.out Hd.out hb).mono ?_
  rintro e w2 ⟨rfl, hr, hch⟩
  rw [Hc.out]
  go_wp2_with fail
  go_ret
  exact ⟨ret_i64 Hc.out.symm, hr, hch⟩
set_option maxHeartbeats 1000000 in
theorem flush_up (b : Nat) (R : Nat → Prop) (s : RS) (w : World) (h : Rb w b R s) (hd : s.down = false) (hb : s.acts < 1000000000) (ha : s.actTo.down = false) :
    Calls Try.prog 13 #[.pointer (some ⟨b, 0, none⟩)] w (Act1 b R { s.actTo with safe := s.actTo.xs.length } w) := by
  have Hr := Lib.hid (ready_up b R s w h hd)
  have hc := code_up ha
  have Hc := Lib.hid hc
  have H := Lib.hid h
  have Hd := Lib.hid hd
  have Ha := Lib.hid ha
  clear h hd ha hc
  go_enter Try.func13, Try.ntmps13
  go_wp2_with fail
  refine Hr.out.mono ?_
  rintro e w' ⟨rfl, rfl⟩
  go_wp2_with fail
  refine (act_any b R _ _ H.out Hd.out hb).mono ?_
  rintro e w2 ⟨rfl, hr, hch⟩
  rw [Hc.out]
  obtain ⟨hok, h1, ad, cap, h2, h3, h4⟩ := hr
  generalize s.actTo = s1 at *
  have c0 := cell_of_row w2 b 0 _ 49 (0, 0) h2
  have c1 := cell_of_row w2 b 1 _ 49 (0, 0) h2
  simp at c0 c1
  have f := fz h2
  have H2 := Lib.hid h2
  clear h2
  go_wp2_with fail
  go_ret
  have hcb : Chg (fun k => k = b) w2 (w2.setCell ⟨b, 1, none⟩ (.int .i64 s1.xs.length)) := setB _ (Chg.refl _ w2)
  have hh := set_1 H2.out (.int .i64 s1.xs.length)
  generalize w2.setCell ⟨b, 1, none⟩ (.int .i64 s1.xs.length) = w3 at hcb hh
  exact ⟨ret_i64 (code_up (s := { s1 with safe := s1.xs.length }) Ha.out).symm, rb_mk _ _ _ _ _ _ _ _ _ _ _ _ rfl hh (h3.chg hcb fun k hk => (h4 k hk).2) h4 h1 ⟨Nat.le_refl _, hok.2.1, hok.2.2⟩, hch.trans (hcb.mono fun k _ hk => by rw [hk]; exact h1)⟩
set_option maxHeartbeats 1000000 in
theorem cut_off (b : Nat) (R : Nat → Prop) (s : RS) (n : Int) (w : World) (h : Rb w b R s) (hd : s.down = true) :
    Calls Try.prog 15 #[.pointer (some ⟨b, 0, none⟩), .int .i64 n] w fun e w' => e = .returned (.int .i64 70) ∧ w = w' := by
  have Hr := Lib.hid (ready_off b R s w h hd)
  clear h hd
  go_enter Try.func15, Try.ntmps15
  go_wp2_with fail
  refine Hr.out.mono ?_
  rintro e w' ⟨rfl, rfl⟩
  go_wp2_with fail
  go_ret
  exact ⟨rfl, rfl⟩
set_option maxHeartbeats 1000000 in
theorem cut_arg (b : Nat) (R : Nat → Prop) (s : RS) (n : Int) (w : World) (h : Rb w b R s) (hd : s.down = false) (hn : n < 0 ∨ (s.xs.length : Int) < n) :
    Calls Try.prog 15 #[.pointer (some ⟨b, 0, none⟩), .int .i64 n] w fun e w' => e = .returned (.int .i64 1) ∧ w = w' := by
  have Hr := Lib.hid (ready_up b R s w h hd)
  obtain ⟨hok, h1, ad, cap, h2, h3, h4⟩ := h
  have c0 := cell_of_row w b 0 _ 49 (0, 0) h2
  simp at c0
  clear h2 h3 h4 hd
  by_cases hn0 : n < 0
  · go_enter Try.func15, Try.ntmps15
    go_wp2_with fail
    refine Hr.out.mono ?_
    rintro e w' ⟨rfl, rfl⟩
    go_wp2_with fail
    go_ret
    exact ⟨rfl, rfl⟩
  · have hn1 : (s.xs.length : Int) < n := by omega
    clear hn
    go_enter Try.func15, Try.ntmps15
    go_wp2_with fail
    refine Hr.out.mono ?_
    rintro e w' ⟨rfl, rfl⟩
    go_wp2_with fail
    go_ret
    exact ⟨rfl, rfl⟩
set_option maxHeartbeats 1000000 in
theorem cut_cut (b : Nat) (R : Nat → Prop) (s : RS) (n : Nat) (w : World) (h : Rb w b R s) (hd : s.down = false) (hb : s.acts < 1000000000) (hn : n ≤ s.xs.length) (ha : s.actTo.down = true) :
    Calls Try.prog 15 #[.pointer (some ⟨b, 0, none⟩), .int .i64 n] w (Act1 b R s.actTo w) := by
  have Hr := Lib.hid (ready_up b R s w h hd)
  have hc := code_off ha
  have Hc := Lib.hid hc
  have H := Lib.hid h
  have Hd := Lib.hid hd
  obtain ⟨hok, h1, ad, cap, h2, h3, h4⟩ := h
  have hl := hok.2.1
  have c0 := cell_of_row w b 0 _ 49 (0, 0) h2
  simp at c0
  clear h2 h3 h4 hd ha hc
  go_enter Try.func15, Try.ntmps15
  go_wp2_with fail
  refine Hr.out.mono ?_
  rintro e w' ⟨rfl, rfl⟩
  go_wp2_with fail
  refine (act_any b R _ _ H.out Hd.out hb).mono ?_
  rintro e w2 ⟨rfl, hr, hch⟩
  rw [Hc.out]
  go_wp2_with fail
  go_ret
  exact ⟨ret_i64 Hc.out.symm, hr, hch⟩
set_option maxHeartbeats 1000000 in
theorem cut_up (b : Nat) (R : Nat → Prop) (s : RS) (n : Nat) (w : World) (h : Rb w b R s) (hd : s.down = false) (hb : s.acts < 1000000000) (hn : n ≤ s.xs.length) (ha : s.actTo.down = false) (hx : s.actTo.xs = s.xs) :
    Calls Try.prog 15 #[.pointer (some ⟨b, 0, none⟩), .int .i64 n] w (Act1 b R { s.actTo with xs := s.xs.take n, safe := n } w) := by
  have Hr := Lib.hid (ready_up b R s w h hd)
  have hc := code_up ha
  have Hc := Lib.hid hc
  have H := Lib.hid h
  have Hd := Lib.hid hd
  have Ha := Lib.hid ha
  have Hx := Lib.hid hx
  obtain ⟨hok, h1, ad, cap, h2, h3, h4⟩ := h
  have hl := hok.2.1
  have c0 := cell_of_row w b 0 _ 49 (0, 0) h2
  simp at c0
  clear h2 h3 h4 hd ha hc hx
  go_enter Try.func15, Try.ntmps15
  go_wp2_with fail
  refine Hr.out.mono ?_
  rintro e w' ⟨rfl, rfl⟩
  go_wp2_with fail
  refine (act_any b R _ _ H.out Hd.out hb).mono ?_
  rintro e w2 ⟨rfl, hr, hch⟩
  rw [Hc.out]
  obtain ⟨hok, h1, ad, cap, h2, h3, h4⟩ := hr
  rw [Hx.out] at h2 h3 h4
  clear c0
  have hle : s.xs.length ≤ cap ∧ cap ≤ maxLen := by
    obtain ⟨_, _, e, q1, q2, _⟩ := h3.shape
    simp only [Value.slice.injEq] at e
    obtain ⟨_, _, rfl⟩ := e
    exact ⟨q1, q2⟩
  obtain ⟨hle, hcm⟩ := hle
  unfold maxLen at hcm
  have c0 := cell_of_row w2 b 0 _ 49 (0, 0) h2
  have c1 := cell_of_row w2 b 1 _ 49 (0, 0) h2
  simp at c0 c1
  have f := fz h2
  have H2 := Lib.hid h2
  have H3 := Lib.hid h3
  have H4 := Lib.hid h4
  have Hok := Lib.hid hok
  clear h2 h3 h4 hok
  have hnc : n ≤ cap := by omega
  go_wp2_with fail
  go_ret
  have hcb : Chg (fun k => k = b) w2 ((w2.setCell ⟨b, 0, none⟩ (.slice ad n cap)).setCell ⟨b, 1, none⟩ (.int .i64 n)) := setB _ (setB _ (Chg.refl _ w2))
  have hh := set_1 (set_0 H2.out (.slice ad n cap)) (.int .i64 n)
  have hl' : (s.xs.take n).length = n := by rw [List.length_take]; omega
  have hb' : ∀ k, (Value.slice ad n cap).ownBlock = some k → R k ∧ k ≠ b := by
    intro k hk
    cases ad with
    | none => simp [Value.ownBlock] at hk
    | some a => exact H4.out k hk
  have ho := (H3.out.take n hn).chg hcb fun k hk => (hb' k hk).2
  generalize (w2.setCell ⟨b, 0, none⟩ (.slice ad n cap)).setCell ⟨b, 1, none⟩ (.int .i64 n) = w3 at hcb hh ho
  have hk2 := Hok.out.2.2
  exact ⟨ret_i64 (code_up (s := { s.actTo with xs := s.xs.take n, safe := n }) Ha.out).symm, rb_mk _ _ _ _ _ _ _ _ _ _ _ _ hl' hh ho hb' h1 ⟨by show n ≤ (s.xs.take n).length; omega, by show (s.xs.take n).length ≤ _; omega, hk2⟩, hch.trans (hcb.mono fun k _ hk => by rw [hk]; exact h1)⟩
def Made (xs : List UInt8) (w : World) (e : Ending) (w' : World) : Prop := ∃ b R, e = .returned (.pointer (some ⟨b, 0, none⟩)) ∧ Rb w' b R ⟨xs, xs.length, false, 0, 0, 0⟩ ∧ Chg NoB w w' ∧ ∀ k, R k → w.heap.size ≤ k ∧ k < w'.heap.size
theorem made_mk (xs : List UInt8) (w w1 : World) (v : Value) (ho : Own w1 w.heap.size v xs) (hc : Chg NoB w w1) (hl : xs.length ≤ 1048576) :
    Made xs w (.returned (.pointer (some ⟨w1.heap.size, 0, none⟩))) (w1.alloc (.cells #[v, .int .i64 (xs.length : Int), .bool false, .int .i64 0, .int .i64 0, .int .i64 0] 49)) := by
  have hlt := ho.lt
  have hsz := hc.size
  have hal : Chg NoB w1 (w1.alloc (.cells #[v, .int .i64 (xs.length : Int), .bool false, .int .i64 0, .int .i64 0, .int .i64 0] 49)) := (Chg.refl _ w1).alloc _
  have hh := heap_alloc_new w1 (.cells #[v, .int .i64 (xs.length : Int), .bool false, .int .i64 0, .int .i64 0, .int .i64 0] 49)
  have hs2 : (w1.alloc (.cells #[v, .int .i64 (xs.length : Int), .bool false, .int .i64 0, .int .i64 0, .int .i64 0] 49)).heap.size = w1.heap.size + 1 := by
    show (w1.heap.push _).size = _; simp
  have ho' := (Own.base0 ho).chg hal fun k _ => id
  obtain ⟨ad, cp, hv⟩ := shape_of ho
  subst hv
  generalize w1.alloc (.cells #[.slice ad xs.length cp, .int .i64 (xs.length : Int), .bool false, .int .i64 0, .int .i64 0, .int .i64 0] 49) = w2 at hal hh hs2 ho'
  refine ⟨w1.heap.size, fun k => w.heap.size ≤ k ∧ k < w2.heap.size, rfl, ?_, hc.trans hal, fun k hk => hk⟩
  exact rb_mk _ _ _ _ _ _ _ _ _ _ _ _ rfl hh ho' (fun k hk => ⟨⟨(hlt k hk).1, by have := (hlt k hk).2; omega⟩, by have := (hlt k hk).2; omega⟩) ⟨hsz, by omega⟩ ⟨Nat.le_refl _, hl, by show 0 ≤ _; omega, by show 0 ≤ _; omega⟩
set_option maxHeartbeats 1000000 in
theorem new_any (v : Value) (xs : List UInt8) (w : World) (h : Src w v xs) (hl : xs.length ≤ 1048576) :
    Calls Try.prog 9 #[v] w (Made xs w) := by
  have H := Lib.hid h
  rcases h with ⟨rfl, rfl⟩ | ⟨a, cap, rfl, h1, h2, h3⟩
  · go_enter Try.func9, Try.ntmps9
    go_wp2_with fail
    refine (clone_any _ _ _ H.out hl).mono ?_
    rintro e w1 ⟨v, rfl, ho, hc⟩
    have hfin := made_mk [] w w1 v ho hc (by simp)
    obtain ⟨ad, cp, hv⟩ := shape_of ho
    subst hv
    have Hfin := Lib.hid hfin
    clear hfin ho hc
    go_wp2_with fail
    go_ret
    exact Hfin.out
  · clear h3
    unfold maxLen at h2
    go_enter Try.func9, Try.ntmps9
    go_wp2_with fail
    refine (clone_any _ _ _ H.out hl).mono ?_
    rintro e w1 ⟨v, rfl, ho, hc⟩
    have hfin := made_mk xs w w1 v ho hc hl
    obtain ⟨ad, cp, hv⟩ := shape_of ho
    subst hv
    have Hfin := Lib.hid hfin
    clear hfin ho hc
    go_wp2_with fail
    go_ret
    exact Hfin.out
end Go.Proofs.Ytpjnbcecbppeoaa
