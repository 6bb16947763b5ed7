/- The document's New; what remains of the ribbon's own methods: Arm, New with more than fits, a nil ribbon, Write with no room. Condition: what stands in RS.ok. -/
import Derived.Test.YtpjnbcecbppeoaaRefE
namespace Go.Proofs.Ytpjnbcecbppeoaa
set_option linter.unusedVariables false
open Go.ChangeShapes Go.WideShapes Go.ChangeAt Go.RowKit
def MMade (xs : List UInt8) (w : World) (e : Ending) (w' : World) : Prop := ∃ b R, e = .returned (.pointer (some ⟨b, 0, none⟩)) ∧ Mb w' b R ⟨xs, xs.length, false, 0, 0, 0⟩ ∧ Chg NoB w w' ∧ ∀ k, R k → w.heap.size ≤ k ∧ k < w'.heap.size
theorem mmade_mk (xs : List UInt8) (n : Nat) (hn : xs.length = n) (w w1 : World) (g cp : Nat) (ho : Own w1 w.heap.size (.slice (some ⟨g, 0, none⟩) n cp) xs) (hc : Chg NoB w w1) (hl : n ≤ 1048576) :
    MMade xs w (.returned (.pointer (some ⟨w1.heap.size, 0, none⟩))) (w1.alloc (.cells #[.slice (some ⟨g, 0, none⟩) n cp, .int .i64 (n : Int), .bool true, .int .i64 0, .int .i64 0, .int .i64 0] 38)) := by
  subst hn
  have hlt := ho.lt
  have hsz := hc.size
  have hal : Chg NoB w1 (w1.alloc (.cells #[.slice (some ⟨g, 0, none⟩) xs.length cp, .int .i64 (xs.length : Int), .bool true, .int .i64 0, .int .i64 0, .int .i64 0] 38)) := (Chg.refl _ w1).alloc _
  have hh := heap_alloc_new w1 (.cells #[.slice (some ⟨g, 0, none⟩) xs.length cp, .int .i64 (xs.length : Int), .bool true, .int .i64 0, .int .i64 0, .int .i64 0] 38)
  have hs2 : (w1.alloc (.cells #[.slice (some ⟨g, 0, none⟩) xs.length cp, .int .i64 (xs.length : Int), .bool true, .int .i64 0, .int .i64 0, .int .i64 0] 38)).heap.size = w1.heap.size + 1 := by
    show (w1.heap.push _).size = _; simp
  have ho' := (Own.base0 ho).chg hal fun k _ => id
  generalize w1.alloc (.cells #[.slice (some ⟨g, 0, none⟩) xs.length cp, .int .i64 (xs.length : Int), .bool true, .int .i64 0, .int .i64 0, .int .i64 0] 38) = w2 at hal hh hs2 ho'
  refine ⟨w1.heap.size, fun k => w.heap.size ≤ k ∧ k < w2.heap.size, rfl, ?_, hc.trans hal, fun k hk => hk⟩
  exact mb_mk _ _ _ _ _ _ _ _ _ _ _ _ _ rfl rfl hh ho' (fun k hk => ⟨⟨(hlt k hk).1, by have := (hlt k hk).2; omega⟩, by have := (hlt k hk).2; omega⟩) ⟨hsz, by omega⟩ ⟨Nat.le_refl _, hl, by show 0 ≤ _; omega, by show 0 ≤ _; omega⟩
theorem Src.cut {w : World} {a : Addr} {n cap : Nat} {xs : List UInt8} (h : Src w (.slice (some a) n cap) xs) (m : Nat) (hm : m ≤ n) (hl : xs.length = n) : Src w (.slice (some a) m cap) (xs.take m) := by
  rcases h with ⟨e, _⟩ | ⟨b, c, e, q1, q2, q3⟩
  · simp at e
  · simp only [Value.slice.injEq, Option.some.injEq] at e
    obtain ⟨rfl, e1, rfl⟩ := e
    have hl' : (xs.take m).length = m := by rw [List.length_take]; omega
    refine .inr ⟨a, cap, by rw [hl'], by omega, q2, fun j hj => ?_⟩
    have hj' : j < xs.length := by omega
    rw [q3 j hj']
    simp
set_option maxHeartbeats 1000000 in
theorem mnew_any (v : Value) (xs : List UInt8) (w : World) (h : Src w v xs) (hl : xs.length ≤ 4194304) :
    Calls Try.prog 10 #[v] w (MMade (xs.take 1048576) w) := by
  rcases h with ⟨rfl, rfl⟩ | ⟨a, cap, rfl, h1, h2, h3⟩
  · have Hs := Lib.hid (show Src w (.slice none 0 0) [] from .inl ⟨rfl, rfl⟩)
    go_enter Try.func10, Try.ntmps10
    go_wp2_with (at_builtin; refine append_new rfl (.tmp 8) (.tmp 11) rfl w rfl _ rfl [] Hs.out (by decide) ?_; intro g cp w1 ho hc; have Hf := Lib.hid (mmade_mk [] 0 rfl w w1 g cp ho hc (by decide)); clear ho hc)
    go_ret
    exact Hf.out
  · have hsrc : Src w (.slice (some a) xs.length cap) xs := .inr ⟨a, cap, rfl, h1, h2, h3⟩
    have Hs := Lib.hid hsrc
    unfold maxLen at h2
    clear h3 hsrc
    by_cases hbig : 1048576 < xs.length
    · have hbig' : (1048576 : Int) < (xs.length : Int) := by omega
      have hcap : 1048576 ≤ cap := by omega
      have hcap' : (1048576 : Int) ≤ (cap : Int) := by omega
      have Hs2 := Lib.hid (Hs.out.cut 1048576 (by omega) rfl)
      have Hlt := Lib.hid (show (xs.take 1048576).length = 1048576 by rw [List.length_take]; omega)
      obtain ⟨zs, hzs⟩ : ∃ zs, zs = xs.take 1048576 := ⟨_, rfl⟩
      rw [← hzs] at Hs2 Hlt ⊢
      clear hzs Hs
      go_enter Try.func10, Try.ntmps10
      go_wp2_with (at_builtin; refine append_new rfl (.tmp 8) (.tmp 11) rfl w rfl _ rfl zs Hs2.out (by rw [Hlt.out]; decide) ?_; rw [Hlt.out]; intro g cp w1 ho hc; have Hf := Lib.hid (mmade_mk zs 1048576 Hlt.out w w1 g cp ho hc (by decide)); clear ho hc)
      go_ret
      exact Hf.out
    · have e : xs.take 1048576 = xs := List.take_of_length_le (by omega)
      rw [e]
      have hsm : (xs.length : Int) ≤ 1048576 := by omega
      clear e
      go_enter Try.func10, Try.ntmps10
      go_wp2_with (at_builtin; refine append_new rfl (.tmp 8) (.tmp 11) rfl w rfl _ rfl xs Hs.out (by omega) ?_; intro g cp w1 ho hc; have Hf := Lib.hid (mmade_mk xs xs.length rfl w w1 g cp ho hc (by omega)); clear ho hc)
      go_ret
      exact Hf.out
set_option maxHeartbeats 1000000 in
theorem new_more (v : Value) (xs : List UInt8) (w : World) (h : Src w v xs) (hl : xs.length ≤ 4194304) :
    Calls Try.prog 9 #[v] w (Made (xs.take 1048576) w) := by
  by_cases hbig : 1048576 < xs.length
  · rcases h with ⟨rfl, rfl⟩ | ⟨a, cap, rfl, h1, h2, h3⟩
    · simp at hbig
    · have hsrc : Src w (.slice (some a) xs.length cap) xs := .inr ⟨a, cap, rfl, h1, h2, h3⟩
      have Hs := Lib.hid hsrc
      unfold maxLen at h2
      clear h3 hsrc
      have hbig' : (1048576 : Int) < (xs.length : Int) := by omega
      have hcap : 1048576 ≤ cap := by omega
      have hcap' : (1048576 : Int) ≤ (cap : Int) := by omega
      have Hs2 := Lib.hid (Hs.out.cut 1048576 (by omega) rfl)
      have Hlt := Lib.hid (show (xs.take 1048576).length = 1048576 by rw [List.length_take]; omega)
      obtain ⟨zs, hzs⟩ : ∃ zs, zs = xs.take 1048576 := ⟨_, rfl⟩
      rw [← hzs] at Hs2 Hlt ⊢
      clear hzs Hs
      go_enter Try.func9, Try.ntmps9
      go_wp2_with fail
      refine (clone_any _ zs _ Hs2.out (by rw [Hlt.out]; decide)).mono ?_
      rintro e w1 ⟨v, rfl, ho, hc⟩
      have hfin := made_mk zs w w1 v ho hc (by rw [Hlt.out]; decide)
      rw [Hlt.out] at hfin
      obtain ⟨ad, cp, hv⟩ := shape_of ho
      rw [Hlt.out] at hv
      subst hv
      have Hfin := Lib.hid hfin
      clear hfin ho hc
      go_wp2_with fail
      go_ret
      exact Hfin.out
  · have e : xs.take 1048576 = xs := List.take_of_length_le (by omega)
    rw [e]
    exact new_any v xs w h (by omega)
set_option maxHeartbeats 1000000 in
theorem arm_any (b : Nat) (R : Nat → Prop) (s : RS) (n k : Int) (w : World) (h : Rb w b R s) (hn : n ≤ 9223372036854775807) :
    Calls Try.prog 20 #[.pointer (some ⟨b, 0, none⟩), .int .i64 n, .int .i64 k] w (Off1 b R (s.arm n k) w) := by
  obtain ⟨hok, h1, ad, cap, h2, h3, h4⟩ := h
  obtain ⟨_, _, _, _, c4, c5, f⟩ := row_cells h2
  have H2 := Lib.hid h2
  clear h2
  by_cases hn0 : n < 0
  · go_enter Try.func20, Try.ntmps20
    go_wp2
    go_end0
    have hc : Chg (fun k => k = b) w ((w.setCell ⟨b, 4, none⟩ (.int .i64 0)).setCell ⟨b, 5, none⟩ (.int .i64 k)) := setB _ (setB _ (Chg.refl _ w))
    have hh := set_5 (set_4 H2.out (.int .i64 0)) (.int .i64 k)
    have e : s.arm n k = { s with armed := 0, keep := k } := by unfold RS.arm; rw [show n.toNat = 0 by omega]
    rw [e]
    exact ⟨rfl, rb_mk _ _ _ _ _ _ _ _ _ _ _ _ rfl hh (h3.chg hc fun k hk => (h4 k hk).2) h4 h1 ⟨hok.1, hok.2.1, hok.2.2.1, by show 0 ≤ _; omega⟩, hc.mono fun k _ hk => by rw [hk]; exact h1⟩
  · obtain ⟨m, rfl⟩ := Int.eq_ofNat_of_zero_le (show 0 ≤ n by omega)
    go_enter Try.func20, Try.ntmps20
    go_wp2
    go_end0
    have hc : Chg (fun k => k = b) w ((w.setCell ⟨b, 4, none⟩ (.int .i64 m)).setCell ⟨b, 5, none⟩ (.int .i64 k)) := setB _ (setB _ (Chg.refl _ w))
    have hh := set_5 (set_4 H2.out (.int .i64 m)) (.int .i64 k)
    have e : s.arm m k = { s with armed := m, keep := k } := by unfold RS.arm; rw [show (m : Int).toNat = m by omega]
    rw [e]
    exact ⟨rfl, rb_mk _ _ _ _ _ _ _ _ _ _ _ _ rfl hh (h3.chg hc fun k hk => (h4 k hk).2) h4 h1 ⟨hok.1, hok.2.1, hok.2.2.1, by show m ≤ _; omega⟩, hc.mono fun k _ hk => by rw [hk]; exact h1⟩
end Go.Proofs.Ytpjnbcecbppeoaa
