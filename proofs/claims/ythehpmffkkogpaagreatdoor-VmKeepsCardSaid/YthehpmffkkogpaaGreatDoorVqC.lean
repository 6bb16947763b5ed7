/- The contracts of a machine's instructions, group by group. Condition: a machine as it ever is. -/
import Derived.Test.YthehpmffkkogpaaGreatDoorVqA
import Derived.Test.YthehpmffkkogpaaGreatDoorVqB
namespace Go.Proofs.YthehpmffkkogpaaGreatDoor
set_option linter.unusedVariables false
open Go.ChangeShapes Go.WideShapes Go.ChangeAt Go.RowKit
set_option maxHeartbeats 4000000 in
set_option maxRecDepth 20000 in
theorem shift_any (op : Int) {w0 : World} {lo mb : Nat} {pv vv : Value} {s0 : MSt} {st : Nat} {ft : Int} {F0 : Value × Value} {len : Int} (hm : Mach w0 lo mb pv vv s0 st ft F0) (wf : WfS len s0) (hop : op = 4 ∨ op = 5 ∨ op = 6) :
    Calls Tryz.prog 98 #[.pointer (some ⟨mb, 0, none⟩), .int .i64 op] w0 (VOut lo mb pv vv st ft F0 (shiftR op s0) (fun _ => .tuple #[]) w0) := by
  obtain ⟨r, hr⟩ : ∃ r, r = shiftR op s0 := ⟨_, rfl⟩
  rw [← hr]
  have H0 := Lib.hid (MStep.refl mb F0 w0)
  have M0 := Lib.hid hm
  have W0 := Lib.hid (And.intro wf (trivial : True))
  unfold shiftR at hr
  clear hm wf
  rcases hop with rfl | rfl | rfl
  · rw [if_neg (by decide)] at hr
    have Hr0 := Lib.hid hr
    clear hr
    go_enter Tryz.func98, Tryz.ntmps98
    go_wp2_with fail
    refine (need_any 1 (by decide) M0.out W0.out.1.depth).mono ?_
    rintro e w1 ⟨F1, hs_, s1, hm_, (⟨a1, hr_, rfl⟩ | ⟨y, hr_, rfl⟩)⟩
    rotate_left
    · have hrj := Hr0.out
      rw [hr_] at hrj
      have Hf := Lib.hid (And.intro (H0.out.trans hs_) (And.intro hm_ hrj))
      clear hs_ hm_ hr_ hrj
      unfold quitP
      go_wp2_with fail
      exact ⟨rfl, F1, Hf.out.1, s1, Hf.out.2.1, .inr ⟨y, Hf.out.2.2, rfl⟩⟩
    have hrj := Hr0.out
    have hw_ := need_wf W0.out.1 1
    have hl_ := (need_len hr_).2
    rw [hr_] at hrj hw_
    rw [VR.then_ok] at hrj
    try dsimp only at hrj
    have H1 := Lib.hid (H0.out.trans hs_)
    have S1 := Lib.hid hs_
    have M1 := Lib.hid hm_
    have Hr1 := Lib.hid hrj
    have W1 := Lib.hid (show _ ∧ _ from hw_)
    have L1 := Lib.hid hl_
    clear hs_ hm_ hr_ hrj hw_ hl_
    go_wp2_with fail
    refine (pop_any M1.out W1.out.1.depth (by have := L1.out; omega)).mono ?_
    rintro e w2 ⟨F2, hs_, s2, hm_, (⟨⟨b1, b2, b3⟩, hr_, rfl⟩ | ⟨y, hr_, rfl⟩)⟩
    rotate_left
    · have hrj := Hr1.out
      rw [hr_] at hrj
      have Hf := Lib.hid (And.intro (H1.out.trans hs_) (And.intro hm_ hrj))
      clear hs_ hm_ hr_ hrj
      unfold quitP
      go_wp2_with fail
      exact ⟨rfl, F2, Hf.out.1, s2, Hf.out.2.1, .inr ⟨y, Hf.out.2.2, rfl⟩⟩
    have hrj := Hr1.out
    have hw_ := pop_wf W1.out.1
    have hl_ := (show s1.stack.length - 1 ≤ s2.stack.length by rw [pop_off hr_, off_len]; exact Nat.le_refl _)
    rw [hr_] at hrj hw_
    rw [VR.then_ok] at hrj
    try dsimp only at hrj
    have H2 := Lib.hid (H1.out.trans hs_)
    have S2 := Lib.hid hs_
    have M2 := Lib.hid hm_
    have Hr2 := Lib.hid hrj
    have W2 := Lib.hid (show _ ∧ _ from hw_)
    have L2 := Lib.hid hl_
    clear hs_ hm_ hr_ hrj hw_ hl_
    unfold valA
    simp only
    have L2 := Lib.hid (Nat.le_trans (Nat.sub_le_sub_right L1.out 1) L2.out)
    have hz := Hr2.out
    rw [if_neg (by first | assumption | decide | omega)] at hz
    replace Hr2 := Lib.hid hz
    clear hz
    have hal_ := (Chg.refl NoB w2).alloc (.cells #[.bool b1, .int .i64 b2, .string (tx b3)] 68)
    have hb_ := heap_alloc_new w2 (.cells #[.bool b1, .int .i64 b2, .string (tx b3)] 68)
    obtain ⟨xb, hxb_⟩ : ∃ b, b = w2.heap.size := ⟨_, rfl⟩
    obtain ⟨w3, hw_⟩ : ∃ w_, w2.alloc (.cells #[.bool b1, .int .i64 b2, .string (tx b3)] 68) = w_ := ⟨_, rfl⟩
    have hz_ : w3.heap.size = xb + 1 := by rw [← hw_, hxb_]; exact alloc_size _ _
    rw [hw_] at hal_ hb_
    rw [← hxb_] at hb_
    have Hw3 := Lib.hid hw_
    have Hx3 := Lib.hid hxb_
    have Ha3 := Lib.hid hal_
    have Hb3 := Lib.hid hb_
    have Hz3 := Lib.hid hz_
    clear hal_ hb_ hxb_ hw_ hz_
    have N2 := Lib.hid M2.out.bound
    replace H2 := Lib.hid (H2.out.trans (MStep.of_chg Ha3.out))
    replace M2 := Lib.hid (M2.out.keep Ha3.out)
    go_upto_region 7 with fail
    rw [Hw3.out, ← Hx3.out]
    go_wp2_with fail
    first | go_end0 | refine bodyPost_ret (results_none rfl _ _ _) rfl ?_
    exact ⟨F2, H2.out, s2, M2.out, .inl ⟨(), Hr2.out, rfl⟩⟩
  · rw [if_neg (by decide)] at hr
    have Hr0 := Lib.hid hr
    clear hr
    go_enter Tryz.func98, Tryz.ntmps98
    go_wp2_with fail
    refine (need_any 1 (by decide) M0.out W0.out.1.depth).mono ?_
    rintro e w1 ⟨F1, hs_, s1, hm_, (⟨a1, hr_, rfl⟩ | ⟨y, hr_, rfl⟩)⟩
    rotate_left
    · have hrj := Hr0.out
      rw [hr_] at hrj
      have Hf := Lib.hid (And.intro (H0.out.trans hs_) (And.intro hm_ hrj))
      clear hs_ hm_ hr_ hrj
      unfold quitP
      go_wp2_with fail
      exact ⟨rfl, F1, Hf.out.1, s1, Hf.out.2.1, .inr ⟨y, Hf.out.2.2, rfl⟩⟩
    have hrj := Hr0.out
    have hw_ := need_wf W0.out.1 1
    have hl_ := (need_len hr_).2
    rw [hr_] at hrj hw_
    rw [VR.then_ok] at hrj
    try dsimp only at hrj
    have H1 := Lib.hid (H0.out.trans hs_)
    have S1 := Lib.hid hs_
    have M1 := Lib.hid hm_
    have Hr1 := Lib.hid hrj
    have W1 := Lib.hid (show _ ∧ _ from hw_)
    have L1 := Lib.hid hl_
    clear hs_ hm_ hr_ hrj hw_ hl_
    go_wp2_with fail
    refine (pop_any M1.out W1.out.1.depth (by have := L1.out; omega)).mono ?_
    rintro e w2 ⟨F2, hs_, s2, hm_, (⟨⟨b1, b2, b3⟩, hr_, rfl⟩ | ⟨y, hr_, rfl⟩)⟩
    rotate_left
    · have hrj := Hr1.out
      rw [hr_] at hrj
      have Hf := Lib.hid (And.intro (H1.out.trans hs_) (And.intro hm_ hrj))
      clear hs_ hm_ hr_ hrj
      unfold quitP
      go_wp2_with fail
      exact ⟨rfl, F2, Hf.out.1, s2, Hf.out.2.1, .inr ⟨y, Hf.out.2.2, rfl⟩⟩
    have hrj := Hr1.out
    have hw_ := pop_wf W1.out.1
    have hl_ := (show s1.stack.length - 1 ≤ s2.stack.length by rw [pop_off hr_, off_len]; exact Nat.le_refl _)
    rw [hr_] at hrj hw_
    rw [VR.then_ok] at hrj
    try dsimp only at hrj
    have H2 := Lib.hid (H1.out.trans hs_)
    have S2 := Lib.hid hs_
    have M2 := Lib.hid hm_
    have Hr2 := Lib.hid hrj
    have W2 := Lib.hid (show _ ∧ _ from hw_)
    have L2 := Lib.hid hl_
    clear hs_ hm_ hr_ hrj hw_ hl_
    unfold valA
    simp only
    have L2 := Lib.hid (Nat.le_trans (Nat.sub_le_sub_right L1.out 1) L2.out)
    have hz := Hr2.out
    first | rw [if_pos rfl] at hz | rw [if_pos trivial] at hz | rw [if_pos (by assumption)] at hz
    replace Hr2 := Lib.hid hz
    clear hz
    have hal_ := (Chg.refl NoB w2).alloc (.cells #[.bool b1, .int .i64 b2, .string (tx b3)] 68)
    have hb_ := heap_alloc_new w2 (.cells #[.bool b1, .int .i64 b2, .string (tx b3)] 68)
    obtain ⟨xb, hxb_⟩ : ∃ b, b = w2.heap.size := ⟨_, rfl⟩
    obtain ⟨w3, hw_⟩ : ∃ w_, w2.alloc (.cells #[.bool b1, .int .i64 b2, .string (tx b3)] 68) = w_ := ⟨_, rfl⟩
    have hz_ : w3.heap.size = xb + 1 := by rw [← hw_, hxb_]; exact alloc_size _ _
    rw [hw_] at hal_ hb_
    rw [← hxb_] at hb_
    have Hw3 := Lib.hid hw_
    have Hx3 := Lib.hid hxb_
    have Ha3 := Lib.hid hal_
    have Hb3 := Lib.hid hb_
    have Hz3 := Lib.hid hz_
    clear hal_ hb_ hxb_ hw_ hz_
    have N2 := Lib.hid M2.out.bound
    replace H2 := Lib.hid (H2.out.trans (MStep.of_chg Ha3.out))
    replace M2 := Lib.hid (M2.out.keep Ha3.out)
    go_upto_region 7 with fail
    rw [Hw3.out, ← Hx3.out]
    obtain ⟨x0, x1, x2⟩ := var3 Hb3.out
    go_wp2_with fail
    refine (push_any (b1, b2, b3) M2.out W2.out.1.depth).mono ?_
    rintro e w4 ⟨F4, hs_, s4, hm_, (⟨a4, hr_, rfl⟩ | ⟨y, hr_, rfl⟩)⟩
    rotate_left
    · have hrj := Hr2.out
      rw [hr_] at hrj
      have Hf := Lib.hid (And.intro (H2.out.trans hs_) (And.intro hm_ hrj))
      clear hs_ hm_ hr_ hrj
      unfold quitP
      go_wp2_with fail
      exact ⟨rfl, F4, Hf.out.1, s4, Hf.out.2.1, .inr ⟨y, Hf.out.2.2, rfl⟩⟩
    have hrj := Hr2.out
    have hw_ := push_wf W2.out.1 W2.out.2
    have hl_ := trivial
    rw [hr_] at hrj hw_
    rw [VR.then_ok] at hrj
    try dsimp only at hrj
    have H4 := Lib.hid (H2.out.trans hs_)
    have S4 := Lib.hid hs_
    have M4 := Lib.hid hm_
    have Hr4 := Lib.hid hrj
    have W4 := Lib.hid (show _ ∧ _ from hw_)
    have L4 := Lib.hid hl_
    clear hs_ hm_ hr_ hrj hw_ hl_
    clear x0 x1 x2
    have X := Lib.hid (S4.out.box Hb3.out (Nat.le_of_eq Hx3.out.symm) N2.out)
    obtain ⟨x0, x1, x2⟩ := var3 X.out
    go_wp2_with fail
    refine (push_any (b1, b2, b3) M4.out W4.out.1.depth).mono ?_
    rintro e w5 ⟨F5, hs_, s5, hm_, (⟨a, hr_, rfl⟩ | ⟨y, hr_, rfl⟩)⟩
    rotate_left
    · have hrj := Hr4.out
      rw [hr_] at hrj
      have Hf := Lib.hid (And.intro (H4.out.trans hs_) (And.intro hm_ hrj))
      clear hs_ hm_ hr_ hrj
      unfold quitP
      go_wp2_with fail
      exact ⟨rfl, F5, Hf.out.1, s5, Hf.out.2.1, .inr ⟨y, Hf.out.2.2, rfl⟩⟩
    have Hf := Lib.hid (And.intro (H4.out.trans hs_) (And.intro hm_ (Hr4.out.trans hr_)))
    clear hs_ hm_ hr_
    go_wp2_with fail
    first | go_end0 | refine bodyPost_ret (results_none rfl _ _ _) rfl ?_
    exact ⟨F5, Hf.out.1, s5, Hf.out.2.1, .inl ⟨(), Hf.out.2.2, rfl⟩⟩
  · rw [if_pos rfl] at hr
    have Hr0 := Lib.hid hr
    clear hr
    go_enter Tryz.func98, Tryz.ntmps98
    go_wp2_with fail
    refine (need_any 2 (by decide) M0.out W0.out.1.depth).mono ?_
    rintro e w1 ⟨F1, hs_, s1, hm_, (⟨a1, hr_, rfl⟩ | ⟨y, hr_, rfl⟩)⟩
    rotate_left
    · have hrj := Hr0.out
      rw [hr_] at hrj
      have Hf := Lib.hid (And.intro (H0.out.trans hs_) (And.intro hm_ hrj))
      clear hs_ hm_ hr_ hrj
      unfold quitP
      go_wp2_with fail
      exact ⟨rfl, F1, Hf.out.1, s1, Hf.out.2.1, .inr ⟨y, Hf.out.2.2, rfl⟩⟩
    have hrj := Hr0.out
    have hw_ := need_wf W0.out.1 2
    have hl_ := (need_len hr_).2
    rw [hr_] at hrj hw_
    rw [VR.then_ok] at hrj
    try dsimp only at hrj
    have H1 := Lib.hid (H0.out.trans hs_)
    have S1 := Lib.hid hs_
    have M1 := Lib.hid hm_
    have Hr1 := Lib.hid hrj
    have W1 := Lib.hid (show _ ∧ _ from hw_)
    have L1 := Lib.hid hl_
    clear hs_ hm_ hr_ hrj hw_ hl_
    go_wp2_with fail
    refine (pop_any M1.out W1.out.1.depth (by have := L1.out; omega)).mono ?_
    rintro e w2 ⟨F2, hs_, s2, hm_, (⟨⟨b1, b2, b3⟩, hr_, rfl⟩ | ⟨y, hr_, rfl⟩)⟩
    rotate_left
    · have hrj := Hr1.out
      rw [hr_] at hrj
      have Hf := Lib.hid (And.intro (H1.out.trans hs_) (And.intro hm_ hrj))
      clear hs_ hm_ hr_ hrj
      unfold quitP
      go_wp2_with fail
      exact ⟨rfl, F2, Hf.out.1, s2, Hf.out.2.1, .inr ⟨y, Hf.out.2.2, rfl⟩⟩
    have hrj := Hr1.out
    have hw_ := pop_wf W1.out.1
    have hl_ := (show s1.stack.length - 1 ≤ s2.stack.length by rw [pop_off hr_, off_len]; exact Nat.le_refl _)
    rw [hr_] at hrj hw_
    rw [VR.then_ok] at hrj
    try dsimp only at hrj
    have H2 := Lib.hid (H1.out.trans hs_)
    have S2 := Lib.hid hs_
    have M2 := Lib.hid hm_
    have Hr2 := Lib.hid hrj
    have W2 := Lib.hid (show _ ∧ _ from hw_)
    have L2 := Lib.hid hl_
    clear hs_ hm_ hr_ hrj hw_ hl_
    unfold valA
    simp only
    have L2 := Lib.hid (Nat.le_trans (Nat.sub_le_sub_right L1.out 1) L2.out)
    go_wp2_with fail
    refine (pop_any M2.out W2.out.1.depth (by have := L2.out; omega)).mono ?_
    rintro e w3 ⟨F3, hs_, s3, hm_, (⟨⟨a1, a2, a3⟩, hr_, rfl⟩ | ⟨y, hr_, rfl⟩)⟩
    rotate_left
    · have hrj := Hr2.out
      rw [hr_] at hrj
      have Hf := Lib.hid (And.intro (H2.out.trans hs_) (And.intro hm_ hrj))
      clear hs_ hm_ hr_ hrj
      unfold quitP
      go_wp2_with fail
      exact ⟨rfl, F3, Hf.out.1, s3, Hf.out.2.1, .inr ⟨y, Hf.out.2.2, rfl⟩⟩
    have hrj := Hr2.out
    have hw_ := pop_wf W2.out.1
    have hl_ := (show s2.stack.length - 1 ≤ s3.stack.length by rw [pop_off hr_, off_len]; exact Nat.le_refl _)
    rw [hr_] at hrj hw_
    rw [VR.then_ok] at hrj
    try dsimp only at hrj
    have H3 := Lib.hid (H2.out.trans hs_)
    have S3 := Lib.hid hs_
    have M3 := Lib.hid hm_
    have Hr3 := Lib.hid hrj
    have W3 := Lib.hid (show _ ∧ _ from hw_)
    have L3 := Lib.hid hl_
    clear hs_ hm_ hr_ hrj hw_ hl_
    unfold valA
    simp only
    have L3 := Lib.hid (Nat.le_trans (Nat.sub_le_sub_right L2.out 1) L3.out)
    have hal_ := (Chg.refl NoB w3).alloc (.cells #[.bool b1, .int .i64 b2, .string (tx b3)] 68)
    have hb_ := heap_alloc_new w3 (.cells #[.bool b1, .int .i64 b2, .string (tx b3)] 68)
    obtain ⟨xb, hxb_⟩ : ∃ b, b = w3.heap.size := ⟨_, rfl⟩
    obtain ⟨w4, hw_⟩ : ∃ w_, w3.alloc (.cells #[.bool b1, .int .i64 b2, .string (tx b3)] 68) = w_ := ⟨_, rfl⟩
    have hz_ : w4.heap.size = xb + 1 := by rw [← hw_, hxb_]; exact alloc_size _ _
    rw [hw_] at hal_ hb_
    rw [← hxb_] at hb_
    have Hw4 := Lib.hid hw_
    have Hx4 := Lib.hid hxb_
    have Ha4 := Lib.hid hal_
    have Hb4 := Lib.hid hb_
    have Hz4 := Lib.hid hz_
    clear hal_ hb_ hxb_ hw_ hz_
    have N3 := Lib.hid M3.out.bound
    replace H3 := Lib.hid (H3.out.trans (MStep.of_chg Ha4.out))
    replace M3 := Lib.hid (M3.out.keep Ha4.out)
    have hal_ := (Chg.refl NoB w4).alloc (.cells #[.bool a1, .int .i64 a2, .string (tx a3)] 68)
    have hb_ := heap_alloc_new w4 (.cells #[.bool a1, .int .i64 a2, .string (tx a3)] 68)
    obtain ⟨yb, hxb_⟩ : ∃ b, b = w4.heap.size := ⟨_, rfl⟩
    obtain ⟨w5, hw_⟩ : ∃ w_, w4.alloc (.cells #[.bool a1, .int .i64 a2, .string (tx a3)] 68) = w_ := ⟨_, rfl⟩
    have hz_ : w5.heap.size = yb + 1 := by rw [← hw_, hxb_]; exact alloc_size _ _
    rw [hw_] at hal_ hb_
    rw [← hxb_] at hb_
    have Hw5 := Lib.hid hw_
    have Hx5 := Lib.hid hxb_
    have Ha5 := Lib.hid hal_
    have Hb5 := Lib.hid hb_
    have Hz5 := Lib.hid hz_
    clear hal_ hb_ hxb_ hw_ hz_
    have N4 := Lib.hid N3.out
    have N3 := Lib.hid M3.out.bound
    replace H3 := Lib.hid (H3.out.trans (MStep.of_chg Ha5.out))
    replace M3 := Lib.hid (M3.out.keep Ha5.out)
    have hxy : xb + 1 = yb := by rw [Hx5.out, Hz4.out]
    have Hxy := Lib.hid hxy
    have Hyb := Lib.hid (show w3.heap.size ≤ yb by have := Hx4.out; omega)
    clear hxy
    go_upto_region 3 with fail
    rw [Hw4.out, Hw5.out, ← Hx4.out]
    rw [Hxy.out]
    obtain ⟨x0, x1, x2⟩ := var3 (row_kept Ha5.out Hb4.out id)
    go_wp2_with fail
    refine (push_any (b1, b2, b3) M3.out W3.out.1.depth).mono ?_
    rintro e w6 ⟨F6, hs_, s6, hm_, (⟨a6, hr_, rfl⟩ | ⟨y, hr_, rfl⟩)⟩
    rotate_left
    · have hrj := Hr3.out
      rw [hr_] at hrj
      have Hf := Lib.hid (And.intro (H3.out.trans hs_) (And.intro hm_ hrj))
      clear hs_ hm_ hr_ hrj
      unfold quitP
      go_wp2_with fail
      exact ⟨rfl, F6, Hf.out.1, s6, Hf.out.2.1, .inr ⟨y, Hf.out.2.2, rfl⟩⟩
    have hrj := Hr3.out
    have hw_ := push_wf W3.out.1 W2.out.2
    have hl_ := trivial
    rw [hr_] at hrj hw_
    rw [VR.then_ok] at hrj
    try dsimp only at hrj
    have H6 := Lib.hid (H3.out.trans hs_)
    have S6 := Lib.hid hs_
    have M6 := Lib.hid hm_
    have Hr6 := Lib.hid hrj
    have W6 := Lib.hid (show _ ∧ _ from hw_)
    have L6 := Lib.hid hl_
    clear hs_ hm_ hr_ hrj hw_ hl_
    clear x0 x1 x2
    have X := Lib.hid (S6.out.box Hb5.out Hyb.out N4.out)
    obtain ⟨x0, x1, x2⟩ := var3 X.out
    go_wp2_with fail
    refine (push_any (a1, a2, a3) M6.out W6.out.1.depth).mono ?_
    rintro e w7 ⟨F7, hs_, s7, hm_, (⟨a, hr_, rfl⟩ | ⟨y, hr_, rfl⟩)⟩
    rotate_left
    · have hrj := Hr6.out
      rw [hr_] at hrj
      have Hf := Lib.hid (And.intro (H6.out.trans hs_) (And.intro hm_ hrj))
      clear hs_ hm_ hr_ hrj
      unfold quitP
      go_wp2_with fail
      exact ⟨rfl, F7, Hf.out.1, s7, Hf.out.2.1, .inr ⟨y, Hf.out.2.2, rfl⟩⟩
    have Hf := Lib.hid (And.intro (H6.out.trans hs_) (And.intro hm_ (Hr6.out.trans hr_)))
    clear hs_ hm_ hr_
    go_wp2_with fail
    first | go_end0 | refine bodyPost_ret (results_none rfl _ _ _) rfl ?_
    exact ⟨F7, Hf.out.1, s7, Hf.out.2.1, .inl ⟨(), Hf.out.2.2, rfl⟩⟩
set_option maxHeartbeats 1000000 in
theorem reckon_any (op a b : Int) (hop : 9 ≤ op ∧ op ≤ 13) (ha : -9223372036854775808 ≤ a ∧ a ≤ 9223372036854775807) (hb : -9223372036854775808 ≤ b ∧ b ≤ 9223372036854775807) (w : World) :
    Calls Tryz.prog 100 #[.int .i64 op, .int .i64 a, .int .i64 b] w fun e w' => w = w' ∧ ((∃ k, reckF op a b = some k ∧ e = .returned (.int .i64 k)) ∨ (reckF op a b = none ∧ e = quitP 42)) := by
  have HG := Lib.hid (give_any 42 w)
  obtain ⟨r, hr⟩ : ∃ r, r = reckF op a b := ⟨_, rfl⟩
  rw [← hr]
  unfold reckF at hr
  have h5 : op = 9 ∨ op = 10 ∨ op = 11 ∨ op = 12 ∨ op = 13 := by omega
  rcases h5 with rfl | rfl | rfl | rfl | rfl
  · rw [if_pos rfl] at hr
    have Hr := Lib.hid hr
    clear hr ha hb
    go_enter Tryz.func100, Tryz.ntmps100
    go_wp2_with fail
    go_ret
    exact ⟨rfl, .inl ⟨_, Hr.out, rfl⟩⟩
  · rw [if_neg (by decide), if_pos rfl] at hr
    have Hr := Lib.hid hr
    clear hr ha hb
    go_enter Tryz.func100, Tryz.ntmps100
    go_wp2_with fail
    go_ret
    exact ⟨rfl, .inl ⟨_, Hr.out, rfl⟩⟩
  · rw [if_neg (by decide), if_neg (by decide), if_pos rfl] at hr
    have Hr := Lib.hid hr
    clear hr ha hb
    go_enter Tryz.func100, Tryz.ntmps100
    go_wp2_with fail
    go_ret
    exact ⟨rfl, .inl ⟨_, Hr.out, rfl⟩⟩
  all_goals
    rw [if_neg (by decide), if_neg (by decide), if_neg (by decide)] at hr
    by_cases hz : b = 0
    · rw [if_pos hz] at hr
      subst hz
      have Hr := Lib.hid hr
      clear hr ha hb
      go_enter Tryz.func100, Tryz.ntmps100
      go_wp2_with fail
      refine HG.out.mono ?_
      rintro e w' ⟨rfl, rfl⟩
      unfold quitP
      go_wp2_with fail
      exact ⟨rfl, rfl, .inr ⟨Hr.out, rfl⟩⟩
    · rw [if_neg hz] at hr
      first | rw [if_pos rfl] at hr | rw [if_neg (by decide)] at hr
      have Hr := Lib.hid hr
      have hz' : (b == 0) = false := by rw [beq_eq_false_iff_ne]; exact hz
      clear hr ha hb
      go_enter Tryz.func100, Tryz.ntmps100
      go_wp2_with fail
      go_ret
      exact ⟨rfl, .inl ⟨_, Hr.out, rfl⟩⟩
theorem eqV (a b : ValL) (w : World) : (binOp .eql 68 (valA a) (valA b)).run Tryz.prog w = .ok (.bool (decide (a = b))) w := by
  obtain ⟨a1, a2, a3⟩ := a
  obtain ⟨b1, b2, b3⟩ := b
  unfold valA
  go_simp
  simp only [txl_iff]
  by_cases h1 : a1 = b1
  · by_cases h2 : a2 = b2
    · by_cases h3 : a3 = b3
      · simp [h1, h2, h3]
      · simp [h1, h2, h3]
    · simp [h1, h2]
  · simp [h1]
set_option maxHeartbeats 4000000 in
set_option maxRecDepth 20000 in
theorem ask_any (op : Int) {w0 : World} {lo mb : Nat} {pv vv : Value} {s0 : MSt} {st : Nat} {ft : Int} {F0 : Value × Value} {len : Int} (hm : Mach w0 lo mb pv vv s0 st ft F0) (wf : WfS len s0) (hop : op = 14 ∨ op = 15 ∨ op = 16) :
    Calls Tryz.prog 101 #[.pointer (some ⟨mb, 0, none⟩), .int .i64 op] w0 (VOut lo mb pv vv st ft F0 (askR op s0) (fun _ => .tuple #[]) w0) := by
  obtain ⟨r, hr⟩ : ∃ r, r = askR op s0 := ⟨_, rfl⟩
  rw [← hr]
  have H0 := Lib.hid (MStep.refl mb F0 w0)
  have M0 := Lib.hid hm
  have W0 := Lib.hid (And.intro wf (trivial : True))
  unfold askR at hr
  clear hm wf
  have HG := Lib.hid (fun w => give_any 41 w)
  rcases hop with rfl | rfl | rfl
  · rw [if_neg (by decide)] at hr
    have Hr0 := Lib.hid hr
    clear hr
    go_enter Tryz.func101, Tryz.ntmps101
    go_wp2_with fail
    refine (need_any 2 (by decide) M0.out W0.out.1.depth).mono ?_
    rintro e w1 ⟨F1, hs_, s1, hm_, (⟨a1, hr_, rfl⟩ | ⟨y, hr_, rfl⟩)⟩
    rotate_left
    · have hrj := Hr0.out
      rw [hr_] at hrj
      have Hf := Lib.hid (And.intro (H0.out.trans hs_) (And.intro hm_ hrj))
      clear hs_ hm_ hr_ hrj
      unfold quitP
      go_wp2_with fail
      exact ⟨rfl, F1, Hf.out.1, s1, Hf.out.2.1, .inr ⟨y, Hf.out.2.2, rfl⟩⟩
    have hrj := Hr0.out
    have hw_ := need_wf W0.out.1 2
    have hl_ := (need_len hr_).2
    rw [hr_] at hrj hw_
    rw [VR.then_ok] at hrj
    try dsimp only at hrj
    have H1 := Lib.hid (H0.out.trans hs_)
    have S1 := Lib.hid hs_
    have M1 := Lib.hid hm_
    have Hr1 := Lib.hid hrj
    have W1 := Lib.hid (show _ ∧ _ from hw_)
    have L1 := Lib.hid hl_
    clear hs_ hm_ hr_ hrj hw_ hl_
    go_wp2_with fail
    refine (pop_any M1.out W1.out.1.depth (by have := L1.out; omega)).mono ?_
    rintro e w2 ⟨F2, hs_, s2, hm_, (⟨⟨b1, b2, b3⟩, hr_, rfl⟩ | ⟨y, hr_, rfl⟩)⟩
    rotate_left
    · have hrj := Hr1.out
      rw [hr_] at hrj
      have Hf := Lib.hid (And.intro (H1.out.trans hs_) (And.intro hm_ hrj))
      clear hs_ hm_ hr_ hrj
      unfold quitP
      go_wp2_with fail
      exact ⟨rfl, F2, Hf.out.1, s2, Hf.out.2.1, .inr ⟨y, Hf.out.2.2, rfl⟩⟩
    have hrj := Hr1.out
    have hw_ := pop_wf W1.out.1
    have hl_ := (show s1.stack.length - 1 ≤ s2.stack.length by rw [pop_off hr_, off_len]; exact Nat.le_refl _)
    rw [hr_] at hrj hw_
    rw [VR.then_ok] at hrj
    try dsimp only at hrj
    have H2 := Lib.hid (H1.out.trans hs_)
    have S2 := Lib.hid hs_
    have M2 := Lib.hid hm_
    have Hr2 := Lib.hid hrj
    have W2 := Lib.hid (show _ ∧ _ from hw_)
    have L2 := Lib.hid hl_
    clear hs_ hm_ hr_ hrj hw_ hl_
    unfold valA
    simp only
    have L2 := Lib.hid (Nat.le_trans (Nat.sub_le_sub_right L1.out 1) L2.out)
    go_wp2_with fail
    refine (pop_any M2.out W2.out.1.depth (by have := L2.out; omega)).mono ?_
    rintro e w3 ⟨F3, hs_, s3, hm_, (⟨⟨a1, a2, a3⟩, hr_, rfl⟩ | ⟨y, hr_, rfl⟩)⟩
    rotate_left
    · have hrj := Hr2.out
      rw [hr_] at hrj
      have Hf := Lib.hid (And.intro (H2.out.trans hs_) (And.intro hm_ hrj))
      clear hs_ hm_ hr_ hrj
      unfold quitP
      go_wp2_with fail
      exact ⟨rfl, F3, Hf.out.1, s3, Hf.out.2.1, .inr ⟨y, Hf.out.2.2, rfl⟩⟩
    have hrj := Hr2.out
    have hw_ := pop_wf W2.out.1
    have hl_ := (show s2.stack.length - 1 ≤ s3.stack.length by rw [pop_off hr_, off_len]; exact Nat.le_refl _)
    rw [hr_] at hrj hw_
    rw [VR.then_ok] at hrj
    try dsimp only at hrj
    have H3 := Lib.hid (H2.out.trans hs_)
    have S3 := Lib.hid hs_
    have M3 := Lib.hid hm_
    have Hr3 := Lib.hid hrj
    have W3 := Lib.hid (show _ ∧ _ from hw_)
    have L3 := Lib.hid hl_
    clear hs_ hm_ hr_ hrj hw_ hl_
    unfold valA
    simp only
    have L3 := Lib.hid (Nat.le_trans (Nat.sub_le_sub_right L2.out 1) L3.out)
    have hz := Hr3.out
    rw [if_neg (by first | assumption | decide | omega)] at hz
    replace Hr3 := Lib.hid hz
    clear hz
    have hal_ := (Chg.refl NoB w3).alloc (.cells #[.bool b1, .int .i64 b2, .string (tx b3)] 68)
    have hb_ := heap_alloc_new w3 (.cells #[.bool b1, .int .i64 b2, .string (tx b3)] 68)
    obtain ⟨xb, hxb_⟩ : ∃ b, b = w3.heap.size := ⟨_, rfl⟩
    obtain ⟨w4, hw_⟩ : ∃ w_, w3.alloc (.cells #[.bool b1, .int .i64 b2, .string (tx b3)] 68) = w_ := ⟨_, rfl⟩
    have hz_ : w4.heap.size = xb + 1 := by rw [← hw_, hxb_]; exact alloc_size _ _
    rw [hw_] at hal_ hb_
    rw [← hxb_] at hb_
    have Hw4 := Lib.hid hw_
    have Hx4 := Lib.hid hxb_
    have Ha4 := Lib.hid hal_
    have Hb4 := Lib.hid hb_
    have Hz4 := Lib.hid hz_
    clear hal_ hb_ hxb_ hw_ hz_
    have N3 := Lib.hid M3.out.bound
    replace H3 := Lib.hid (H3.out.trans (MStep.of_chg Ha4.out))
    replace M3 := Lib.hid (M3.out.keep Ha4.out)
    have hal_ := (Chg.refl NoB w4).alloc (.cells #[.bool a1, .int .i64 a2, .string (tx a3)] 68)
    have hb_ := heap_alloc_new w4 (.cells #[.bool a1, .int .i64 a2, .string (tx a3)] 68)
    obtain ⟨yb, hxb_⟩ : ∃ b, b = w4.heap.size := ⟨_, rfl⟩
    obtain ⟨w5, hw_⟩ : ∃ w_, w4.alloc (.cells #[.bool a1, .int .i64 a2, .string (tx a3)] 68) = w_ := ⟨_, rfl⟩
    have hz_ : w5.heap.size = yb + 1 := by rw [← hw_, hxb_]; exact alloc_size _ _
    rw [hw_] at hal_ hb_
    rw [← hxb_] at hb_
    have Hw5 := Lib.hid hw_
    have Hx5 := Lib.hid hxb_
    have Ha5 := Lib.hid hal_
    have Hb5 := Lib.hid hb_
    have Hz5 := Lib.hid hz_
    clear hal_ hb_ hxb_ hw_ hz_
    have N3 := Lib.hid M3.out.bound
    replace H3 := Lib.hid (H3.out.trans (MStep.of_chg Ha5.out))
    replace M3 := Lib.hid (M3.out.keep Ha5.out)
    have hxy : xb + 1 = yb := by rw [Hx5.out, Hz4.out]
    have Hxy := Lib.hid hxy
    clear hxy
    go_upto_region 5 with fail
    rw [Hw4.out, Hw5.out, ← Hx4.out]
    rw [Hxy.out]
    obtain ⟨x0, x1, x2⟩ := var3 (row_kept Ha5.out Hb4.out id)
    obtain ⟨y0, y1, y2⟩ := var3 Hb5.out
    have hz := Hr3.out
    try simp only at hz
    by_cases hk : a1 = b1
    · rw [if_pos hk] at hz
      replace Hr3 := Lib.hid hz
      have hls : Op.bytesLess (tx a3).toList (tx b3).toList = bl a3 b3 := by rw [Lib.toList_data, Lib.toList_data, tx_list, tx_list]; rfl
      subst hk
      obtain ⟨z, hzz⟩ : ∃ z, z = bl a3 b3 := ⟨_, rfl⟩
      rw [← hzz] at hls Hr3
      clear hz hzz
      by_cases hlt : a2 < b2
      · rw [decide_eq_true hlt, Bool.true_or] at Hr3
        go_wp2_with fail
        refine (pushb_any true M3.out W3.out.1.depth).mono ?_
        rintro e w6 ⟨F6, hs_, s6, hm_, (⟨a, hr_, rfl⟩ | ⟨y, hr_, rfl⟩)⟩
        rotate_left
        · have hrj := Hr3.out
          rw [hr_] at hrj
          have Hf := Lib.hid (And.intro (H3.out.trans hs_) (And.intro hm_ hrj))
          clear hs_ hm_ hr_ hrj
          unfold quitP
          go_wp2_with fail
          exact ⟨rfl, F6, Hf.out.1, s6, Hf.out.2.1, .inr ⟨y, Hf.out.2.2, rfl⟩⟩
        have Hf := Lib.hid (And.intro (H3.out.trans hs_) (And.intro hm_ (Hr3.out.trans hr_)))
        clear hs_ hm_ hr_
        go_wp2_with fail
        first | go_end0 | refine bodyPost_ret (results_none rfl _ _ _) rfl ?_
        exact ⟨F6, Hf.out.1, s6, Hf.out.2.1, .inl ⟨(), Hf.out.2.2, rfl⟩⟩
      · rw [decide_eq_false hlt, Bool.false_or] at Hr3
        go_wp2_with fail
        refine (pushb_any z M3.out W3.out.1.depth).mono ?_
        rintro e w6 ⟨F6, hs_, s6, hm_, (⟨a, hr_, rfl⟩ | ⟨y, hr_, rfl⟩)⟩
        rotate_left
        · have hrj := Hr3.out
          rw [hr_] at hrj
          have Hf := Lib.hid (And.intro (H3.out.trans hs_) (And.intro hm_ hrj))
          clear hs_ hm_ hr_ hrj
          unfold quitP
          go_wp2_with fail
          exact ⟨rfl, F6, Hf.out.1, s6, Hf.out.2.1, .inr ⟨y, Hf.out.2.2, rfl⟩⟩
        have Hf := Lib.hid (And.intro (H3.out.trans hs_) (And.intro hm_ (Hr3.out.trans hr_)))
        clear hs_ hm_ hr_
        go_wp2_with fail
        first | go_end0 | refine bodyPost_ret (results_none rfl _ _ _) rfl ?_
        exact ⟨F6, Hf.out.1, s6, Hf.out.2.1, .inl ⟨(), Hf.out.2.2, rfl⟩⟩
    · rw [if_neg hk] at hz
      replace Hr3 := Lib.hid hz
      have hk' : (a1 == b1) = false := by rw [beq_eq_false_iff_ne]; exact hk
      clear hz
      go_wp2_with fail
      refine (HG.out _).mono ?_
      rintro e w' ⟨rfl, rfl⟩
      unfold quitP
      go_wp2_with fail
      exact ⟨rfl, F3, H3.out, s3, M3.out, .inr ⟨41, Hr3.out, rfl⟩⟩
  · rw [if_neg (by decide)] at hr
    have Hr0 := Lib.hid hr
    clear hr
    go_enter Tryz.func101, Tryz.ntmps101
    go_wp2_with fail
    refine (need_any 2 (by decide) M0.out W0.out.1.depth).mono ?_
    rintro e w1 ⟨F1, hs_, s1, hm_, (⟨a1, hr_, rfl⟩ | ⟨y, hr_, rfl⟩)⟩
    rotate_left
    · have hrj := Hr0.out
      rw [hr_] at hrj
      have Hf := Lib.hid (And.intro (H0.out.trans hs_) (And.intro hm_ hrj))
      clear hs_ hm_ hr_ hrj
      unfold quitP
      go_wp2_with fail
      exact ⟨rfl, F1, Hf.out.1, s1, Hf.out.2.1, .inr ⟨y, Hf.out.2.2, rfl⟩⟩
    have hrj := Hr0.out
    have hw_ := need_wf W0.out.1 2
    have hl_ := (need_len hr_).2
    rw [hr_] at hrj hw_
    rw [VR.then_ok] at hrj
    try dsimp only at hrj
    have H1 := Lib.hid (H0.out.trans hs_)
    have S1 := Lib.hid hs_
    have M1 := Lib.hid hm_
    have Hr1 := Lib.hid hrj
    have W1 := Lib.hid (show _ ∧ _ from hw_)
    have L1 := Lib.hid hl_
    clear hs_ hm_ hr_ hrj hw_ hl_
    go_wp2_with fail
    refine (pop_any M1.out W1.out.1.depth (by have := L1.out; omega)).mono ?_
    rintro e w2 ⟨F2, hs_, s2, hm_, (⟨⟨b1, b2, b3⟩, hr_, rfl⟩ | ⟨y, hr_, rfl⟩)⟩
    rotate_left
    · have hrj := Hr1.out
      rw [hr_] at hrj
      have Hf := Lib.hid (And.intro (H1.out.trans hs_) (And.intro hm_ hrj))
      clear hs_ hm_ hr_ hrj
      unfold quitP
      go_wp2_with fail
      exact ⟨rfl, F2, Hf.out.1, s2, Hf.out.2.1, .inr ⟨y, Hf.out.2.2, rfl⟩⟩
    have hrj := Hr1.out
    have hw_ := pop_wf W1.out.1
    have hl_ := (show s1.stack.length - 1 ≤ s2.stack.length by rw [pop_off hr_, off_len]; exact Nat.le_refl _)
    rw [hr_] at hrj hw_
    rw [VR.then_ok] at hrj
    try dsimp only at hrj
    have H2 := Lib.hid (H1.out.trans hs_)
    have S2 := Lib.hid hs_
    have M2 := Lib.hid hm_
    have Hr2 := Lib.hid hrj
    have W2 := Lib.hid (show _ ∧ _ from hw_)
    have L2 := Lib.hid hl_
    clear hs_ hm_ hr_ hrj hw_ hl_
    unfold valA
    simp only
    have L2 := Lib.hid (Nat.le_trans (Nat.sub_le_sub_right L1.out 1) L2.out)
    go_wp2_with fail
    refine (pop_any M2.out W2.out.1.depth (by have := L2.out; omega)).mono ?_
    rintro e w3 ⟨F3, hs_, s3, hm_, (⟨⟨a1, a2, a3⟩, hr_, rfl⟩ | ⟨y, hr_, rfl⟩)⟩
    rotate_left
    · have hrj := Hr2.out
      rw [hr_] at hrj
      have Hf := Lib.hid (And.intro (H2.out.trans hs_) (And.intro hm_ hrj))
      clear hs_ hm_ hr_ hrj
      unfold quitP
      go_wp2_with fail
      exact ⟨rfl, F3, Hf.out.1, s3, Hf.out.2.1, .inr ⟨y, Hf.out.2.2, rfl⟩⟩
    have hrj := Hr2.out
    have hw_ := pop_wf W2.out.1
    have hl_ := (show s2.stack.length - 1 ≤ s3.stack.length by rw [pop_off hr_, off_len]; exact Nat.le_refl _)
    rw [hr_] at hrj hw_
    rw [VR.then_ok] at hrj
    try dsimp only at hrj
    have H3 := Lib.hid (H2.out.trans hs_)
    have S3 := Lib.hid hs_
    have M3 := Lib.hid hm_
    have Hr3 := Lib.hid hrj
    have W3 := Lib.hid (show _ ∧ _ from hw_)
    have L3 := Lib.hid hl_
    clear hs_ hm_ hr_ hrj hw_ hl_
    unfold valA
    simp only
    have L3 := Lib.hid (Nat.le_trans (Nat.sub_le_sub_right L2.out 1) L3.out)
    have hz := Hr3.out
    first | rw [if_pos rfl] at hz | rw [if_pos trivial] at hz | rw [if_pos (by assumption)] at hz
    replace Hr3 := Lib.hid hz
    clear hz
    have hal_ := (Chg.refl NoB w3).alloc (.cells #[.bool b1, .int .i64 b2, .string (tx b3)] 68)
    have hb_ := heap_alloc_new w3 (.cells #[.bool b1, .int .i64 b2, .string (tx b3)] 68)
    obtain ⟨xb, hxb_⟩ : ∃ b, b = w3.heap.size := ⟨_, rfl⟩
    obtain ⟨w4, hw_⟩ : ∃ w_, w3.alloc (.cells #[.bool b1, .int .i64 b2, .string (tx b3)] 68) = w_ := ⟨_, rfl⟩
    have hz_ : w4.heap.size = xb + 1 := by rw [← hw_, hxb_]; exact alloc_size _ _
    rw [hw_] at hal_ hb_
    rw [← hxb_] at hb_
    have Hw4 := Lib.hid hw_
    have Hx4 := Lib.hid hxb_
    have Ha4 := Lib.hid hal_
    have Hb4 := Lib.hid hb_
    have Hz4 := Lib.hid hz_
    clear hal_ hb_ hxb_ hw_ hz_
    have N3 := Lib.hid M3.out.bound
    replace H3 := Lib.hid (H3.out.trans (MStep.of_chg Ha4.out))
    replace M3 := Lib.hid (M3.out.keep Ha4.out)
    have hal_ := (Chg.refl NoB w4).alloc (.cells #[.bool a1, .int .i64 a2, .string (tx a3)] 68)
    have hb_ := heap_alloc_new w4 (.cells #[.bool a1, .int .i64 a2, .string (tx a3)] 68)
    obtain ⟨yb, hxb_⟩ : ∃ b, b = w4.heap.size := ⟨_, rfl⟩
    obtain ⟨w5, hw_⟩ : ∃ w_, w4.alloc (.cells #[.bool a1, .int .i64 a2, .string (tx a3)] 68) = w_ := ⟨_, rfl⟩
    have hz_ : w5.heap.size = yb + 1 := by rw [← hw_, hxb_]; exact alloc_size _ _
    rw [hw_] at hal_ hb_
    rw [← hxb_] at hb_
    have Hw5 := Lib.hid hw_
    have Hx5 := Lib.hid hxb_
    have Ha5 := Lib.hid hal_
    have Hb5 := Lib.hid hb_
    have Hz5 := Lib.hid hz_
    clear hal_ hb_ hxb_ hw_ hz_
    have N3 := Lib.hid M3.out.bound
    replace H3 := Lib.hid (H3.out.trans (MStep.of_chg Ha5.out))
    replace M3 := Lib.hid (M3.out.keep Ha5.out)
    have hxy : xb + 1 = yb := by rw [Hx5.out, Hz4.out]
    have Hxy := Lib.hid hxy
    clear hxy
    go_upto_region 5 with fail
    rw [Hw4.out, Hw5.out, ← Hx4.out]
    rw [Hxy.out]
    obtain ⟨x0, x1, x2⟩ := var3 (row_kept Ha5.out Hb4.out id)
    obtain ⟨y0, y1, y2⟩ := var3 Hb5.out
    have heq := fun w => eqV (a1, a2, a3) (b1, b2, b3) w
    unfold valA at heq
    simp only at heq
    generalize decide ((a1, a2, a3) = (b1, b2, b3)) = z at *
    go_wp2_with fail
    refine (pushb_any _ M3.out W3.out.1.depth).mono ?_
    rintro e w6 ⟨F6, hs_, s6, hm_, (⟨a, hr_, rfl⟩ | ⟨y, hr_, rfl⟩)⟩
    rotate_left
    · have hrj := Hr3.out
      rw [hr_] at hrj
      have Hf := Lib.hid (And.intro (H3.out.trans hs_) (And.intro hm_ hrj))
      clear hs_ hm_ hr_ hrj
      unfold quitP
      go_wp2_with fail
      exact ⟨rfl, F6, Hf.out.1, s6, Hf.out.2.1, .inr ⟨y, Hf.out.2.2, rfl⟩⟩
    have Hf := Lib.hid (And.intro (H3.out.trans hs_) (And.intro hm_ (Hr3.out.trans hr_)))
    clear hs_ hm_ hr_
    go_wp2_with fail
    first | go_end0 | refine bodyPost_ret (results_none rfl _ _ _) rfl ?_
    exact ⟨F6, Hf.out.1, s6, Hf.out.2.1, .inl ⟨(), Hf.out.2.2, rfl⟩⟩
  · rw [if_pos rfl] at hr
    have Hr0 := Lib.hid hr
    clear hr
    go_enter Tryz.func101, Tryz.ntmps101
    go_wp2_with fail
    refine (need_any 1 (by decide) M0.out W0.out.1.depth).mono ?_
    rintro e w1 ⟨F1, hs_, s1, hm_, (⟨a1, hr_, rfl⟩ | ⟨y, hr_, rfl⟩)⟩
    rotate_left
    · have hrj := Hr0.out
      rw [hr_] at hrj
      have Hf := Lib.hid (And.intro (H0.out.trans hs_) (And.intro hm_ hrj))
      clear hs_ hm_ hr_ hrj
      unfold quitP
      go_wp2_with fail
      exact ⟨rfl, F1, Hf.out.1, s1, Hf.out.2.1, .inr ⟨y, Hf.out.2.2, rfl⟩⟩
    have hrj := Hr0.out
    have hw_ := need_wf W0.out.1 1
    have hl_ := (need_len hr_).2
    rw [hr_] at hrj hw_
    rw [VR.then_ok] at hrj
    try dsimp only at hrj
    have H1 := Lib.hid (H0.out.trans hs_)
    have S1 := Lib.hid hs_
    have M1 := Lib.hid hm_
    have Hr1 := Lib.hid hrj
    have W1 := Lib.hid (show _ ∧ _ from hw_)
    have L1 := Lib.hid hl_
    clear hs_ hm_ hr_ hrj hw_ hl_
    go_wp2_with fail
    refine (num_any M1.out W1.out.1.depth (by have := L1.out; omega)).mono ?_
    rintro e w2 ⟨F2, hs_, s2, hm_, (⟨n2, hr_, rfl⟩ | ⟨y, hr_, rfl⟩)⟩
    rotate_left
    · have hrj := Hr1.out
      rw [hr_] at hrj
      have Hf := Lib.hid (And.intro (H1.out.trans hs_) (And.intro hm_ hrj))
      clear hs_ hm_ hr_ hrj
      unfold quitP
      go_wp2_with fail
      exact ⟨rfl, F2, Hf.out.1, s2, Hf.out.2.1, .inr ⟨y, Hf.out.2.2, rfl⟩⟩
    have hrj := Hr1.out
    have hw_ := num_wf W1.out.1
    have hl_ := (show s1.stack.length - 1 ≤ s2.stack.length by rw [num_off hr_, off_len]; exact Nat.le_refl _)
    rw [hr_] at hrj hw_
    rw [VR.then_ok] at hrj
    try dsimp only at hrj
    have H2 := Lib.hid (H1.out.trans hs_)
    have S2 := Lib.hid hs_
    have M2 := Lib.hid hm_
    have Hr2 := Lib.hid hrj
    have W2 := Lib.hid (show _ ∧ _ from hw_)
    have L2 := Lib.hid hl_
    clear hs_ hm_ hr_ hrj hw_ hl_
    have L2 := Lib.hid (Nat.le_trans (Nat.sub_le_sub_right L1.out 1) L2.out)
    go_wp2_with fail
    refine (pushb_any _ M2.out W2.out.1.depth).mono ?_
    rintro e w3 ⟨F3, hs_, s3, hm_, (⟨a, hr_, rfl⟩ | ⟨y, hr_, rfl⟩)⟩
    rotate_left
    · have hrj := Hr2.out
      rw [hr_] at hrj
      have Hf := Lib.hid (And.intro (H2.out.trans hs_) (And.intro hm_ hrj))
      clear hs_ hm_ hr_ hrj
      unfold quitP
      go_wp2_with fail
      exact ⟨rfl, F3, Hf.out.1, s3, Hf.out.2.1, .inr ⟨y, Hf.out.2.2, rfl⟩⟩
    have Hf := Lib.hid (And.intro (H2.out.trans hs_) (And.intro hm_ (Hr2.out.trans hr_)))
    clear hs_ hm_ hr_
    go_wp2_with fail
    first | go_end0 | refine bodyPost_ret (results_none rfl _ _ _) rfl ?_
    exact ⟨F3, Hf.out.1, s3, Hf.out.2.1, .inl ⟨(), Hf.out.2.2, rfl⟩⟩
/- a call more, a call less, another place -/
theorem intInfo : (Tryz.prog.info? 3).map (fun i => (i.zero, i.size, i.bytes)) = some (some (.int .i64 0), 1, 8) := by kernel_rfl
theorem intsV_snoc (l : List Int) (n : Int) : intsV (l ++ [n]) = intsV l ++ [.int .i64 n] := by simp [intsV]
theorem Mach.callm {w w1 : World} {lo mb : Nat} {pv vv : Value} {s : MSt} {st : Nat} {ft : Int} {F : Value × Value} (h : Mach w lo mb pv vv s st ft F) {cv : Value} {n : Int} (hc : Chg (fun k => F.2.ownBlock = some k) w w1)
    (hr : w1.ownsRow lo 3 1 cv (s.calls.length + 1) (intsV (s.calls ++ [n]))) (hp : ∀ k, cv.ownBlock = some k → F.2.ownBlock = some k ∨ w.heap.size ≤ k) :
    Mach (w1.setCell ⟨mb, 52, none⟩ cv) lo mb pv vv { s with calls := s.calls ++ [n] } st ft (F.1, cv) ∧ MStep mb F (F.1, cv) w (w1.setCell ⟨mb, 52, none⟩ cv) := by
  obtain ⟨hlow, hnm⟩ := h.low
  obtain ⟨oq, oc, h1, h2, kb, ko, h3⟩ := h.row
  have hmb := lt_of_block h1
  have h1' := row_kept hc h1 (fun e => hnm (.inr e))
  have hst : Chg (fun k => k = mb) w1 (w1.setCell ⟨mb, 52, none⟩ cv) := (Chg.refl (fun k => k = mb) w1).setCell (p := ⟨mb, 52, none⟩) (.inl rfl) _
  have hset := heap_set h1' (i := 52) cv
  rw [(machC_set_post h.loc).1] at hset
  have hne : ∀ k, cv.ownBlock = some k → k ≠ mb := fun k hk e => by
    rcases hp k hk with x | x
    · exact hnm (e ▸ .inr x)
    · omega
  have hcav : ∀ k, F.1.ownBlock = some k → ¬ F.2.ownBlock = some k := fun k hk e => h.ap k hk e
  refine ⟨⟨⟨oq, oc, hset, h2, kb, ko, ?_⟩, ?_, ?_, fun k hk e => ?_, ⟨h.lo.1, Nat.le_trans h.lo.2 (Nat.le_trans hc.size hst.size)⟩, h.loc⟩, ⟨?_, fun k hk => ?_⟩⟩
  · refine (h3.move hc (S' := fun k => k ≠ mb ∧ ¬ Foot (F.1, cv) k) fun k hk hs => ⟨fun e => hs.2 (.inr e), hs.1, fun e => ?_⟩).move hst fun k hk hs => ⟨hs.1, hs⟩
    rcases e with e | e
    · exact hs.2 (.inl e)
    · rcases hp k e with x | x
      · exact hs.2 (.inr x)
      · omega
  · exact ownsRow_chg (ownsRow_chg h.st hc hcav) hst fun k hk e => hnm (e ▸ .inl hk)
  · rw [List.length_append]; exact ownsRow_chg hr hst fun k hk e => hne k hk e
  · rcases hp k e with x | x
    · exact h.ap k hk x
    · have := (hlow k (.inl hk)).2; omega
  · exact (hc.mono fun k _ e => .inr (.inr e)).transR hst fun k _ e => .inl e
  · rcases hk with e | e
    · exact .inl (.inl e)
    · exact (hp k e).imp .inr id
theorem Mach.goto {w : World} {lo mb : Nat} {pv vv : Value} {s : MSt} {st : Nat} {ft : Int} {F : Value × Value} (h : Mach w lo mb pv vv s st ft F) (n : Int) : Mach (w.setCell ⟨mb, 53, none⟩ (.int .i64 n)) lo mb pv vv { s with next := n } st ft F ∧ MStep mb F F w (w.setCell ⟨mb, 53, none⟩ (.int .i64 n)) :=
  h.upd (s' := { s with next := n }) ((Chg.refl (fun k => k = mb) w).setCell (p := ⟨mb, 53, none⟩) (.inl rfl) _) (fun oq oc hr => by have h3 := heap_set hr (i := 53) (.int .i64 n); rw [(machC_set_post h.loc).2.1] at h3; exact h3) h.st h.ca rfl rfl h.loc rfl
theorem Mach.calls0 {w : World} {lo mb : Nat} {pv vv : Value} {s : MSt} {st : Nat} {ft : Int} {q : Option Addr} {n c m : Nat} {sv : Value} (h : Mach w lo mb pv vv s st ft (sv, .slice q n c)) (hn : n = s.calls.length) (hm : n = m + 1) : Mach (w.setCell ⟨mb, 52, none⟩ (.slice q m c)) lo mb pv vv { s with calls := s.calls.dropLast } st ft (sv, .slice q m c) ∧ MStep mb (sv, .slice q n c) (sv, .slice q m c) w (w.setCell ⟨mb, 52, none⟩ (.slice q m c)) := by
  have e1 : s.calls.dropLast = s.calls.take m := by rw [List.dropLast_eq_take]; congr 1; omega
  have e2 : s.calls.dropLast.length = m := by rw [List.length_dropLast]; omega
  refine h.upd (s' := { s with calls := s.calls.dropLast }) ((Chg.refl (fun k => k = mb) w).setCell (p := ⟨mb, 52, none⟩) (.inl rfl) _) (fun oq oc hr => by have h3 := heap_set hr (i := 52) (.slice q m c); rw [(machC_set_post h.loc).1] at h3; exact h3) h.st ?_ rfl (own_prefix _ _ _ _) h.loc rfl
  show w.ownsRow lo 3 1 (.slice q m c) s.calls.dropLast.length (intsV s.calls.dropLast)
  have hca := h.ca
  simp only at hca
  rw [← hn] at hca
  rw [e2, e1]
  have := ownsRow_prefix hca (m := m) (by omega)
  rw [Nat.mul_one] at this
  rw [show intsV (s.calls.take m) = (intsV s.calls).take m by simp [intsV, List.map_take]]
  exact this
set_option maxHeartbeats 4000000 in
set_option maxRecDepth 20000 in
theorem turn_any (op n : Int) (t : List UInt8) {w0 : World} {lo mb : Nat} {pv vv : Value} {s0 : MSt} {st : Nat} {ft : Int} {F0 : Value × Value} {len : Int} (hm : Mach w0 lo mb pv vv s0 st ft F0) (wf : WfS len s0) (hop : op = 17 ∨ op = 18 ∨ op = 19 ∨ op = 20) :
    Calls Tryz.prog 102 #[.pointer (some ⟨mb, 0, none⟩), .agg #[.int .i64 op, .int .i64 n, .string (tx t)]] w0 (VOut lo mb pv vv st ft F0 (turnR op n s0) (fun _ => .tuple #[]) w0) := by
  obtain ⟨r, hr⟩ : ∃ r, r = turnR op n s0 := ⟨_, rfl⟩
  rw [← hr]
  have H0 := Lib.hid (MStep.refl mb F0 w0)
  have M0 := Lib.hid hm
  have W0 := Lib.hid (And.intro wf (trivial : True))
  unfold turnR at hr
  have HG := Lib.hid (fun w => give_any 40 w)
  have hal_ := (Chg.refl NoB w0).alloc (.cells #[.int .i64 op, .int .i64 n, .string (tx t)] 46)
  have hb_ := heap_alloc_new w0 (.cells #[.int .i64 op, .int .i64 n, .string (tx t)] 46)
  obtain ⟨xb, hxb_⟩ : ∃ b, b = w0.heap.size := ⟨_, rfl⟩
  obtain ⟨w9, hw_⟩ : ∃ w_, w0.alloc (.cells #[.int .i64 op, .int .i64 n, .string (tx t)] 46) = w_ := ⟨_, rfl⟩
  have hz_ : w9.heap.size = xb + 1 := by rw [← hw_, hxb_]; exact alloc_size _ _
  rw [hw_] at hal_ hb_
  rw [← hxb_] at hb_
  have Hw9 := Lib.hid hw_
  have Hx9 := Lib.hid hxb_
  have Ha9 := Lib.hid hal_
  have Hb9 := Lib.hid hb_
  have Hz9 := Lib.hid hz_
  clear hal_ hb_ hxb_ hw_ hz_
  obtain ⟨x0, x1, x2⟩ := var3 Hb9.out
  have N0 := Lib.hid hm.bound
  have Wf := Lib.hid wf
  replace H0 := Lib.hid (H0.out.trans (MStep.of_chg Ha9.out))
  replace M0 := Lib.hid (M0.out.keep Ha9.out)
  clear hm wf
  rcases hop with rfl | rfl | rfl | rfl
  · rw [if_neg (by decide), if_neg (by decide), if_neg (by decide)] at hr
    have hm := M0.out
    obtain ⟨oq, oc, y0, y1, y2, y3, y52, y53, y54, y55, y56⟩ := hm.cells
    have yf := hm.free
    have HF := Lib.hid (hm.goto n)
    have Hr := Lib.hid hr
    clear hr hm y0 y1 y2 y3 y52 y54 y55 y56
    go_enter Tryz.func102, Tryz.ntmps102
    go_upto_region 1 with fail
    rw [Hw9.out, ← Hx9.out]
    go_wp2_with fail
    first | go_end0 | refine bodyPost_ret (results_none rfl _ _ _) rfl ?_
    exact ⟨F0, H0.out.trans HF.out.2, _, HF.out.1, .inl ⟨(), Hr.out, rfl⟩⟩
  · rw [if_pos rfl] at hr
    have Hr0 := Lib.hid hr
    clear hr
    go_enter Tryz.func102, Tryz.ntmps102
    go_upto_region 1 with fail
    rw [Hw9.out, ← Hx9.out]
    go_wp2_with fail
    refine (need_any 1 (by decide) M0.out W0.out.1.depth).mono ?_
    rintro e w1 ⟨F1, hs_, s1, hm_, (⟨a1, hr_, rfl⟩ | ⟨y, hr_, rfl⟩)⟩
    rotate_left
    · have hrj := Hr0.out
      rw [hr_] at hrj
      have Hf := Lib.hid (And.intro (H0.out.trans hs_) (And.intro hm_ hrj))
      clear hs_ hm_ hr_ hrj
      unfold quitP
      go_wp2_with fail
      exact ⟨rfl, F1, Hf.out.1, s1, Hf.out.2.1, .inr ⟨y, Hf.out.2.2, rfl⟩⟩
    have hrj := Hr0.out
    have hw_ := need_wf W0.out.1 1
    have hl_ := (need_len hr_).2
    rw [hr_] at hrj hw_
    rw [VR.then_ok] at hrj
    try dsimp only at hrj
    have H1 := Lib.hid (H0.out.trans hs_)
    have S1 := Lib.hid hs_
    have M1 := Lib.hid hm_
    have Hr1 := Lib.hid hrj
    have W1 := Lib.hid (show _ ∧ _ from hw_)
    have L1 := Lib.hid hl_
    clear hs_ hm_ hr_ hrj hw_ hl_
    clear x0 x1 x2
    have X1 := Lib.hid (S1.out.box Hb9.out (Nat.le_of_eq Hx9.out.symm) N0.out)
    have N1 := Lib.hid (show w0.heap.size ≤ xb ∧ xb < w9.heap.size ∧ (∀ k, Foot F1 k → k ≠ xb) ∧ mb ≠ xb from ⟨by rw [Hx9.out]; exact Nat.le_refl _, by rw [Hz9.out]; omega, fun k hk e => by
        rcases S1.out.foot k hk with h | h
        · have := N0.out.2 k h; have := Hx9.out; omega
        · have := Hz9.out; omega, by have := N0.out.1; have := Hx9.out; omega⟩)
    go_wp2_with fail
    refine (num_any M1.out W1.out.1.depth (by have := L1.out; omega)).mono ?_
    rintro e w2 ⟨F2, hs_, s2, hm_, (⟨k2, hr_, rfl⟩ | ⟨y, hr_, rfl⟩)⟩
    rotate_left
    · have hrj := Hr1.out
      rw [hr_] at hrj
      have Hf := Lib.hid (And.intro (H1.out.trans hs_) (And.intro hm_ hrj))
      clear hs_ hm_ hr_ hrj
      unfold quitP
      go_wp2_with fail
      exact ⟨rfl, F2, Hf.out.1, s2, Hf.out.2.1, .inr ⟨y, Hf.out.2.2, rfl⟩⟩
    have hrj := Hr1.out
    have hw_ := num_wf W1.out.1
    have hl_ := (show s1.stack.length - 1 ≤ s2.stack.length by rw [num_off hr_, off_len]; exact Nat.le_refl _)
    rw [hr_] at hrj hw_
    rw [VR.then_ok] at hrj
    try dsimp only at hrj
    have H2 := Lib.hid (H1.out.trans hs_)
    have S2 := Lib.hid hs_
    have M2 := Lib.hid hm_
    have Hr2 := Lib.hid hrj
    have W2 := Lib.hid (show _ ∧ _ from hw_)
    have L2 := Lib.hid hl_
    clear hs_ hm_ hr_ hrj hw_ hl_
    have L2 := Lib.hid (Nat.le_trans (Nat.sub_le_sub_right L1.out 1) L2.out)
    have X2 := Lib.hid (row_kept S2.out.chg X1.out (by rintro (e | e); exact N1.out.2.2.2 e.symm; exact N1.out.2.2.1 _ e rfl))
    obtain ⟨x0, x1, x2⟩ := var3 X2.out
    by_cases hk : k2 = 0
    · skip
      have hz := Hr2.out
      first | rw [if_pos rfl] at hz | rw [if_pos trivial] at hz | rw [if_pos (by assumption)] at hz
      replace Hr2 := Lib.hid hz
      clear hz
      subst hk
      have hm := M2.out
      obtain ⟨oq, oc, y0, y1, y2, y3, y52, y53, y54, y55, y56⟩ := hm.cells
      have yf := hm.free
      have HF := Lib.hid (hm.goto n)
      clear hm y0 y1 y2 y3 y52 y54 y55 y56
      go_wp2_with fail
      first | go_end0 | refine bodyPost_ret (results_none rfl _ _ _) rfl ?_
      exact ⟨F2, H2.out.trans HF.out.2, _, HF.out.1, .inl ⟨(), Hr2.out, rfl⟩⟩
    · skip
      have hz := Hr2.out
      rw [if_neg (by first | assumption | decide | omega)] at hz
      replace Hr2 := Lib.hid hz
      clear hz
      have hk' : (k2 == 0) = false := by rw [beq_eq_false_iff_ne]; exact hk
      go_wp2_with fail
      first | go_end0 | refine bodyPost_ret (results_none rfl _ _ _) rfl ?_
      exact ⟨F2, H2.out, _, M2.out, .inl ⟨(), Hr2.out, rfl⟩⟩
  · rw [if_neg (by decide), if_pos rfl] at hr
    obtain ⟨sv, cv⟩ := F0
    have hm := M0.out
    obtain ⟨oq, oc, y0, y1, y2, y3, y52, y53, y54, y55, y56⟩ := hm.cells
    have yf := hm.free
    obtain ⟨q, c, e, h1, h2⟩ := row_shape hm.ca
    simp only at e y52
    subst e
    obtain ⟨k, hk⟩ : ∃ k, k = s0.calls.length := ⟨_, rfl⟩
    rw [← hk] at y52 hr h1
    have hk16 : k ≤ 16 := by rw [hk]; exact Wf.out.many
    have Hk := Lib.hid hk
    have hca := hm.ca
    simp only at hca
    rw [← hk] at hca
    unfold maxLen at h2
    by_cases hlt : 16 ≤ k
    · rw [if_pos hlt] at hr
      have Hr := Lib.hid hr
      rw [← hk] at M0 H0 N0
      clear hr hm hca y0 y1 y2 y3 y53 y54 y55 y56 hk
      rw [← Hk.out]
      go_enter Tryz.func102, Tryz.ntmps102
      go_upto_region 1 with fail
      rw [Hw9.out, ← Hx9.out]
      go_wp2_with fail
      refine (HG.out _).mono ?_
      rintro e w' ⟨rfl, rfl⟩
      unfold quitP
      go_wp2_with fail
      exact ⟨rfl, _, H0.out, s0, M0.out, .inr ⟨40, Hr.out, rfl⟩⟩
    · rw [if_neg hlt] at hr
      have hal := (Chg.refl NoB w9).alloc (.cells #[.int .i64 s0.next] 3)
      have Hal := Lib.hid hal
      have HO := Lib.hid (ownsRow_chg hca hal fun _ _ => id)
      obtain ⟨i0, hi, hz0, hz1, hz2⟩ := info_parts intInfo
      have Hi := Lib.hid hi
      have Hz0 := Lib.hid hz0
      have Hz1' := Lib.hid hz1
      have Hz2 := Lib.hid hz2
      have N1 := Lib.hid (show k + 1 ≤ maxLen by unfold maxLen; omega)
      have N2 := Lib.hid (show (k + 1) * 8 ≤ 140737488355328 by omega)
      have Hb := Lib.hid (show lo ≤ (w9.alloc (.cells #[.int .i64 s0.next] 3)).drew.heap.size from Nat.le_trans hm.lo.2 hal.size)
      have L1 := Lib.hid (show ∀ (j : Nat) (u : Value), [Value.int .i64 s0.next][j]? = some u → (w9.alloc (.cells #[.int .i64 s0.next] 3)).cell? ((⟨w9.heap.size, 0, none⟩ : Addr).add j) = some u from fun j u hj => by
        rw [add_zero_off, cell_of_row _ w9.heap.size j _ 3 (0, 0) (heap_alloc_new w9 _), ← hj]; simp)
      have y52a := hal.keep y52
      have y53a := hal.keep y53
      rw [← hk] at M0 H0 N0
      have Hr := Lib.hid hr
      clear hr hm hca hal hi hz0 hz1 hz2 y0 y1 y2 y3 y54 y55 y56 hk
      rw [← Hk.out]
      go_enter Tryz.func102, Tryz.ntmps102
      go_upto_region 1 with fail
      rw [Hw9.out, ← Hx9.out]
      go_upto_region 8 with fail
      go_region_law (refine step_append_at (by rfl) _ (.tmp 27) (.tmp 32) 32 (by rfl) lo 3 i0 (.int .i64 0) 1 8 Tryz.underlying32 Hi.out Hz0.out Hz1'.out Hz2.out rfl (by decide) _ k (intsV s0.calls) (by rfl) HO.out ⟨w9.heap.size, 0, none⟩ 1 1 [.int .i64 s0.next] (by rfl) rfl L1.out (fun u hu => by rw [List.mem_singleton.1 hu]; rfl) N1.out N2.out Hb.out ?_; intro cv' w3 hown hgr hpl; obtain ⟨q3, c3, rfl, -, -⟩ := row_shape hown; have hc3 : Chg (fun j => (Value.slice q k c).ownBlock = some j) w9 w3 := (Hal.out.drew.mono fun _ _ h => h.elim).trans ((Chg.refl _ _).grown hgr (fun j hj => .inl hj)); have y33 := hc3.cell y52 (fun e => M0.out.low.2 (.inr e)); have yf3 := hc3.frozen y52 (fun e => M0.out.low.2 (.inr e)) (yf 52))
      all_goals
        have HP := Lib.hid (M0.out.callm (cv := .slice q3 (k + 1) c3) (n := s0.next) hc3 (by rw [← Hk.out, intsV_snoc]; exact hown) (fun j hj => by
          rcases hpl with e | e
          · exact .inl (by rw [← e]; exact hj)
          · rw [hj] at e; cases e; exact .inr Hal.out.size))
        clear hown hgr hpl hc3 y33 yf3 y52 y53 y52a y53a yf x0 x1 x2
        try go_upto_region 15 with fail
        have X := Lib.hid (HP.out.2.box Hb9.out (Nat.le_of_eq Hx9.out.symm) N0.out)
        generalize w3.setCell ⟨mb, 52, none⟩ (.slice q3 (k + 1) c3) = w4 at *
        obtain ⟨x0, x1, x2⟩ := var3 X.out
        have hm := HP.out.1
        obtain ⟨oq', oc', z0, z1, z2, z3, z52, z53, z54, z55, z56⟩ := hm.cells
        have zf := hm.free
        have HF := Lib.hid (hm.goto n)
        clear hm z0 z1 z2 z3 z52 z54 z55 z56
        go_wp2_with fail
        first | go_end0 | refine bodyPost_ret (results_none rfl _ _ _) rfl ?_
        exact ⟨_, (H0.out.trans HP.out.2).trans HF.out.2, _, HF.out.1, .inl ⟨(), Hr.out, rfl⟩⟩
  · rw [if_neg (by decide), if_neg (by decide), if_pos rfl] at hr
    obtain ⟨sv, cv⟩ := F0
    have hm := M0.out
    obtain ⟨oq, oc, y0, y1, y2, y3, y52, y53, y54, y55, y56⟩ := hm.cells
    have yf := hm.free
    obtain ⟨q, c, e, h1, h2⟩ := row_shape hm.ca
    simp only at e y52
    subst e
    have hk16 := Wf.out.many
    unfold maxLen at h2
    by_cases hlt : s0.calls.length = 0
    · rw [if_pos hlt] at hr
      rw [hlt] at y52 M0 H0 h1 ⊢
      have Hr := Lib.hid hr
      clear hr hm hlt y0 y1 y2 y3 y53 y54 y55 y56 hk16
      go_enter Tryz.func102, Tryz.ntmps102
      go_upto_region 1 with fail
      rw [Hw9.out, ← Hx9.out]
      go_wp2_with fail
      refine (HG.out _).mono ?_
      rintro e w' ⟨rfl, rfl⟩
      unfold quitP
      go_wp2_with fail
      exact ⟨rfl, _, H0.out, s0, M0.out, .inr ⟨40, Hr.out, rfl⟩⟩
    · rw [if_neg hlt] at hr
      obtain ⟨m, hk⟩ : ∃ m, s0.calls.length = m + 1 := ⟨s0.calls.length - 1, by omega⟩
      have hca := hm.ca
      simp only at hca
      rw [hk] at y52 h1 hca hk16
      obtain ⟨g, rfl⟩ : ∃ g, q = some ⟨g, 0, none⟩ := by
        rcases hca.2 with ⟨e, h0⟩ | ⟨g', cap', cur, e, _⟩
        · omega
        · simp only [Value.slice.injEq] at e; exact ⟨g', e.1⟩
      have hlm : m < s0.calls.length := by omega
      have hat : (intsV s0.calls)[m]? = some (.int .i64 s0.calls[m]) := by simp [intsV, hlm]
      have z0 := World.ownsRow.cells (g := g) hca rfl _ _ hat
      rw [add_zero_off] at z0
      have hlast : s0.calls.getLastD 0 = s0.calls[m] := by rw [List.getLastD_eq_getLast?, List.getLast?_eq_getElem?, hk]; show (s0.calls[m + 1 - 1]?).getD _ = _; rw [Nat.add_sub_cancel, List.getElem?_eq_getElem hlm]; rfl
      rw [hlast] at hr
      generalize s0.calls[m] = nx at *
      have HA := Lib.hid (hm.goto nx)
      have Hk := Lib.hid hk
      have Hr := Lib.hid hr
      rw [hk] at M0 H0 HA ⊢
      clear hr hm hca hat hlt hk hlm hlast y0 y1 y2 y3 y54 y55 y56
      go_enter Tryz.func102, Tryz.ntmps102
      go_upto_region 1 with fail
      rw [Hw9.out, ← Hx9.out]
      go_upto_region 14 with fail
      clear y52 y53 z0 yf x0 x1 x2
      generalize w9.setCell ⟨mb, 53, none⟩ (.int .i64 nx) = w4 at *
      have hm := HA.out.1
      have HB := Lib.hid (hm.calls0 (n := m + 1) (m := m) Hk.out.symm rfl)
      obtain ⟨oq, oc, y0, y1, y2, y3, y52, y53, y54, y55, y56⟩ := hm.cells
      have yf := hm.free
      simp only at y52
      clear hm y0 y1 y2 y3 y53 y54 y55 y56
      go_wp2_with fail
      first | go_end0 | refine bodyPost_ret (results_none rfl _ _ _) rfl ?_
      exact ⟨_, (H0.out.trans HA.out.2).trans HB.out.2, _, HB.out.1, .inl ⟨(), Hr.out, rfl⟩⟩
end Go.Proofs.YthehpmffkkogpaaGreatDoor
namespace Go.Proofs.YthehpmffkkogpaaGreatDoor
set_option linter.unusedVariables false
open Go.ChangeShapes Go.WideShapes Go.ChangeAt Go.RowKit
theorem tx_cat (a b : List UInt8) : tx a ++ tx b = tx (a ++ b) := by
  apply ByteArray.ext
  simp [tx, ByteArray.data_append]
theorem cut_tx (t : List UInt8) (a b : Nat) (hab : a ≤ b) (hb : b ≤ t.length) : (tx t).extract a b = tx ((t.take b).drop a) := by
  apply ByteArray.ext
  simp [tx, List.drop_take]
/- the library's variables stay, whatever a machine does -/
theorem Lb.mstep {base mb : Nat} {w w' : World} {F F' : Value × Value} (h : Lb base w) (hs : MStep mb F F' w w') (h1 : base ≤ mb) (h2 : ∀ k, Foot F k → base ≤ k) : Lb base w' := h.chg hs.chg (by rintro k (rfl | e); exact h1; exact h2 k e)
set_option maxHeartbeats 8000000 in
set_option maxRecDepth 20000 in
theorem spell_any (op : Int) {w0 : World} {lo mb : Nat} {pv vv : Value} {s0 : MSt} {st : Nat} {ft : Int} {F0 : Value × Value} {len : Int} (hm : Mach w0 lo mb pv vv s0 st ft F0) (wf : WfS len s0) (hop : op = 21 ∨ op = 22 ∨ op = 23 ∨ op = 24 ∨ op = 25) (base : Nat) (hlb : Lb base w0) (hbase : base ≤ mb) :
    Calls Tryz.prog 103 #[.pointer (some ⟨mb, 0, none⟩), .int .i64 op] w0 (VOut lo mb pv vv st ft F0 (spellR op s0) (fun _ => .tuple #[]) w0) := by
  obtain ⟨r, hr⟩ : ∃ r, r = spellR op s0 := ⟨_, rfl⟩
  rw [← hr]
  have H0 := Lib.hid (MStep.refl mb F0 w0)
  have M0 := Lib.hid hm
  have W0 := Lib.hid (And.intro wf (trivial : True))
  unfold spellR at hr
  have HG := Lib.hid (fun w => give_any 43 w)
  have HLB := Lib.hid (fun w (F : Value × Value) (h : MStep mb F0 F w0 w) => hlb.mstep h hbase (fun k hk => by have := (hm.low.1 k hk).1; have := hm.lo.1; omega))
  clear hm wf hlb
  rcases hop with rfl | rfl | rfl | rfl | rfl
  · rw [if_pos rfl] at hr
    have Hr0 := Lib.hid hr
    clear hr
    go_enter Tryz.func103, Tryz.ntmps103
    go_wp2_with fail
    refine (need_any 2 (by decide) M0.out W0.out.1.depth).mono ?_
    rintro e w1 ⟨F1, hs_, s1, hm_, (⟨a1, hr_, rfl⟩ | ⟨y, hr_, rfl⟩)⟩
    rotate_left
    · have hrj := Hr0.out
      rw [hr_] at hrj
      have Hf := Lib.hid (And.intro (H0.out.trans hs_) (And.intro hm_ hrj))
      clear hs_ hm_ hr_ hrj
      unfold quitP
      go_wp2_with fail
      exact ⟨rfl, F1, Hf.out.1, s1, Hf.out.2.1, .inr ⟨y, Hf.out.2.2, rfl⟩⟩
    have hrj := Hr0.out
    have hw_ := need_wf W0.out.1 2
    have hl_ := (need_len hr_).2
    rw [hr_] at hrj hw_
    rw [VR.then_ok] at hrj
    try dsimp only at hrj
    have H1 := Lib.hid (H0.out.trans hs_)
    have S1 := Lib.hid hs_
    have M1 := Lib.hid hm_
    have Hr1 := Lib.hid hrj
    have W1 := Lib.hid (show _ ∧ _ from hw_)
    have L1 := Lib.hid hl_
    clear hs_ hm_ hr_ hrj hw_ hl_
    go_wp2_with fail
    refine (mtext_any M1.out W1.out.1.depth (by have := L1.out; omega)).mono ?_
    rintro e w2 ⟨F2, hs_, s2, hm_, (⟨t2, hr_, rfl⟩ | ⟨y, hr_, rfl⟩)⟩
    rotate_left
    · have hrj := Hr1.out
      rw [hr_] at hrj
      have Hf := Lib.hid (And.intro (H1.out.trans hs_) (And.intro hm_ hrj))
      clear hs_ hm_ hr_ hrj
      unfold quitP
      go_wp2_with fail
      exact ⟨rfl, F2, Hf.out.1, s2, Hf.out.2.1, .inr ⟨y, Hf.out.2.2, rfl⟩⟩
    have hrj := Hr1.out
    have hw_ := txt_wf W1.out.1
    have hl_ := (show s1.stack.length - 1 ≤ s2.stack.length by rw [txt_off hr_, off_len]; exact Nat.le_refl _)
    rw [hr_] at hrj hw_
    rw [VR.then_ok] at hrj
    try dsimp only at hrj
    have H2 := Lib.hid (H1.out.trans hs_)
    have S2 := Lib.hid hs_
    have M2 := Lib.hid hm_
    have Hr2 := Lib.hid hrj
    have W2 := Lib.hid (show _ ∧ _ from hw_)
    have L2 := Lib.hid hl_
    clear hs_ hm_ hr_ hrj hw_ hl_
    have L2 := Lib.hid (Nat.le_trans (Nat.sub_le_sub_right L1.out 1) L2.out)
    go_wp2_with fail
    refine (mtext_any M2.out W2.out.1.depth (by have := L2.out; omega)).mono ?_
    rintro e w3 ⟨F3, hs_, s3, hm_, (⟨u3, hr_, rfl⟩ | ⟨y, hr_, rfl⟩)⟩
    rotate_left
    · have hrj := Hr2.out
      rw [hr_] at hrj
      have Hf := Lib.hid (And.intro (H2.out.trans hs_) (And.intro hm_ hrj))
      clear hs_ hm_ hr_ hrj
      unfold quitP
      go_wp2_with fail
      exact ⟨rfl, F3, Hf.out.1, s3, Hf.out.2.1, .inr ⟨y, Hf.out.2.2, rfl⟩⟩
    have hrj := Hr2.out
    have hw_ := txt_wf W2.out.1
    have hl_ := (show s2.stack.length - 1 ≤ s3.stack.length by rw [txt_off hr_, off_len]; exact Nat.le_refl _)
    rw [hr_] at hrj hw_
    rw [VR.then_ok] at hrj
    try dsimp only at hrj
    have H3 := Lib.hid (H2.out.trans hs_)
    have S3 := Lib.hid hs_
    have M3 := Lib.hid hm_
    have Hr3 := Lib.hid hrj
    have W3 := Lib.hid (show _ ∧ _ from hw_)
    have L3 := Lib.hid hl_
    clear hs_ hm_ hr_ hrj hw_ hl_
    have L3 := Lib.hid (Nat.le_trans (Nat.sub_le_sub_right L2.out 1) L3.out)
    have hlt2 : t2.length ≤ 2048 := W2.out.2
    have hlu3 : u3.length ≤ 2048 := W3.out.2
    have hzt : (tx t2).size = t2.length := tx_size _
    have hzu : (tx u3).size = u3.length := tx_size _
    have hcat := tx_cat u3 t2
    obtain ⟨tl, htl⟩ : ∃ z, z = t2.length := ⟨_, rfl⟩
    obtain ⟨ul, hul⟩ : ∃ z, z = u3.length := ⟨_, rfl⟩
    rw [← htl] at hzt hlt2 Hr3
    rw [← hul] at hzu hlu3 Hr3
    clear htl hul
    by_cases hbig : 2048 < ul + tl
    · skip
      have hz := Hr3.out
      first | rw [if_pos rfl] at hz | rw [if_pos trivial] at hz | rw [if_pos (by assumption)] at hz
      replace Hr3 := Lib.hid hz
      clear hz
      clear hcat
      go_wp2_with fail
      refine (HG.out _).mono ?_
      rintro e w' ⟨rfl, rfl⟩
      unfold quitP
      go_wp2_with fail
      exact ⟨rfl, F3, H3.out, s3, M3.out, .inr ⟨43, Hr3.out, rfl⟩⟩
    · skip
      have hz := Hr3.out
      rw [if_neg (by first | assumption | decide | omega)] at hz
      replace Hr3 := Lib.hid hz
      clear hz
      go_wp2_with fail
      refine (pusht_any _ M3.out W3.out.1.depth).mono ?_
      rintro e w4 ⟨F4, hs_, s4, hm_, (⟨a, hr_, rfl⟩ | ⟨y, hr_, rfl⟩)⟩
      rotate_left
      · have hrj := Hr3.out
        rw [hr_] at hrj
        have Hf := Lib.hid (And.intro (H3.out.trans hs_) (And.intro hm_ hrj))
        clear hs_ hm_ hr_ hrj
        unfold quitP
        go_wp2_with fail
        exact ⟨rfl, F4, Hf.out.1, s4, Hf.out.2.1, .inr ⟨y, Hf.out.2.2, rfl⟩⟩
      have Hf := Lib.hid (And.intro (H3.out.trans hs_) (And.intro hm_ (Hr3.out.trans hr_)))
      clear hs_ hm_ hr_
      go_wp2_with fail
      first | go_end0 | refine bodyPost_ret (results_none rfl _ _ _) rfl ?_
      exact ⟨F4, Hf.out.1, s4, Hf.out.2.1, .inl ⟨(), Hf.out.2.2, rfl⟩⟩
  · rw [if_neg (by decide), if_pos rfl] at hr
    have Hr0 := Lib.hid hr
    clear hr
    go_enter Tryz.func103, Tryz.ntmps103
    go_wp2_with fail
    refine (need_any 1 (by decide) M0.out W0.out.1.depth).mono ?_
    rintro e w1 ⟨F1, hs_, s1, hm_, (⟨a1, hr_, rfl⟩ | ⟨y, hr_, rfl⟩)⟩
    rotate_left
    · have hrj := Hr0.out
      rw [hr_] at hrj
      have Hf := Lib.hid (And.intro (H0.out.trans hs_) (And.intro hm_ hrj))
      clear hs_ hm_ hr_ hrj
      unfold quitP
      go_wp2_with fail
      exact ⟨rfl, F1, Hf.out.1, s1, Hf.out.2.1, .inr ⟨y, Hf.out.2.2, rfl⟩⟩
    have hrj := Hr0.out
    have hw_ := need_wf W0.out.1 1
    have hl_ := (need_len hr_).2
    rw [hr_] at hrj hw_
    rw [VR.then_ok] at hrj
    try dsimp only at hrj
    have H1 := Lib.hid (H0.out.trans hs_)
    have S1 := Lib.hid hs_
    have M1 := Lib.hid hm_
    have Hr1 := Lib.hid hrj
    have W1 := Lib.hid (show _ ∧ _ from hw_)
    have L1 := Lib.hid hl_
    clear hs_ hm_ hr_ hrj hw_ hl_
    go_wp2_with fail
    refine (mtext_any M1.out W1.out.1.depth (by have := L1.out; omega)).mono ?_
    rintro e w2 ⟨F2, hs_, s2, hm_, (⟨t2, hr_, rfl⟩ | ⟨y, hr_, rfl⟩)⟩
    rotate_left
    · have hrj := Hr1.out
      rw [hr_] at hrj
      have Hf := Lib.hid (And.intro (H1.out.trans hs_) (And.intro hm_ hrj))
      clear hs_ hm_ hr_ hrj
      unfold quitP
      go_wp2_with fail
      exact ⟨rfl, F2, Hf.out.1, s2, Hf.out.2.1, .inr ⟨y, Hf.out.2.2, rfl⟩⟩
    have hrj := Hr1.out
    have hw_ := txt_wf W1.out.1
    have hl_ := (show s1.stack.length - 1 ≤ s2.stack.length by rw [txt_off hr_, off_len]; exact Nat.le_refl _)
    rw [hr_] at hrj hw_
    rw [VR.then_ok] at hrj
    try dsimp only at hrj
    have H2 := Lib.hid (H1.out.trans hs_)
    have S2 := Lib.hid hs_
    have M2 := Lib.hid hm_
    have Hr2 := Lib.hid hrj
    have W2 := Lib.hid (show _ ∧ _ from hw_)
    have L2 := Lib.hid hl_
    clear hs_ hm_ hr_ hrj hw_ hl_
    have L2 := Lib.hid (Nat.le_trans (Nat.sub_le_sub_right L1.out 1) L2.out)
    have hlt2 : t2.length ≤ 2048 := W2.out.2
    have hzt : (tx t2).size = t2.length := tx_size _
    go_wp2_with fail
    refine (push_any (numV (t2.length : Nat)) M2.out W2.out.1.depth).mono ?_
    rintro e w3 ⟨F3, hs_, s3, hm_, (⟨a, hr_, rfl⟩ | ⟨y, hr_, rfl⟩)⟩
    rotate_left
    · have hrj := Hr2.out
      rw [hr_] at hrj
      have Hf := Lib.hid (And.intro (H2.out.trans hs_) (And.intro hm_ hrj))
      clear hs_ hm_ hr_ hrj
      unfold quitP
      go_wp2_with fail
      exact ⟨rfl, F3, Hf.out.1, s3, Hf.out.2.1, .inr ⟨y, Hf.out.2.2, rfl⟩⟩
    have Hf := Lib.hid (And.intro (H2.out.trans hs_) (And.intro hm_ (Hr2.out.trans hr_)))
    clear hs_ hm_ hr_
    go_wp2_with fail
    first | go_end0 | refine bodyPost_ret (results_none rfl _ _ _) rfl ?_
    exact ⟨F3, Hf.out.1, s3, Hf.out.2.1, .inl ⟨(), Hf.out.2.2, rfl⟩⟩
  · rw [if_neg (by decide), if_neg (by decide), if_pos rfl] at hr
    have Hr0 := Lib.hid hr
    clear hr
    go_enter Tryz.func103, Tryz.ntmps103
    go_wp2_with fail
    refine (need_any 3 (by decide) M0.out W0.out.1.depth).mono ?_
    rintro e w1 ⟨F1, hs_, s1, hm_, (⟨a1, hr_, rfl⟩ | ⟨y, hr_, rfl⟩)⟩
    rotate_left
    · have hrj := Hr0.out
      rw [hr_] at hrj
      have Hf := Lib.hid (And.intro (H0.out.trans hs_) (And.intro hm_ hrj))
      clear hs_ hm_ hr_ hrj
      unfold quitP
      go_wp2_with fail
      exact ⟨rfl, F1, Hf.out.1, s1, Hf.out.2.1, .inr ⟨y, Hf.out.2.2, rfl⟩⟩
    have hrj := Hr0.out
    have hw_ := need_wf W0.out.1 3
    have hl_ := (need_len hr_).2
    rw [hr_] at hrj hw_
    rw [VR.then_ok] at hrj
    try dsimp only at hrj
    have H1 := Lib.hid (H0.out.trans hs_)
    have S1 := Lib.hid hs_
    have M1 := Lib.hid hm_
    have Hr1 := Lib.hid hrj
    have W1 := Lib.hid (show _ ∧ _ from hw_)
    have L1 := Lib.hid hl_
    clear hs_ hm_ hr_ hrj hw_ hl_
    go_wp2_with fail
    refine (num_any M1.out W1.out.1.depth (by have := L1.out; omega)).mono ?_
    rintro e w2 ⟨F2, hs_, s2, hm_, (⟨b2, hr_, rfl⟩ | ⟨y, hr_, rfl⟩)⟩
    rotate_left
    · have hrj := Hr1.out
      rw [hr_] at hrj
      have Hf := Lib.hid (And.intro (H1.out.trans hs_) (And.intro hm_ hrj))
      clear hs_ hm_ hr_ hrj
      unfold quitP
      go_wp2_with fail
      exact ⟨rfl, F2, Hf.out.1, s2, Hf.out.2.1, .inr ⟨y, Hf.out.2.2, rfl⟩⟩
    have hrj := Hr1.out
    have hw_ := num_wf W1.out.1
    have hl_ := (show s1.stack.length - 1 ≤ s2.stack.length by rw [num_off hr_, off_len]; exact Nat.le_refl _)
    rw [hr_] at hrj hw_
    rw [VR.then_ok] at hrj
    try dsimp only at hrj
    have H2 := Lib.hid (H1.out.trans hs_)
    have S2 := Lib.hid hs_
    have M2 := Lib.hid hm_
    have Hr2 := Lib.hid hrj
    have W2 := Lib.hid (show _ ∧ _ from hw_)
    have L2 := Lib.hid hl_
    clear hs_ hm_ hr_ hrj hw_ hl_
    have L2 := Lib.hid (Nat.le_trans (Nat.sub_le_sub_right L1.out 1) L2.out)
    go_wp2_with fail
    refine (num_any M2.out W2.out.1.depth (by have := L2.out; omega)).mono ?_
    rintro e w3 ⟨F3, hs_, s3, hm_, (⟨a3, hr_, rfl⟩ | ⟨y, hr_, rfl⟩)⟩
    rotate_left
    · have hrj := Hr2.out
      rw [hr_] at hrj
      have Hf := Lib.hid (And.intro (H2.out.trans hs_) (And.intro hm_ hrj))
      clear hs_ hm_ hr_ hrj
      unfold quitP
      go_wp2_with fail
      exact ⟨rfl, F3, Hf.out.1, s3, Hf.out.2.1, .inr ⟨y, Hf.out.2.2, rfl⟩⟩
    have hrj := Hr2.out
    have hw_ := num_wf W2.out.1
    have hl_ := (show s2.stack.length - 1 ≤ s3.stack.length by rw [num_off hr_, off_len]; exact Nat.le_refl _)
    rw [hr_] at hrj hw_
    rw [VR.then_ok] at hrj
    try dsimp only at hrj
    have H3 := Lib.hid (H2.out.trans hs_)
    have S3 := Lib.hid hs_
    have M3 := Lib.hid hm_
    have Hr3 := Lib.hid hrj
    have W3 := Lib.hid (show _ ∧ _ from hw_)
    have L3 := Lib.hid hl_
    clear hs_ hm_ hr_ hrj hw_ hl_
    have L3 := Lib.hid (Nat.le_trans (Nat.sub_le_sub_right L2.out 1) L3.out)
    go_wp2_with fail
    refine (mtext_any M3.out W3.out.1.depth (by have := L3.out; omega)).mono ?_
    rintro e w4 ⟨F4, hs_, s4, hm_, (⟨t4, hr_, rfl⟩ | ⟨y, hr_, rfl⟩)⟩
    rotate_left
    · have hrj := Hr3.out
      rw [hr_] at hrj
      have Hf := Lib.hid (And.intro (H3.out.trans hs_) (And.intro hm_ hrj))
      clear hs_ hm_ hr_ hrj
      unfold quitP
      go_wp2_with fail
      exact ⟨rfl, F4, Hf.out.1, s4, Hf.out.2.1, .inr ⟨y, Hf.out.2.2, rfl⟩⟩
    have hrj := Hr3.out
    have hw_ := txt_wf W3.out.1
    have hl_ := (show s3.stack.length - 1 ≤ s4.stack.length by rw [txt_off hr_, off_len]; exact Nat.le_refl _)
    rw [hr_] at hrj hw_
    rw [VR.then_ok] at hrj
    try dsimp only at hrj
    have H4 := Lib.hid (H3.out.trans hs_)
    have S4 := Lib.hid hs_
    have M4 := Lib.hid hm_
    have Hr4 := Lib.hid hrj
    have W4 := Lib.hid (show _ ∧ _ from hw_)
    have L4 := Lib.hid hl_
    clear hs_ hm_ hr_ hrj hw_ hl_
    have L4 := Lib.hid (Nat.le_trans (Nat.sub_le_sub_right L3.out 1) L4.out)
    have hlt4 : t4.length ≤ 2048 := W4.out.2
    have hzt : (tx t4).size = t4.length := tx_size _
    obtain ⟨tl, htl⟩ : ∃ z, z = t4.length := ⟨_, rfl⟩
    have Htl := Lib.hid htl
    rw [← htl] at hzt hlt4 Hr4
    clear htl
    by_cases ha : a3 < 0
    · have hc : a3 < 0 ∨ b2 < a3 ∨ (tl : Int) < b2 := .inl ha
      have hz := Hr4.out
      first | rw [if_pos rfl] at hz | rw [if_pos trivial] at hz | rw [if_pos (by assumption)] at hz
      replace Hr4 := Lib.hid hz
      clear hz
      clear hc
      go_wp2_with fail
      refine (HG.out _).mono ?_
      rintro e w' ⟨rfl, rfl⟩
      unfold quitP
      go_wp2_with fail
      exact ⟨rfl, F4, H4.out, s4, M4.out, .inr ⟨43, Hr4.out, rfl⟩⟩
    by_cases hb : b2 < a3
    · have hc : a3 < 0 ∨ b2 < a3 ∨ (tl : Int) < b2 := .inr (.inl hb)
      have hz := Hr4.out
      first | rw [if_pos rfl] at hz | rw [if_pos trivial] at hz | rw [if_pos (by assumption)] at hz
      replace Hr4 := Lib.hid hz
      clear hz
      clear hc
      go_wp2_with fail
      refine (HG.out _).mono ?_
      rintro e w' ⟨rfl, rfl⟩
      unfold quitP
      go_wp2_with fail
      exact ⟨rfl, F4, H4.out, s4, M4.out, .inr ⟨43, Hr4.out, rfl⟩⟩
    by_cases hd : (tl : Int) < b2
    · have hc : a3 < 0 ∨ b2 < a3 ∨ (tl : Int) < b2 := .inr (.inr hd)
      have hz := Hr4.out
      first | rw [if_pos rfl] at hz | rw [if_pos trivial] at hz | rw [if_pos (by assumption)] at hz
      replace Hr4 := Lib.hid hz
      clear hz
      clear hc
      go_wp2_with fail
      refine (HG.out _).mono ?_
      rintro e w' ⟨rfl, rfl⟩
      unfold quitP
      go_wp2_with fail
      exact ⟨rfl, F4, H4.out, s4, M4.out, .inr ⟨43, Hr4.out, rfl⟩⟩
    · have hc : ¬ (a3 < 0 ∨ b2 < a3 ∨ (tl : Int) < b2) := by omega
      have hz := Hr4.out
      rw [if_neg (by first | assumption | decide | omega)] at hz
      replace Hr4 := Lib.hid hz
      clear hz
      clear hc
      obtain ⟨an, rfl⟩ : ∃ n : Nat, a3 = n := ⟨a3.toNat, by omega⟩
      obtain ⟨bn, rfl⟩ : ∃ n : Nat, b2 = n := ⟨b2.toNat, by omega⟩
      have hab : an ≤ bn := by omega
      have hbt : bn ≤ tl := by omega
      have hcut : (tx t4).extract an bn = tx (cutT t4 an bn) := cut_tx t4 an bn hab (by rw [← Htl.out]; exact hbt)
      clear ha hb hd
      go_wp2_with fail
      refine (pusht_any _ M4.out W4.out.1.depth).mono ?_
      rintro e w5 ⟨F5, hs_, s5, hm_, (⟨a, hr_, rfl⟩ | ⟨y, hr_, rfl⟩)⟩
      rotate_left
      · have hrj := Hr4.out
        rw [hr_] at hrj
        have Hf := Lib.hid (And.intro (H4.out.trans hs_) (And.intro hm_ hrj))
        clear hs_ hm_ hr_ hrj
        unfold quitP
        go_wp2_with fail
        exact ⟨rfl, F5, Hf.out.1, s5, Hf.out.2.1, .inr ⟨y, Hf.out.2.2, rfl⟩⟩
      have Hf := Lib.hid (And.intro (H4.out.trans hs_) (And.intro hm_ (Hr4.out.trans hr_)))
      clear hs_ hm_ hr_
      go_wp2_with fail
      first | go_end0 | refine bodyPost_ret (results_none rfl _ _ _) rfl ?_
      exact ⟨F5, Hf.out.1, s5, Hf.out.2.1, .inl ⟨(), Hf.out.2.2, rfl⟩⟩
  · rw [if_neg (by decide), if_neg (by decide), if_neg (by decide), if_pos rfl] at hr
    have Hr0 := Lib.hid hr
    clear hr
    go_enter Tryz.func103, Tryz.ntmps103
    go_wp2_with fail
    refine (need_any 1 (by decide) M0.out W0.out.1.depth).mono ?_
    rintro e w1 ⟨F1, hs_, s1, hm_, (⟨a1, hr_, rfl⟩ | ⟨y, hr_, rfl⟩)⟩
    rotate_left
    · have hrj := Hr0.out
      rw [hr_] at hrj
      have Hf := Lib.hid (And.intro (H0.out.trans hs_) (And.intro hm_ hrj))
      clear hs_ hm_ hr_ hrj
      unfold quitP
      go_wp2_with fail
      exact ⟨rfl, F1, Hf.out.1, s1, Hf.out.2.1, .inr ⟨y, Hf.out.2.2, rfl⟩⟩
    have hrj := Hr0.out
    have hw_ := need_wf W0.out.1 1
    have hl_ := (need_len hr_).2
    rw [hr_] at hrj hw_
    rw [VR.then_ok] at hrj
    try dsimp only at hrj
    have H1 := Lib.hid (H0.out.trans hs_)
    have S1 := Lib.hid hs_
    have M1 := Lib.hid hm_
    have Hr1 := Lib.hid hrj
    have W1 := Lib.hid (show _ ∧ _ from hw_)
    have L1 := Lib.hid hl_
    clear hs_ hm_ hr_ hrj hw_ hl_
    go_wp2_with fail
    refine (num_any M1.out W1.out.1.depth (by have := L1.out; omega)).mono ?_
    rintro e w2 ⟨F2, hs_, s2, hm_, (⟨n2, hr_, rfl⟩ | ⟨y, hr_, rfl⟩)⟩
    rotate_left
    · have hrj := Hr1.out
      rw [hr_] at hrj
      have Hf := Lib.hid (And.intro (H1.out.trans hs_) (And.intro hm_ hrj))
      clear hs_ hm_ hr_ hrj
      unfold quitP
      go_wp2_with fail
      exact ⟨rfl, F2, Hf.out.1, s2, Hf.out.2.1, .inr ⟨y, Hf.out.2.2, rfl⟩⟩
    have hrj := Hr1.out
    have hw_ := num_wf W1.out.1
    have hl_ := (show s1.stack.length - 1 ≤ s2.stack.length by rw [num_off hr_, off_len]; exact Nat.le_refl _)
    rw [hr_] at hrj hw_
    rw [VR.then_ok] at hrj
    try dsimp only at hrj
    have H2 := Lib.hid (H1.out.trans hs_)
    have S2 := Lib.hid hs_
    have M2 := Lib.hid hm_
    have Hr2 := Lib.hid hrj
    have W2 := Lib.hid (show _ ∧ _ from hw_)
    have L2 := Lib.hid hl_
    clear hs_ hm_ hr_ hrj hw_ hl_
    have L2 := Lib.hid (Nat.le_trans (Nat.sub_le_sub_right L1.out 1) L2.out)
    have HI := Lib.hid (itoa_any n2 W2.out.2.1 W2.out.2.2 base w2 (HLB.out _ _ H2.out))
    go_wp2_with fail
    refine HI.out.mono ?_
    rintro e w3 ⟨rfl, hc3⟩
    have N2 := Lib.hid M2.out.bound
    replace H2 := Lib.hid (H2.out.trans (MStep.of_chg hc3))
    replace M2 := Lib.hid (M2.out.keep hc3)
    clear hc3
    go_wp2_with fail
    refine (pusht_any (itoaL n2) M2.out W2.out.1.depth).mono ?_
    rintro e w4 ⟨F4, hs_, s4, hm_, (⟨a, hr_, rfl⟩ | ⟨y, hr_, rfl⟩)⟩
    rotate_left
    · have hrj := Hr2.out
      rw [hr_] at hrj
      have Hf := Lib.hid (And.intro (H2.out.trans hs_) (And.intro hm_ hrj))
      clear hs_ hm_ hr_ hrj
      unfold quitP
      go_wp2_with fail
      exact ⟨rfl, F4, Hf.out.1, s4, Hf.out.2.1, .inr ⟨y, Hf.out.2.2, rfl⟩⟩
    have Hf := Lib.hid (And.intro (H2.out.trans hs_) (And.intro hm_ (Hr2.out.trans hr_)))
    clear hs_ hm_ hr_
    go_wp2_with fail
    first | go_end0 | refine bodyPost_ret (results_none rfl _ _ _) rfl ?_
    exact ⟨F4, Hf.out.1, s4, Hf.out.2.1, .inl ⟨(), Hf.out.2.2, rfl⟩⟩
  · rw [if_neg (by decide), if_neg (by decide), if_neg (by decide), if_neg (by decide)] at hr
    have Hr0 := Lib.hid hr
    clear hr
    go_enter Tryz.func103, Tryz.ntmps103
    go_wp2_with fail
    refine (need_any 1 (by decide) M0.out W0.out.1.depth).mono ?_
    rintro e w1 ⟨F1, hs_, s1, hm_, (⟨a1, hr_, rfl⟩ | ⟨y, hr_, rfl⟩)⟩
    rotate_left
    · have hrj := Hr0.out
      rw [hr_] at hrj
      have Hf := Lib.hid (And.intro (H0.out.trans hs_) (And.intro hm_ hrj))
      clear hs_ hm_ hr_ hrj
      unfold quitP
      go_wp2_with fail
      exact ⟨rfl, F1, Hf.out.1, s1, Hf.out.2.1, .inr ⟨y, Hf.out.2.2, rfl⟩⟩
    have hrj := Hr0.out
    have hw_ := need_wf W0.out.1 1
    have hl_ := (need_len hr_).2
    rw [hr_] at hrj hw_
    rw [VR.then_ok] at hrj
    try dsimp only at hrj
    have H1 := Lib.hid (H0.out.trans hs_)
    have S1 := Lib.hid hs_
    have M1 := Lib.hid hm_
    have Hr1 := Lib.hid hrj
    have W1 := Lib.hid (show _ ∧ _ from hw_)
    have L1 := Lib.hid hl_
    clear hs_ hm_ hr_ hrj hw_ hl_
    go_wp2_with fail
    refine (mtext_any M1.out W1.out.1.depth (by have := L1.out; omega)).mono ?_
    rintro e w2 ⟨F2, hs_, s2, hm_, (⟨t2, hr_, rfl⟩ | ⟨y, hr_, rfl⟩)⟩
    rotate_left
    · have hrj := Hr1.out
      rw [hr_] at hrj
      have Hf := Lib.hid (And.intro (H1.out.trans hs_) (And.intro hm_ hrj))
      clear hs_ hm_ hr_ hrj
      unfold quitP
      go_wp2_with fail
      exact ⟨rfl, F2, Hf.out.1, s2, Hf.out.2.1, .inr ⟨y, Hf.out.2.2, rfl⟩⟩
    have hrj := Hr1.out
    have hw_ := txt_wf W1.out.1
    have hl_ := (show s1.stack.length - 1 ≤ s2.stack.length by rw [txt_off hr_, off_len]; exact Nat.le_refl _)
    rw [hr_] at hrj hw_
    rw [VR.then_ok] at hrj
    try dsimp only at hrj
    have H2 := Lib.hid (H1.out.trans hs_)
    have S2 := Lib.hid hs_
    have M2 := Lib.hid hm_
    have Hr2 := Lib.hid hrj
    have W2 := Lib.hid (show _ ∧ _ from hw_)
    have L2 := Lib.hid hl_
    clear hs_ hm_ hr_ hrj hw_ hl_
    have L2 := Lib.hid (Nat.le_trans (Nat.sub_le_sub_right L1.out 1) L2.out)
    have HD := digits_any (tx t2) base w2 (HLB.out _ _ H2.out) (by rw [tx_size]; have h : t2.length ≤ 2048 := W2.out.2; omega)
    rw [tx_list] at HD
    have hdi := digP_in t2
    cases hdp : digP t2 with
    | none =>
      rw [hdp] at HD hdi
      have hz := Hr2.out
      rw [hdp] at hz
      try simp only [Option.isSome_none] at hz
      replace Hr2 := Lib.hid hz
      have HDh := Lib.hid HD
      clear hz hdp hdi HD
      go_wp2_with fail
      refine HDh.out.mono ?_
      rintro e w3 ⟨hc3, rfl⟩
      have N2 := Lib.hid M2.out.bound
      replace H2 := Lib.hid (H2.out.trans (MStep.of_chg hc3))
      replace M2 := Lib.hid (M2.out.keep hc3)
      clear hc3
      go_wp2_with fail
      refine (push_any (numV 0) M2.out W2.out.1.depth).mono ?_
      rintro e w4 ⟨F4, hs_, s4, hm_, (⟨a4, hr_, rfl⟩ | ⟨y, hr_, rfl⟩)⟩
      rotate_left
      · have hrj := Hr2.out
        rw [hr_] at hrj
        have Hf := Lib.hid (And.intro (H2.out.trans hs_) (And.intro hm_ hrj))
        clear hs_ hm_ hr_ hrj
        unfold quitP
        go_wp2_with fail
        exact ⟨rfl, F4, Hf.out.1, s4, Hf.out.2.1, .inr ⟨y, Hf.out.2.2, rfl⟩⟩
      have hrj := Hr2.out
      have hw_ := push_wf W2.out.1 (numV_wf (n := 0) (by decide))
      have hl_ := trivial
      rw [hr_] at hrj hw_
      rw [VR.then_ok] at hrj
      try dsimp only at hrj
      have H4 := Lib.hid (H2.out.trans hs_)
      have S4 := Lib.hid hs_
      have M4 := Lib.hid hm_
      have Hr4 := Lib.hid hrj
      have W4 := Lib.hid (show _ ∧ _ from hw_)
      have L4 := Lib.hid hl_
      clear hs_ hm_ hr_ hrj hw_ hl_
      go_wp2_with fail
      refine (pushb_any false M4.out W4.out.1.depth).mono ?_
      rintro e w5 ⟨F5, hs_, s5, hm_, (⟨a, hr_, rfl⟩ | ⟨y, hr_, rfl⟩)⟩
      rotate_left
      · have hrj := Hr4.out
        rw [hr_] at hrj
        have Hf := Lib.hid (And.intro (H4.out.trans hs_) (And.intro hm_ hrj))
        clear hs_ hm_ hr_ hrj
        unfold quitP
        go_wp2_with fail
        exact ⟨rfl, F5, Hf.out.1, s5, Hf.out.2.1, .inr ⟨y, Hf.out.2.2, rfl⟩⟩
      have Hf := Lib.hid (And.intro (H4.out.trans hs_) (And.intro hm_ (Hr4.out.trans hr_)))
      clear hs_ hm_ hr_
      go_wp2_with fail
      first | go_end0 | refine bodyPost_ret (results_none rfl _ _ _) rfl ?_
      exact ⟨F5, Hf.out.1, s5, Hf.out.2.1, .inl ⟨(), Hf.out.2.2, rfl⟩⟩
    | some n =>
      rw [hdp] at HD hdi
      have hz := Hr2.out
      rw [hdp] at hz
      try simp only [Option.isSome_some] at hz
      simp only at hdi
      replace Hr2 := Lib.hid hz
      have HDh := Lib.hid HD
      have Hdi := Lib.hid hdi
      clear hz hdp hdi HD
      go_wp2_with fail
      refine HDh.out.mono ?_
      rintro e w3 ⟨hc3, rfl⟩
      have N2 := Lib.hid M2.out.bound
      replace H2 := Lib.hid (H2.out.trans (MStep.of_chg hc3))
      replace M2 := Lib.hid (M2.out.keep hc3)
      clear hc3
      go_wp2_with fail
      refine (push_any (numV n) M2.out W2.out.1.depth).mono ?_
      rintro e w4 ⟨F4, hs_, s4, hm_, (⟨a4, hr_, rfl⟩ | ⟨y, hr_, rfl⟩)⟩
      rotate_left
      · have hrj := Hr2.out
        rw [hr_] at hrj
        have Hf := Lib.hid (And.intro (H2.out.trans hs_) (And.intro hm_ hrj))
        clear hs_ hm_ hr_ hrj
        unfold quitP
        go_wp2_with fail
        exact ⟨rfl, F4, Hf.out.1, s4, Hf.out.2.1, .inr ⟨y, Hf.out.2.2, rfl⟩⟩
      have hrj := Hr2.out
      have hw_ := push_wf W2.out.1 (numV_wf Hdi.out)
      have hl_ := trivial
      rw [hr_] at hrj hw_
      rw [VR.then_ok] at hrj
      try dsimp only at hrj
      have H4 := Lib.hid (H2.out.trans hs_)
      have S4 := Lib.hid hs_
      have M4 := Lib.hid hm_
      have Hr4 := Lib.hid hrj
      have W4 := Lib.hid (show _ ∧ _ from hw_)
      have L4 := Lib.hid hl_
      clear hs_ hm_ hr_ hrj hw_ hl_
      go_wp2_with fail
      refine (pushb_any true M4.out W4.out.1.depth).mono ?_
      rintro e w5 ⟨F5, hs_, s5, hm_, (⟨a, hr_, rfl⟩ | ⟨y, hr_, rfl⟩)⟩
      rotate_left
      · have hrj := Hr4.out
        rw [hr_] at hrj
        have Hf := Lib.hid (And.intro (H4.out.trans hs_) (And.intro hm_ hrj))
        clear hs_ hm_ hr_ hrj
        unfold quitP
        go_wp2_with fail
        exact ⟨rfl, F5, Hf.out.1, s5, Hf.out.2.1, .inr ⟨y, Hf.out.2.2, rfl⟩⟩
      have Hf := Lib.hid (And.intro (H4.out.trans hs_) (And.intro hm_ (Hr4.out.trans hr_)))
      clear hs_ hm_ hr_
      go_wp2_with fail
      first | go_end0 | refine bodyPost_ret (results_none rfl _ _ _) rfl ?_
      exact ⟨F5, Hf.out.1, s5, Hf.out.2.1, .inl ⟨(), Hf.out.2.2, rfl⟩⟩
end Go.Proofs.YthehpmffkkogpaaGreatDoor
