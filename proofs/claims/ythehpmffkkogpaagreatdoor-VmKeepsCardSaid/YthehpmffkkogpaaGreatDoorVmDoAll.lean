/- The contract of one instruction of a machine. Conditions: a machine as it ever is; an instruction that stands; the library's variables read as listed; the view is a tree that can be. -/
import Derived.Test.YthehpmffkkogpaaGreatDoorVmFile


namespace Go.Proofs.YthehpmffkkogpaaGreatDoor
set_option linter.unusedVariables false
open Go.ChangeShapes Go.WideShapes Go.ChangeAt Go.RowKit
theorem do_shift {view : List FileL} {op n : Int} {t : List UInt8} {s : MSt} (h : op = 4 ∨ op = 5 ∨ op = 6) : doR view ⟨op, n, t⟩ s = shiftR op s := by
  unfold doR; simp only; rw [if_neg (by omega), if_neg (by omega), if_neg (by omega), if_neg (by omega), if_neg (by omega), if_pos h]
theorem do_reck {view : List FileL} {op n : Int} {t : List UInt8} {s : MSt} (h : 9 ≤ op ∧ op ≤ 13) : doR view ⟨op, n, t⟩ s = reckR op s := by
  unfold doR; simp only; rw [if_neg (by omega), if_neg (by omega), if_neg (by omega), if_neg (by omega), if_neg (by omega), if_neg (by omega), if_pos h]
theorem do_ask {view : List FileL} {op n : Int} {t : List UInt8} {s : MSt} (h : 14 ≤ op ∧ op ≤ 16) : doR view ⟨op, n, t⟩ s = askR op s := by
  unfold doR; simp only; rw [if_neg (by omega), if_neg (by omega), if_neg (by omega), if_neg (by omega), if_neg (by omega), if_neg (by omega), if_neg (by omega), if_pos h]
theorem do_turn {view : List FileL} {op n : Int} {t : List UInt8} {s : MSt} (h : 17 ≤ op ∧ op ≤ 20) : doR view ⟨op, n, t⟩ s = turnR op n s := by
  unfold doR; simp only; rw [if_neg (by omega), if_neg (by omega), if_neg (by omega), if_neg (by omega), if_neg (by omega), if_neg (by omega), if_neg (by omega), if_neg (by omega), if_pos h]
theorem do_spell {view : List FileL} {op n : Int} {t : List UInt8} {s : MSt} (h : 21 ≤ op ∧ op ≤ 25) : doR view ⟨op, n, t⟩ s = spellR op s := by
  unfold doR; simp only; rw [if_neg (by omega), if_neg (by omega), if_neg (by omega), if_neg (by omega), if_neg (by omega), if_neg (by omega), if_neg (by omega), if_neg (by omega), if_neg (by omega), if_pos h]
theorem do_file {view : List FileL} {op n : Int} {t : List UInt8} {s : MSt} (h : 26 ≤ op ∧ op ≤ 29) : doR view ⟨op, n, t⟩ s = fileR view op s := by
  unfold doR; simp only; rw [if_neg (by omega), if_neg (by omega), if_neg (by omega), if_neg (by omega), if_neg (by omega), if_neg (by omega), if_neg (by omega), if_neg (by omega), if_neg (by omega), if_neg (by omega), if_pos h]
set_option maxHeartbeats 8000000 in
set_option maxRecDepth 20000 in
theorem doA_any (op n : Int) (t : List UInt8) {w0 : World} {lo mb : Nat} {pv : Value} {s0 : MSt} {st : Nat} {ft : Int} {F0 : Value × Value} {len : Int} {view : List FileL} {vq : Option Addr} {vc kb ko : Nat} (hm : Mach w0 lo mb pv (.slice vq view.length vc) s0 st ft F0) (wf : WfS len s0) (hview : InpS w0 (fun k => k < mb) (.slice vq view.length vc) view kb ko) (hgv : goodF view = true) (base : Nat) (hlb : Lb base w0) (hbase : base ≤ mb) (hop : op = 4 ∨ op = 5 ∨ op = 6 ∨ op = 14 ∨ op = 15 ∨ op = 16) :
    Calls Tryz.prog 75 #[.pointer (some ⟨mb, 0, none⟩), .agg #[.int .i64 op, .int .i64 n, .string (tx t)]] w0 (VOut lo mb pv (.slice vq view.length vc) st ft F0 (doR view ⟨op, n, t⟩ s0) (fun _ => .tuple #[]) w0) := by
  have hal_ := (Chg.refl NoB w0).alloc (.cells #[.int .i64 op, .int .i64 n, .string (tx t)] 46)
  have hb_ := heap_alloc_new w0 (.cells #[.int .i64 op, .int .i64 n, .string (tx t)] 46)
  obtain ⟨xb, hxb_⟩ : ∃ b, b = w0.heap.size := ⟨_, rfl⟩
  obtain ⟨w9, hw_⟩ : ∃ w_, w0.alloc (.cells #[.int .i64 op, .int .i64 n, .string (tx t)] 46) = w_ := ⟨_, rfl⟩
  have hz_ : w9.heap.size = xb + 1 := by rw [← hw_, hxb_]; exact alloc_size _ _
  rw [hw_] at hal_ hb_
  rw [← hxb_] at hb_
  have Hw9 := Lib.hid hw_
  have Hx9 := Lib.hid hxb_
  have Ha9 := Lib.hid hal_
  have Hb9 := Lib.hid hb_
  have Hz9 := Lib.hid hz_
  clear hal_ hb_ hxb_ hw_ hz_
  obtain ⟨r, hr⟩ : ∃ r, r = doR view ⟨op, n, t⟩ s0 := ⟨_, rfl⟩
  rw [← hr]
  have H0 := Lib.hid (MStep.of_chg (mb := mb) (F := F0) Ha9.out)
  have M0 := Lib.hid (hm.keep Ha9.out)
  have W0 := Lib.hid (And.intro wf (trivial : True))
  have N0 := Lib.hid hm.bound
  have X0 := Lib.hid (hview.keep Ha9.out fun _ _ => id)
  have LB0 := Lib.hid (hlb.keep Ha9.out)
  have Hgv := Lib.hid hgv
  obtain ⟨x0, x1, x2⟩ := var3 Hb9.out
  clear hm wf hview hlb hgv
  have h2 : (op = 4 ∨ op = 5 ∨ op = 6) ∨ (op = 14 ∨ op = 15 ∨ op = 16) := by omega
  rcases h2 with h | h
  · rw [do_shift h] at hr
    rcases h with rfl | rfl | rfl
    all_goals
      clear hop
      have Hr0 := Lib.hid hr
      clear hr
      go_enter Tryz.func75, Tryz.ntmps75
      go_upto_region 1 with fail
      rw [Hw9.out, ← Hx9.out]
      go_wp2_with fail
      refine (shift_any _ M0.out W0.out.1 (by decide)).mono ?_
      rintro e w1 ⟨F1, hs_, s1, hm_, (⟨a, hr_, rfl⟩ | ⟨y, hr_, rfl⟩)⟩
      rotate_left
      · have hrj := Hr0.out
        rw [hr_] at hrj
        have Hf := Lib.hid (And.intro (H0.out.trans hs_) (And.intro hm_ hrj))
        clear hs_ hm_ hr_ hrj
        unfold quitP
        go_wp2_with fail
        exact ⟨rfl, F1, Hf.out.1, s1, Hf.out.2.1, .inr ⟨y, Hf.out.2.2, rfl⟩⟩
      have Hf := Lib.hid (And.intro (H0.out.trans hs_) (And.intro hm_ (Hr0.out.trans hr_)))
      clear hs_ hm_ hr_
      go_wp2_with fail
      first | go_end0 | refine bodyPost_ret (results_none rfl _ _ _) rfl ?_
      exact ⟨F1, Hf.out.1, s1, Hf.out.2.1, .inl ⟨(), Hf.out.2.2, rfl⟩⟩
  · rw [do_ask (by omega)] at hr
    rcases h with rfl | rfl | rfl
    all_goals
      clear hop
      have Hr0 := Lib.hid hr
      clear hr
      go_enter Tryz.func75, Tryz.ntmps75
      go_upto_region 1 with fail
      rw [Hw9.out, ← Hx9.out]
      go_wp2_with fail
      refine (ask_any _ M0.out W0.out.1 (by decide)).mono ?_
      rintro e w1 ⟨F1, hs_, s1, hm_, (⟨a, hr_, rfl⟩ | ⟨y, hr_, rfl⟩)⟩
      rotate_left
      · have hrj := Hr0.out
        rw [hr_] at hrj
        have Hf := Lib.hid (And.intro (H0.out.trans hs_) (And.intro hm_ hrj))
        clear hs_ hm_ hr_ hrj
        unfold quitP
        go_wp2_with fail
        exact ⟨rfl, F1, Hf.out.1, s1, Hf.out.2.1, .inr ⟨y, Hf.out.2.2, rfl⟩⟩
      have Hf := Lib.hid (And.intro (H0.out.trans hs_) (And.intro hm_ (Hr0.out.trans hr_)))
      clear hs_ hm_ hr_
      go_wp2_with fail
      first | go_end0 | refine bodyPost_ret (results_none rfl _ _ _) rfl ?_
      exact ⟨F1, Hf.out.1, s1, Hf.out.2.1, .inl ⟨(), Hf.out.2.2, rfl⟩⟩
set_option maxHeartbeats 8000000 in
set_option maxRecDepth 20000 in
theorem doB_any (op n : Int) (t : List UInt8) {w0 : World} {lo mb : Nat} {pv : Value} {s0 : MSt} {st : Nat} {ft : Int} {F0 : Value × Value} {len : Int} {view : List FileL} {vq : Option Addr} {vc kb ko : Nat} (hm : Mach w0 lo mb pv (.slice vq view.length vc) s0 st ft F0) (wf : WfS len s0) (hview : InpS w0 (fun k => k < mb) (.slice vq view.length vc) view kb ko) (hgv : goodF view = true) (base : Nat) (hlb : Lb base w0) (hbase : base ≤ mb) (hop : op = 17 ∨ op = 18 ∨ op = 19 ∨ op = 20) :
    Calls Tryz.prog 75 #[.pointer (some ⟨mb, 0, none⟩), .agg #[.int .i64 op, .int .i64 n, .string (tx t)]] w0 (VOut lo mb pv (.slice vq view.length vc) st ft F0 (doR view ⟨op, n, t⟩ s0) (fun _ => .tuple #[]) w0) := by
  have hal_ := (Chg.refl NoB w0).alloc (.cells #[.int .i64 op, .int .i64 n, .string (tx t)] 46)
  have hb_ := heap_alloc_new w0 (.cells #[.int .i64 op, .int .i64 n, .string (tx t)] 46)
  obtain ⟨xb, hxb_⟩ : ∃ b, b = w0.heap.size := ⟨_, rfl⟩
  obtain ⟨w9, hw_⟩ : ∃ w_, w0.alloc (.cells #[.int .i64 op, .int .i64 n, .string (tx t)] 46) = w_ := ⟨_, rfl⟩
  have hz_ : w9.heap.size = xb + 1 := by rw [← hw_, hxb_]; exact alloc_size _ _
  rw [hw_] at hal_ hb_
  rw [← hxb_] at hb_
  have Hw9 := Lib.hid hw_
  have Hx9 := Lib.hid hxb_
  have Ha9 := Lib.hid hal_
  have Hb9 := Lib.hid hb_
  have Hz9 := Lib.hid hz_
  clear hal_ hb_ hxb_ hw_ hz_
  obtain ⟨r, hr⟩ : ∃ r, r = doR view ⟨op, n, t⟩ s0 := ⟨_, rfl⟩
  rw [← hr]
  have H0 := Lib.hid (MStep.of_chg (mb := mb) (F := F0) Ha9.out)
  have M0 := Lib.hid (hm.keep Ha9.out)
  have W0 := Lib.hid (And.intro wf (trivial : True))
  have N0 := Lib.hid hm.bound
  have X0 := Lib.hid (hview.keep Ha9.out fun _ _ => id)
  have LB0 := Lib.hid (hlb.keep Ha9.out)
  have Hgv := Lib.hid hgv
  obtain ⟨x0, x1, x2⟩ := var3 Hb9.out
  clear hm wf hview hlb hgv
  rw [do_turn (by omega)] at hr
  rcases hop with rfl | rfl | rfl | rfl
  all_goals
    have Hr0 := Lib.hid hr
    clear hr
    go_enter Tryz.func75, Tryz.ntmps75
    go_upto_region 1 with fail
    rw [Hw9.out, ← Hx9.out]
    go_wp2_with fail
    refine (turn_any _ n t M0.out W0.out.1 (by decide)).mono ?_
    rintro e w1 ⟨F1, hs_, s1, hm_, (⟨a, hr_, rfl⟩ | ⟨y, hr_, rfl⟩)⟩
    rotate_left
    · have hrj := Hr0.out
      rw [hr_] at hrj
      have Hf := Lib.hid (And.intro (H0.out.trans hs_) (And.intro hm_ hrj))
      clear hs_ hm_ hr_ hrj
      unfold quitP
      go_wp2_with fail
      exact ⟨rfl, F1, Hf.out.1, s1, Hf.out.2.1, .inr ⟨y, Hf.out.2.2, rfl⟩⟩
    have Hf := Lib.hid (And.intro (H0.out.trans hs_) (And.intro hm_ (Hr0.out.trans hr_)))
    clear hs_ hm_ hr_
    go_wp2_with fail
    first | go_end0 | refine bodyPost_ret (results_none rfl _ _ _) rfl ?_
    exact ⟨F1, Hf.out.1, s1, Hf.out.2.1, .inl ⟨(), Hf.out.2.2, rfl⟩⟩
set_option maxHeartbeats 8000000 in
set_option maxRecDepth 20000 in
theorem doC_any (op n : Int) (t : List UInt8) {w0 : World} {lo mb : Nat} {pv : Value} {s0 : MSt} {st : Nat} {ft : Int} {F0 : Value × Value} {len : Int} {view : List FileL} {vq : Option Addr} {vc kb ko : Nat} (hm : Mach w0 lo mb pv (.slice vq view.length vc) s0 st ft F0) (wf : WfS len s0) (hview : InpS w0 (fun k => k < mb) (.slice vq view.length vc) view kb ko) (hgv : goodF view = true) (base : Nat) (hlb : Lb base w0) (hbase : base ≤ mb) (hop : op = 21 ∨ op = 22 ∨ op = 23 ∨ op = 24 ∨ op = 25) :
    Calls Tryz.prog 75 #[.pointer (some ⟨mb, 0, none⟩), .agg #[.int .i64 op, .int .i64 n, .string (tx t)]] w0 (VOut lo mb pv (.slice vq view.length vc) st ft F0 (doR view ⟨op, n, t⟩ s0) (fun _ => .tuple #[]) w0) := by
  have hal_ := (Chg.refl NoB w0).alloc (.cells #[.int .i64 op, .int .i64 n, .string (tx t)] 46)
  have hb_ := heap_alloc_new w0 (.cells #[.int .i64 op, .int .i64 n, .string (tx t)] 46)
  obtain ⟨xb, hxb_⟩ : ∃ b, b = w0.heap.size := ⟨_, rfl⟩
  obtain ⟨w9, hw_⟩ : ∃ w_, w0.alloc (.cells #[.int .i64 op, .int .i64 n, .string (tx t)] 46) = w_ := ⟨_, rfl⟩
  have hz_ : w9.heap.size = xb + 1 := by rw [← hw_, hxb_]; exact alloc_size _ _
  rw [hw_] at hal_ hb_
  rw [← hxb_] at hb_
  have Hw9 := Lib.hid hw_
  have Hx9 := Lib.hid hxb_
  have Ha9 := Lib.hid hal_
  have Hb9 := Lib.hid hb_
  have Hz9 := Lib.hid hz_
  clear hal_ hb_ hxb_ hw_ hz_
  obtain ⟨r, hr⟩ : ∃ r, r = doR view ⟨op, n, t⟩ s0 := ⟨_, rfl⟩
  rw [← hr]
  have H0 := Lib.hid (MStep.of_chg (mb := mb) (F := F0) Ha9.out)
  have M0 := Lib.hid (hm.keep Ha9.out)
  have W0 := Lib.hid (And.intro wf (trivial : True))
  have N0 := Lib.hid hm.bound
  have X0 := Lib.hid (hview.keep Ha9.out fun _ _ => id)
  have LB0 := Lib.hid (hlb.keep Ha9.out)
  have Hgv := Lib.hid hgv
  obtain ⟨x0, x1, x2⟩ := var3 Hb9.out
  clear hm wf hview hlb hgv
  rw [do_spell (by omega)] at hr
  rcases hop with rfl | rfl | rfl | rfl | rfl
  all_goals
    have Hr0 := Lib.hid hr
    clear hr
    go_enter Tryz.func75, Tryz.ntmps75
    go_upto_region 1 with fail
    rw [Hw9.out, ← Hx9.out]
    go_wp2_with fail
    refine (spell_any _ M0.out W0.out.1 (by decide) base LB0.out hbase).mono ?_
    rintro e w1 ⟨F1, hs_, s1, hm_, (⟨a, hr_, rfl⟩ | ⟨y, hr_, rfl⟩)⟩
    rotate_left
    · have hrj := Hr0.out
      rw [hr_] at hrj
      have Hf := Lib.hid (And.intro (H0.out.trans hs_) (And.intro hm_ hrj))
      clear hs_ hm_ hr_ hrj
      unfold quitP
      go_wp2_with fail
      exact ⟨rfl, F1, Hf.out.1, s1, Hf.out.2.1, .inr ⟨y, Hf.out.2.2, rfl⟩⟩
    have Hf := Lib.hid (And.intro (H0.out.trans hs_) (And.intro hm_ (Hr0.out.trans hr_)))
    clear hs_ hm_ hr_
    go_wp2_with fail
    first | go_end0 | refine bodyPost_ret (results_none rfl _ _ _) rfl ?_
    exact ⟨F1, Hf.out.1, s1, Hf.out.2.1, .inl ⟨(), Hf.out.2.2, rfl⟩⟩
set_option maxHeartbeats 8000000 in
set_option maxRecDepth 20000 in
theorem doD_any (op n : Int) (t : List UInt8) {w0 : World} {lo mb : Nat} {pv : Value} {s0 : MSt} {st : Nat} {ft : Int} {F0 : Value × Value} {len : Int} {view : List FileL} {vq : Option Addr} {vc kb ko : Nat} (hm : Mach w0 lo mb pv (.slice vq view.length vc) s0 st ft F0) (wf : WfS len s0) (hview : InpS w0 (fun k => k < mb) (.slice vq view.length vc) view kb ko) (hgv : goodF view = true) (base : Nat) (hlb : Lb base w0) (hbase : base ≤ mb) (hop : op = 26 ∨ op = 27 ∨ op = 28 ∨ op = 29) :
    Calls Tryz.prog 75 #[.pointer (some ⟨mb, 0, none⟩), .agg #[.int .i64 op, .int .i64 n, .string (tx t)]] w0 (VOut lo mb pv (.slice vq view.length vc) st ft F0 (doR view ⟨op, n, t⟩ s0) (fun _ => .tuple #[]) w0) := by
  have hal_ := (Chg.refl NoB w0).alloc (.cells #[.int .i64 op, .int .i64 n, .string (tx t)] 46)
  have hb_ := heap_alloc_new w0 (.cells #[.int .i64 op, .int .i64 n, .string (tx t)] 46)
  obtain ⟨xb, hxb_⟩ : ∃ b, b = w0.heap.size := ⟨_, rfl⟩
  obtain ⟨w9, hw_⟩ : ∃ w_, w0.alloc (.cells #[.int .i64 op, .int .i64 n, .string (tx t)] 46) = w_ := ⟨_, rfl⟩
  have hz_ : w9.heap.size = xb + 1 := by rw [← hw_, hxb_]; exact alloc_size _ _
  rw [hw_] at hal_ hb_
  rw [← hxb_] at hb_
  have Hw9 := Lib.hid hw_
  have Hx9 := Lib.hid hxb_
  have Ha9 := Lib.hid hal_
  have Hb9 := Lib.hid hb_
  have Hz9 := Lib.hid hz_
  clear hal_ hb_ hxb_ hw_ hz_
  obtain ⟨r, hr⟩ : ∃ r, r = doR view ⟨op, n, t⟩ s0 := ⟨_, rfl⟩
  rw [← hr]
  have H0 := Lib.hid (MStep.of_chg (mb := mb) (F := F0) Ha9.out)
  have M0 := Lib.hid (hm.keep Ha9.out)
  have W0 := Lib.hid (And.intro wf (trivial : True))
  have N0 := Lib.hid hm.bound
  have X0 := Lib.hid (hview.keep Ha9.out fun _ _ => id)
  have LB0 := Lib.hid (hlb.keep Ha9.out)
  have Hgv := Lib.hid hgv
  obtain ⟨x0, x1, x2⟩ := var3 Hb9.out
  clear hm wf hview hlb hgv
  rw [do_file (by omega)] at hr
  rcases hop with rfl | rfl | rfl | rfl
  · skip
    have Hr0 := Lib.hid hr
    clear hr
    go_enter Tryz.func75, Tryz.ntmps75
    go_upto_region 1 with fail
    rw [Hw9.out, ← Hx9.out]
    go_wp2_with fail
    refine (file26_any M0.out W0.out.1 X0.out Hgv.out base LB0.out hbase).mono ?_
    rintro e w1 ⟨F1, hs_, s1, hm_, (⟨a, hr_, rfl⟩ | ⟨y, hr_, rfl⟩)⟩
    rotate_left
    · have hrj := Hr0.out
      rw [hr_] at hrj
      have Hf := Lib.hid (And.intro (H0.out.trans hs_) (And.intro hm_ hrj))
      clear hs_ hm_ hr_ hrj
      unfold quitP
      go_wp2_with fail
      exact ⟨rfl, F1, Hf.out.1, s1, Hf.out.2.1, .inr ⟨y, Hf.out.2.2, rfl⟩⟩
    have Hf := Lib.hid (And.intro (H0.out.trans hs_) (And.intro hm_ (Hr0.out.trans hr_)))
    clear hs_ hm_ hr_
    go_wp2_with fail
    first | go_end0 | refine bodyPost_ret (results_none rfl _ _ _) rfl ?_
    exact ⟨F1, Hf.out.1, s1, Hf.out.2.1, .inl ⟨(), Hf.out.2.2, rfl⟩⟩
  · skip
    have Hr0 := Lib.hid hr
    clear hr
    go_enter Tryz.func75, Tryz.ntmps75
    go_upto_region 1 with fail
    rw [Hw9.out, ← Hx9.out]
    go_wp2_with fail
    refine (file27_any M0.out W0.out.1 X0.out Hgv.out base LB0.out hbase).mono ?_
    rintro e w1 ⟨F1, hs_, s1, hm_, (⟨a, hr_, rfl⟩ | ⟨y, hr_, rfl⟩)⟩
    rotate_left
    · have hrj := Hr0.out
      rw [hr_] at hrj
      have Hf := Lib.hid (And.intro (H0.out.trans hs_) (And.intro hm_ hrj))
      clear hs_ hm_ hr_ hrj
      unfold quitP
      go_wp2_with fail
      exact ⟨rfl, F1, Hf.out.1, s1, Hf.out.2.1, .inr ⟨y, Hf.out.2.2, rfl⟩⟩
    have Hf := Lib.hid (And.intro (H0.out.trans hs_) (And.intro hm_ (Hr0.out.trans hr_)))
    clear hs_ hm_ hr_
    go_wp2_with fail
    first | go_end0 | refine bodyPost_ret (results_none rfl _ _ _) rfl ?_
    exact ⟨F1, Hf.out.1, s1, Hf.out.2.1, .inl ⟨(), Hf.out.2.2, rfl⟩⟩
  · skip
    have Hr0 := Lib.hid hr
    clear hr
    go_enter Tryz.func75, Tryz.ntmps75
    go_upto_region 1 with fail
    rw [Hw9.out, ← Hx9.out]
    go_wp2_with fail
    refine (file28_any M0.out W0.out.1 X0.out Hgv.out base LB0.out hbase).mono ?_
    rintro e w1 ⟨F1, hs_, s1, hm_, (⟨a, hr_, rfl⟩ | ⟨y, hr_, rfl⟩)⟩
    rotate_left
    · have hrj := Hr0.out
      rw [hr_] at hrj
      have Hf := Lib.hid (And.intro (H0.out.trans hs_) (And.intro hm_ hrj))
      clear hs_ hm_ hr_ hrj
      unfold quitP
      go_wp2_with fail
      exact ⟨rfl, F1, Hf.out.1, s1, Hf.out.2.1, .inr ⟨y, Hf.out.2.2, rfl⟩⟩
    have Hf := Lib.hid (And.intro (H0.out.trans hs_) (And.intro hm_ (Hr0.out.trans hr_)))
    clear hs_ hm_ hr_
    go_wp2_with fail
    first | go_end0 | refine bodyPost_ret (results_none rfl _ _ _) rfl ?_
    exact ⟨F1, Hf.out.1, s1, Hf.out.2.1, .inl ⟨(), Hf.out.2.2, rfl⟩⟩
  · skip
    have Hr0 := Lib.hid hr
    clear hr
    go_enter Tryz.func75, Tryz.ntmps75
    go_upto_region 1 with fail
    rw [Hw9.out, ← Hx9.out]
    go_wp2_with fail
    refine (file29_any M0.out W0.out.1 X0.out Hgv.out base LB0.out hbase).mono ?_
    rintro e w1 ⟨F1, hs_, s1, hm_, (⟨a, hr_, rfl⟩ | ⟨y, hr_, rfl⟩)⟩
    rotate_left
    · have hrj := Hr0.out
      rw [hr_] at hrj
      have Hf := Lib.hid (And.intro (H0.out.trans hs_) (And.intro hm_ hrj))
      clear hs_ hm_ hr_ hrj
      unfold quitP
      go_wp2_with fail
      exact ⟨rfl, F1, Hf.out.1, s1, Hf.out.2.1, .inr ⟨y, Hf.out.2.2, rfl⟩⟩
    have Hf := Lib.hid (And.intro (H0.out.trans hs_) (And.intro hm_ (Hr0.out.trans hr_)))
    clear hs_ hm_ hr_
    go_wp2_with fail
    first | go_end0 | refine bodyPost_ret (results_none rfl _ _ _) rfl ?_
    exact ⟨F1, Hf.out.1, s1, Hf.out.2.1, .inl ⟨(), Hf.out.2.2, rfl⟩⟩
set_option maxHeartbeats 8000000 in
set_option maxRecDepth 20000 in
theorem doE_any (op n : Int) (t : List UInt8) {w0 : World} {lo mb : Nat} {pv : Value} {s0 : MSt} {st : Nat} {ft : Int} {F0 : Value × Value} {len : Int} {view : List FileL} {vq : Option Addr} {vc kb ko : Nat} (hm : Mach w0 lo mb pv (.slice vq view.length vc) s0 st ft F0) (wf : WfS len s0) (hview : InpS w0 (fun k => k < mb) (.slice vq view.length vc) view kb ko) (hgv : goodF view = true) (base : Nat) (hlb : Lb base w0) (hbase : base ≤ mb) (hop : op = 9 ∨ op = 10 ∨ op = 11 ∨ op = 12 ∨ op = 13) :
    Calls Tryz.prog 75 #[.pointer (some ⟨mb, 0, none⟩), .agg #[.int .i64 op, .int .i64 n, .string (tx t)]] w0 (VOut lo mb pv (.slice vq view.length vc) st ft F0 (doR view ⟨op, n, t⟩ s0) (fun _ => .tuple #[]) w0) := by
  have hal_ := (Chg.refl NoB w0).alloc (.cells #[.int .i64 op, .int .i64 n, .string (tx t)] 46)
  have hb_ := heap_alloc_new w0 (.cells #[.int .i64 op, .int .i64 n, .string (tx t)] 46)
  obtain ⟨xb, hxb_⟩ : ∃ b, b = w0.heap.size := ⟨_, rfl⟩
  obtain ⟨w9, hw_⟩ : ∃ w_, w0.alloc (.cells #[.int .i64 op, .int .i64 n, .string (tx t)] 46) = w_ := ⟨_, rfl⟩
  have hz_ : w9.heap.size = xb + 1 := by rw [← hw_, hxb_]; exact alloc_size _ _
  rw [hw_] at hal_ hb_
  rw [← hxb_] at hb_
  have Hw9 := Lib.hid hw_
  have Hx9 := Lib.hid hxb_
  have Ha9 := Lib.hid hal_
  have Hb9 := Lib.hid hb_
  have Hz9 := Lib.hid hz_
  clear hal_ hb_ hxb_ hw_ hz_
  obtain ⟨r, hr⟩ : ∃ r, r = doR view ⟨op, n, t⟩ s0 := ⟨_, rfl⟩
  rw [← hr]
  have H0 := Lib.hid (MStep.of_chg (mb := mb) (F := F0) Ha9.out)
  have M0 := Lib.hid (hm.keep Ha9.out)
  have W0 := Lib.hid (And.intro wf (trivial : True))
  have N0 := Lib.hid hm.bound
  have X0 := Lib.hid (hview.keep Ha9.out fun _ _ => id)
  have LB0 := Lib.hid (hlb.keep Ha9.out)
  have Hgv := Lib.hid hgv
  obtain ⟨x0, x1, x2⟩ := var3 Hb9.out
  clear hm wf hview hlb hgv
  rw [do_reck (by omega)] at hr
  unfold reckR at hr
  have hop2 : 9 ≤ op ∧ op ≤ 13 := by omega
  have Hop := Lib.hid hop2
  clear hop2
  rcases hop with rfl | rfl | rfl | rfl | rfl
  all_goals
    have Hr0 := Lib.hid hr
    clear hr
    go_enter Tryz.func75, Tryz.ntmps75
    go_upto_region 1 with fail
    rw [Hw9.out, ← Hx9.out]
    go_wp2_with fail
    refine (need_any 2 (by decide) M0.out W0.out.1.depth).mono ?_
    rintro e w1 ⟨F1, hs_, s1, hm_, (⟨a1, hr_, rfl⟩ | ⟨y, hr_, rfl⟩)⟩
    rotate_left
    · have hrj := Hr0.out
      rw [hr_] at hrj
      have Hf := Lib.hid (And.intro (H0.out.trans hs_) (And.intro hm_ hrj))
      clear hs_ hm_ hr_ hrj
      unfold quitP
      go_wp2_with fail
      exact ⟨rfl, F1, Hf.out.1, s1, Hf.out.2.1, .inr ⟨y, Hf.out.2.2, rfl⟩⟩
    have hrj := Hr0.out
    have hw_ := need_wf W0.out.1 2
    have hl_ := (need_len hr_).2
    rw [hr_] at hrj hw_
    rw [VR.then_ok] at hrj
    try dsimp only at hrj
    have H1 := Lib.hid (H0.out.trans hs_)
    have S1 := Lib.hid hs_
    have M1 := Lib.hid hm_
    have Hr1 := Lib.hid hrj
    have W1 := Lib.hid (show _ ∧ _ from hw_)
    have L1 := Lib.hid hl_
    clear hs_ hm_ hr_ hrj hw_ hl_
    clear x0 x1 x2
    have X1 := Lib.hid (S1.out.box Hb9.out (Nat.le_of_eq Hx9.out.symm) N0.out)
    have Q1 := Lib.hid (show (∀ k, Foot F1 k → k ≠ xb) ∧ mb ≠ xb ∧ xb < w1.heap.size from ⟨fun k hk e => by
        rcases S1.out.foot k hk with h | h
        · have := N0.out.2 k h; have := Hx9.out; omega
        · have := Hz9.out; omega, by have := N0.out.1; have := Hx9.out; omega, lt_of_block X1.out⟩)
    go_wp2_with fail
    refine (num_any M1.out W1.out.1.depth (by have := L1.out; omega)).mono ?_
    rintro e w2 ⟨F2, hs_, s2, hm_, (⟨b2, hr_, rfl⟩ | ⟨y, hr_, rfl⟩)⟩
    rotate_left
    · have hrj := Hr1.out
      rw [hr_] at hrj
      have Hf := Lib.hid (And.intro (H1.out.trans hs_) (And.intro hm_ hrj))
      clear hs_ hm_ hr_ hrj
      unfold quitP
      go_wp2_with fail
      exact ⟨rfl, F2, Hf.out.1, s2, Hf.out.2.1, .inr ⟨y, Hf.out.2.2, rfl⟩⟩
    have hrj := Hr1.out
    have hw_ := num_wf W1.out.1
    have hl_ := (show s1.stack.length - 1 ≤ s2.stack.length by rw [num_off hr_, off_len]; exact Nat.le_refl _)
    rw [hr_] at hrj hw_
    rw [VR.then_ok] at hrj
    try dsimp only at hrj
    have H2 := Lib.hid (H1.out.trans hs_)
    have S2 := Lib.hid hs_
    have M2 := Lib.hid hm_
    have Hr2 := Lib.hid hrj
    have W2 := Lib.hid (show _ ∧ _ from hw_)
    have L2 := Lib.hid hl_
    clear hs_ hm_ hr_ hrj hw_ hl_
    have L2 := Lib.hid (Nat.le_trans (Nat.sub_le_sub_right L1.out 1) L2.out)
    have X2 := Lib.hid (row_kept S2.out.chg X1.out (by rintro (e | e); exact Q1.out.2.1 e.symm; exact Q1.out.1 _ e rfl))
    have Q2 := Lib.hid (show ∀ k, Foot F2 k → k ≠ xb from fun k hk e => by
        rcases S2.out.foot k hk with h | h
        · exact Q1.out.1 k h e
        · have := Q1.out.2.2; omega)
    go_wp2_with fail
    refine (num_any M2.out W2.out.1.depth (by have := L2.out; omega)).mono ?_
    rintro e w3 ⟨F3, hs_, s3, hm_, (⟨a3, hr_, rfl⟩ | ⟨y, hr_, rfl⟩)⟩
    rotate_left
    · have hrj := Hr2.out
      rw [hr_] at hrj
      have Hf := Lib.hid (And.intro (H2.out.trans hs_) (And.intro hm_ hrj))
      clear hs_ hm_ hr_ hrj
      unfold quitP
      go_wp2_with fail
      exact ⟨rfl, F3, Hf.out.1, s3, Hf.out.2.1, .inr ⟨y, Hf.out.2.2, rfl⟩⟩
    have hrj := Hr2.out
    have hw_ := num_wf W2.out.1
    have hl_ := (show s2.stack.length - 1 ≤ s3.stack.length by rw [num_off hr_, off_len]; exact Nat.le_refl _)
    rw [hr_] at hrj hw_
    rw [VR.then_ok] at hrj
    try dsimp only at hrj
    have H3 := Lib.hid (H2.out.trans hs_)
    have S3 := Lib.hid hs_
    have M3 := Lib.hid hm_
    have Hr3 := Lib.hid hrj
    have W3 := Lib.hid (show _ ∧ _ from hw_)
    have L3 := Lib.hid hl_
    clear hs_ hm_ hr_ hrj hw_ hl_
    have L3 := Lib.hid (Nat.le_trans (Nat.sub_le_sub_right L2.out 1) L3.out)
    have X3 := Lib.hid (row_kept S3.out.chg X2.out (by rintro (e | e); exact Q1.out.2.1 e.symm; exact Q2.out _ e rfl))
    obtain ⟨x0, x1, x2⟩ := var3 X3.out
    have HR := Lib.hid (reckon_any _ a3 b2 Hop.out W3.out.2 W2.out.2 w3)
    go_wp2_with fail
    refine HR.out.mono ?_
    rintro e w' ⟨rfl, (⟨k, hk, rfl⟩ | ⟨hk, rfl⟩)⟩
    rotate_left
    · have hz := Hr3.out
      rw [hk] at hz
      have Hz := Lib.hid hz
      clear hz hk
      unfold quitP
      go_wp2_with fail
      exact ⟨rfl, F3, H3.out, s3, M3.out, .inr ⟨42, Hz.out, rfl⟩⟩
    have hz := Hr3.out
    rw [hk] at hz
    replace Hr3 := Lib.hid hz
    clear hz hk HR
    go_wp2_with fail
    refine (push_any (numV k) M3.out W3.out.1.depth).mono ?_
    rintro e w4 ⟨F4, hs_, s4, hm_, (⟨a, hr_, rfl⟩ | ⟨y, hr_, rfl⟩)⟩
    rotate_left
    · have hrj := Hr3.out
      rw [hr_] at hrj
      have Hf := Lib.hid (And.intro (H3.out.trans hs_) (And.intro hm_ hrj))
      clear hs_ hm_ hr_ hrj
      unfold quitP
      go_wp2_with fail
      exact ⟨rfl, F4, Hf.out.1, s4, Hf.out.2.1, .inr ⟨y, Hf.out.2.2, rfl⟩⟩
    have Hf := Lib.hid (And.intro (H3.out.trans hs_) (And.intro hm_ (Hr3.out.trans hr_)))
    clear hs_ hm_ hr_
    go_wp2_with fail
    first | go_end0 | refine bodyPost_ret (results_none rfl _ _ _) rfl ?_
    exact ⟨F4, Hf.out.1, s4, Hf.out.2.1, .inl ⟨(), Hf.out.2.2, rfl⟩⟩
end Go.Proofs.YthehpmffkkogpaaGreatDoor
