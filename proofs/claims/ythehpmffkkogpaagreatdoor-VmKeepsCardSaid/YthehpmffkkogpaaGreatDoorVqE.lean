/- The contract of one instruction of a machine, whole. Conditions: a machine as it ever is; an instruction that stands; the library's variables read as listed; the view is a tree that can be. -/
import Derived.Test.YthehpmffkkogpaaGreatDoorVmDoAll
import Derived.Test.YthehpmffkkogpaaGreatDoorVqB
import Derived.Defers
import Derived.Recover
import Derived.Deep.QuietTactic
import Derived.BigQuiet
namespace Go.Proofs.YthehpmffkkogpaaGreatDoor
set_option linter.unusedVariables false
open Go.ChangeShapes Go.WideShapes Go.ChangeAt Go.RowKit
theorem push_ok (v : ValL) {w : World} {lo mb : Nat} {pv vv : Value} {s : MSt} {st : Nat} {ft : Int} {F : Value × Value} (hm : Mach w lo mb pv vv s st ft F) (hs : s.stack.length < 64) :
    Calls Tryz.prog 94 #[.pointer (some ⟨mb, 0, none⟩), valA v] w fun e w' => ∃ F', MStep mb F F' w w' ∧ Mach w' lo mb pv vv { s with stack := s.stack ++ [v] } st ft F' ∧ e = .returned (.tuple #[]) :=
  (push_any v hm (by omega)).mono fun e w' ⟨F', h1, s', h2, h⟩ => by
    unfold pushR at h
    rw [if_neg (by omega)] at h
    rcases h with ⟨a, ha, he⟩ | ⟨y, hy, _⟩
    · cases ha; exact ⟨F', h1, h2, he⟩
    · cases hy
theorem push_bad (v : ValL) {w : World} {lo mb : Nat} {pv vv : Value} {s : MSt} {st : Nat} {ft : Int} {F : Value × Value} (hm : Mach w lo mb pv vv s st ft F) (hs : s.stack.length = 64) :
    Calls Tryz.prog 94 #[.pointer (some ⟨mb, 0, none⟩), valA v] w fun e w' => ∃ F', MStep mb F F' w w' ∧ Mach w' lo mb pv vv s st ft F' ∧ e = .panicked [{ v := .iface 106 (.agg #[.int .i64 40]), recovered := false }] :=
  (push_any v hm (by omega)).mono fun e w' ⟨F', h1, s', h2, h⟩ => by
    unfold pushR at h
    rw [if_pos (by omega)] at h
    rcases h with ⟨a, ha, _⟩ | ⟨y, hy, he⟩
    · cases ha
    · cases hy; exact ⟨F', h1, h2, he⟩
theorem pop_ok {w : World} {lo mb : Nat} {pv vv : Value} {s : MSt} {st : Nat} {ft : Int} {F : Value × Value} (hm : Mach w lo mb pv vv s st ft F) (hs : s.stack.length ≤ 64) (hne : 1 ≤ s.stack.length) :
    Calls Tryz.prog 97 #[.pointer (some ⟨mb, 0, none⟩)] w fun e w' => ∃ F', MStep mb F F' w w' ∧ Mach w' lo mb pv vv (offS s) st ft F' ∧ e = .returned (valA (lastV s)) :=
  (pop_any hm hs hne).mono fun e w' ⟨F', h1, s', h2, h⟩ => by
    rcases h with ⟨a, ha, he⟩ | ⟨y, hy, _⟩
    · cases (Prod.mk.inj (Except.ok.inj ha)).2
      rw [← (Prod.mk.inj (Except.ok.inj ha)).1] at he
      exact ⟨F', h1, h2, he⟩
    · cases hy
theorem Mach.setDone {w : World} {lo mb : Nat} {pv vv : Value} {s : MSt} {st : Nat} {ft : Int} {F : Value × Value} (h : Mach w lo mb pv vv s st ft F) (b : Bool) : Mach (w.setCell ⟨mb, 55, none⟩ (.bool b)) lo mb pv vv { s with done := b } st ft F ∧ MStep mb F F w (w.setCell ⟨mb, 55, none⟩ (.bool b)) :=
  h.upd (s' := { s with done := b }) ((Chg.refl (fun k => k = mb) w).setCell (p := ⟨mb, 55, none⟩) (.inl rfl) _) (fun oq oc hr => by have h3 := heap_set hr (i := 55) (.bool b); rw [(machC_set_post h.loc).2.2.2.1] at h3; exact h3) h.st h.ca rfl rfl h.loc rfl
theorem Mach.setLoc {w : World} {lo mb : Nat} {pv vv : Value} {s : MSt} {st : Nat} {ft : Int} {F : Value × Value} (h : Mach w lo mb pv vv s st ft F) {i : Nat} (hi : i < 16) (v : ValL) :
    Mach (((w.setCell ⟨mb, 4 + i * 3, none⟩ (.bool v.1)).setCell ⟨mb, 4 + i * 3 + 1, none⟩ (.int .i64 v.2.1)).setCell ⟨mb, 4 + i * 3 + 2, none⟩ (.string (tx v.2.2))) lo mb pv vv { s with loc := s.loc.set i v } st ft F ∧ MStep mb F F w (((w.setCell ⟨mb, 4 + i * 3, none⟩ (.bool v.1)).setCell ⟨mb, 4 + i * 3 + 1, none⟩ (.int .i64 v.2.1)).setCell ⟨mb, 4 + i * 3 + 2, none⟩ (.string (tx v.2.2))) :=
  h.upd (s' := { s with loc := s.loc.set i v }) ((((Chg.refl (fun k => k = mb) w).setCell (p := ⟨mb, _, none⟩) (.inl rfl) _).setCell (p := ⟨mb, _, none⟩) (.inl rfl) _).setCell (p := ⟨mb, _, none⟩) (.inl rfl) _)
    (fun oq oc hr => by have h3 := heap_set (heap_set (heap_set hr (i := 4 + i * 3) (.bool v.1)) (i := 4 + i * 3 + 1) (.int .i64 v.2.1)) (i := 4 + i * 3 + 2) (.string (tx v.2.2)); rw [machC_set_loc h.loc hi] at h3; exact h3) h.st h.ca rfl rfl (by show (s.loc.set i v).length = 16; rw [List.length_set]; exact h.loc) rfl
set_option maxHeartbeats 8000000 in
set_option maxRecDepth 20000 in
theorem doF_any (op n : Int) (t : List UInt8) {w0 : World} {lo mb : Nat} {pv : Value} {s0 : MSt} {st : Nat} {ft : Int} {F0 : Value × Value} {len : Int} {view : List FileL} {vq : Option Addr} {vc kb ko : Nat} (hm : Mach w0 lo mb pv (.slice vq view.length vc) s0 st ft F0) (wf : WfS len s0) (hview : InpS w0 (fun k => k < mb) (.slice vq view.length vc) view kb ko) (hgv : goodF view = true) (base : Nat) (hlb : Lb base w0) (hbase : base ≤ mb) (hop : op = 1 ∨ op = 2 ∨ op = 3 ∨ op = 30) :
    Calls Tryz.prog 75 #[.pointer (some ⟨mb, 0, none⟩), .agg #[.int .i64 op, .int .i64 n, .string (tx t)]] w0 (VOut lo mb pv (.slice vq view.length vc) st ft F0 (doR view ⟨op, n, t⟩ s0) (fun _ => .tuple #[]) w0) := by
  have hal_ := (Chg.refl NoB w0).alloc (.cells #[.int .i64 op, .int .i64 n, .string (tx t)] 46)
  have hb_ := heap_alloc_new w0 (.cells #[.int .i64 op, .int .i64 n, .string (tx t)] 46)
  obtain ⟨xb, hxb_⟩ : ∃ b, b = w0.heap.size := ⟨_, rfl⟩
  obtain ⟨w9, hw_⟩ : ∃ w_, w0.alloc (.cells #[.int .i64 op, .int .i64 n, .string (tx t)] 46) = w_ := ⟨_, rfl⟩
  have hz_ : w9.heap.size = xb + 1 := by rw [← hw_, hxb_]; exact alloc_size _ _
  rw [hw_] at hal_ hb_
  rw [← hxb_] at hb_
  have Hw9 := Lib.hid hw_
  have Hx9 := Lib.hid hxb_
  have Ha9 := Lib.hid hal_
  have Hb9 := Lib.hid hb_
  have Hz9 := Lib.hid hz_
  clear hal_ hb_ hxb_ hw_ hz_
  obtain ⟨r, hr⟩ : ∃ r, r = doR view ⟨op, n, t⟩ s0 := ⟨_, rfl⟩
  rw [← hr]
  have H0 := Lib.hid (MStep.of_chg (mb := mb) (F := F0) Ha9.out)
  have M0 := Lib.hid (hm.keep Ha9.out)
  have W0 := Lib.hid (And.intro wf (trivial : True))
  have N0 := Lib.hid hm.bound
  have X0 := Lib.hid (hview.keep Ha9.out fun _ _ => id)
  have LB0 := Lib.hid (hlb.keep Ha9.out)
  have Hgv := Lib.hid hgv
  obtain ⟨x0, x1, x2⟩ := var3 Hb9.out
  clear hm wf hview hlb hgv
  have HG := Lib.hid (fun w => give_any 44 w)
  rcases hop with rfl | rfl | rfl | rfl
  · skip
    have hm := M0.out
    have HF := Lib.hid (hm.setDone true)
    obtain ⟨oq, oc, y0, y1, y2, y3, y52, y53, y54, y55, y56⟩ := hm.cells
    have yf := hm.free
    clear hm y0 y1 y2 y3 y52 y53 y54 y56
    have Hr0 := Lib.hid hr
    clear hr
    go_enter Tryz.func75, Tryz.ntmps75
    go_upto_region 1 with fail
    rw [Hw9.out, ← Hx9.out]
    go_wp2_with fail
    first | go_end0 | refine bodyPost_ret (results_none rfl _ _ _) rfl ?_
    exact ⟨F0, H0.out.trans HF.out.2, _, HF.out.1, .inl ⟨(), Hr0.out, rfl⟩⟩
  · have hz : r = pushR (numV n) s0 := hr
    clear hr
    have hr := hz
    clear hz
    have Hr0 := Lib.hid hr
    clear hr
    go_enter Tryz.func75, Tryz.ntmps75
    go_upto_region 1 with fail
    rw [Hw9.out, ← Hx9.out]
    go_wp2_with fail
    refine (push_any (numV n) M0.out W0.out.1.depth).mono ?_
    rintro e w1 ⟨F1, hs_, s1, hm_, (⟨a, hr_, rfl⟩ | ⟨y, hr_, rfl⟩)⟩
    rotate_left
    · have hrj := Hr0.out
      rw [hr_] at hrj
      have Hf := Lib.hid (And.intro (H0.out.trans hs_) (And.intro hm_ hrj))
      clear hs_ hm_ hr_ hrj
      unfold quitP
      go_wp2_with fail
      exact ⟨rfl, F1, Hf.out.1, s1, Hf.out.2.1, .inr ⟨y, Hf.out.2.2, rfl⟩⟩
    have Hf := Lib.hid (And.intro (H0.out.trans hs_) (And.intro hm_ (Hr0.out.trans hr_)))
    clear hs_ hm_ hr_
    go_wp2_with fail
    first | go_end0 | refine bodyPost_ret (results_none rfl _ _ _) rfl ?_
    exact ⟨F1, Hf.out.1, s1, Hf.out.2.1, .inl ⟨(), Hf.out.2.2, rfl⟩⟩
  · have hz : r = pushR (txtV t) s0 := hr
    clear hr
    have hr := hz
    clear hz
    have Hr0 := Lib.hid hr
    clear hr
    go_enter Tryz.func75, Tryz.ntmps75
    go_upto_region 1 with fail
    rw [Hw9.out, ← Hx9.out]
    go_wp2_with fail
    refine (pusht_any t M0.out W0.out.1.depth).mono ?_
    rintro e w1 ⟨F1, hs_, s1, hm_, (⟨a, hr_, rfl⟩ | ⟨y, hr_, rfl⟩)⟩
    rotate_left
    · have hrj := Hr0.out
      rw [hr_] at hrj
      have Hf := Lib.hid (And.intro (H0.out.trans hs_) (And.intro hm_ hrj))
      clear hs_ hm_ hr_ hrj
      unfold quitP
      go_wp2_with fail
      exact ⟨rfl, F1, Hf.out.1, s1, Hf.out.2.1, .inr ⟨y, Hf.out.2.2, rfl⟩⟩
    have Hf := Lib.hid (And.intro (H0.out.trans hs_) (And.intro hm_ (Hr0.out.trans hr_)))
    clear hs_ hm_ hr_
    go_wp2_with fail
    first | go_end0 | refine bodyPost_ret (results_none rfl _ _ _) rfl ?_
    exact ⟨F1, Hf.out.1, s1, Hf.out.2.1, .inl ⟨(), Hf.out.2.2, rfl⟩⟩
  · skip
    have Hr0 := Lib.hid hr
    clear hr
    go_enter Tryz.func75, Tryz.ntmps75
    go_upto_region 1 with fail
    rw [Hw9.out, ← Hx9.out]
    go_wp2_with fail
    refine (HG.out _).mono ?_
    rintro e w' ⟨rfl, rfl⟩
    unfold quitP
    go_wp2_with fail
    exact ⟨rfl, F0, H0.out, s0, M0.out, .inr ⟨44, Hr0.out, rfl⟩⟩
set_option maxHeartbeats 8000000 in
set_option maxRecDepth 20000 in
theorem doG_any (n : Int) (t : List UInt8) {w0 : World} {lo mb : Nat} {pv : Value} {s0 : MSt} {st : Nat} {ft : Int} {F0 : Value × Value} {len : Int} {view : List FileL} {vq : Option Addr} {vc kb ko : Nat} (hm : Mach w0 lo mb pv (.slice vq view.length vc) s0 st ft F0) (wf : WfS len s0) (hview : InpS w0 (fun k => k < mb) (.slice vq view.length vc) view kb ko) (hgv : goodF view = true) (base : Nat) (hlb : Lb base w0) (hbase : base ≤ mb) (hn : 0 ≤ n ∧ n < 16) :
    Calls Tryz.prog 75 #[.pointer (some ⟨mb, 0, none⟩), .agg #[.int .i64 7, .int .i64 n, .string (tx t)]] w0 (VOut lo mb pv (.slice vq view.length vc) st ft F0 (doR view ⟨7, n, t⟩ s0) (fun _ => .tuple #[]) w0) := by
  have hal_ := (Chg.refl NoB w0).alloc (.cells #[.int .i64 7, .int .i64 n, .string (tx t)] 46)
  have hb_ := heap_alloc_new w0 (.cells #[.int .i64 7, .int .i64 n, .string (tx t)] 46)
  obtain ⟨xb, hxb_⟩ : ∃ b, b = w0.heap.size := ⟨_, rfl⟩
  obtain ⟨w9, hw_⟩ : ∃ w_, w0.alloc (.cells #[.int .i64 7, .int .i64 n, .string (tx t)] 46) = w_ := ⟨_, rfl⟩
  have hz_ : w9.heap.size = xb + 1 := by rw [← hw_, hxb_]; exact alloc_size _ _
  rw [hw_] at hal_ hb_
  rw [← hxb_] at hb_
  have Hw9 := Lib.hid hw_
  have Hx9 := Lib.hid hxb_
  have Ha9 := Lib.hid hal_
  have Hb9 := Lib.hid hb_
  have Hz9 := Lib.hid hz_
  clear hal_ hb_ hxb_ hw_ hz_
  obtain ⟨r, hr⟩ : ∃ r, r = doR view ⟨7, n, t⟩ s0 := ⟨_, rfl⟩
  rw [← hr]
  have H0 := Lib.hid (MStep.of_chg (mb := mb) (F := F0) Ha9.out)
  have M0 := Lib.hid (hm.keep Ha9.out)
  have W0 := Lib.hid (And.intro wf (trivial : True))
  have N0 := Lib.hid hm.bound
  have X0 := Lib.hid (hview.keep Ha9.out fun _ _ => id)
  have LB0 := Lib.hid (hlb.keep Ha9.out)
  have Hgv := Lib.hid hgv
  obtain ⟨x0, x1, x2⟩ := var3 Hb9.out
  clear hm wf hview hlb hgv
  obtain ⟨m, rfl⟩ : ∃ m : Nat, n = m := ⟨n.toNat, by omega⟩
  have hm16 : m < 16 := by omega
  obtain ⟨c0, c1, c2⟩ := M0.out.locAt m hm16
  have hz : r = pushR (s0.loc.getD m (numV 0)) s0 := hr
  clear hr
  have hr := hz
  clear hz
  generalize s0.loc.getD m (numV 0) = v at *
  obtain ⟨v1, v2, v3⟩ := v
  simp only at c0 c1 c2
  have hd0 : w9.drew.cell? ⟨mb, 4 + m * 3, none⟩ = some (.bool v1) := c0
  have M9 := Lib.hid (M0.out.keep (Chg.refl NoB w9).drew)
  have H9 := Lib.hid (H0.out.trans (MStep.of_chg (mb := mb) (F := F0) (Chg.refl NoB w9).drew))
  by_cases hfull : s0.stack.length = 64
  · have hz : r = .error (40, s0) := by rw [hr]; unfold pushR; rw [if_pos (by omega)]
    clear hr
    have hr := hz
    clear hz
    have HP := Lib.hid (push_bad (v1, v2, v3) M9.out hfull)
    clear hfull
    have Hr0 := Lib.hid hr
    clear hr
    go_enter Tryz.func75, Tryz.ntmps75
    go_upto_region 1 with fail
    rw [Hw9.out, ← Hx9.out]
    go_wp2_with fail
    go_region_dies
    all_goals
      refine HP.out.mono ?_
      rintro e w2 ⟨F2, hs2, hm2, rfl⟩
      exact ⟨rfl, F2, H9.out.trans hs2, _, hm2, .inr ⟨40, Hr0.out, rfl⟩⟩
  · have hlt : s0.stack.length < 64 := by have := W0.out.1.depth; omega
    have hz : r = .ok ((), { s0 with stack := s0.stack ++ [(v1, v2, v3)] }) := by rw [hr]; unfold pushR; rw [if_neg (by omega)]
    clear hr
    have hr := hz
    clear hz
    have HP := Lib.hid (push_ok (v1, v2, v3) M9.out hlt)
    clear hfull hlt
    have Hr0 := Lib.hid hr
    clear hr
    go_enter Tryz.func75, Tryz.ntmps75
    go_upto_region 1 with fail
    rw [Hw9.out, ← Hx9.out]
    go_wp2_with fail
    go_region_with (go_at_call 94; refine HP.out.mono ?_; rintro e w2 ⟨F2, hs2, hm2, rfl⟩)
    all_goals
      have HF := Lib.hid (And.intro hs2 hm2)
      clear hs2 hm2
      go_wp2_with fail
      first | go_end0 | refine bodyPost_ret (results_none rfl _ _ _) rfl ?_
      exact ⟨F2, H9.out.trans HF.out.1, _, HF.out.2, .inl ⟨(), Hr0.out, rfl⟩⟩
set_option maxHeartbeats 8000000 in
set_option maxRecDepth 20000 in
theorem doH_any (n : Int) (t : List UInt8) {w0 : World} {lo mb : Nat} {pv : Value} {s0 : MSt} {st : Nat} {ft : Int} {F0 : Value × Value} {len : Int} {view : List FileL} {vq : Option Addr} {vc kb ko : Nat} (hm : Mach w0 lo mb pv (.slice vq view.length vc) s0 st ft F0) (wf : WfS len s0) (hview : InpS w0 (fun k => k < mb) (.slice vq view.length vc) view kb ko) (hgv : goodF view = true) (base : Nat) (hlb : Lb base w0) (hbase : base ≤ mb) (hn : 0 ≤ n ∧ n < 16) :
    Calls Tryz.prog 75 #[.pointer (some ⟨mb, 0, none⟩), .agg #[.int .i64 8, .int .i64 n, .string (tx t)]] w0 (VOut lo mb pv (.slice vq view.length vc) st ft F0 (doR view ⟨8, n, t⟩ s0) (fun _ => .tuple #[]) w0) := by
  have hal_ := (Chg.refl NoB w0).alloc (.cells #[.int .i64 8, .int .i64 n, .string (tx t)] 46)
  have hb_ := heap_alloc_new w0 (.cells #[.int .i64 8, .int .i64 n, .string (tx t)] 46)
  obtain ⟨xb, hxb_⟩ : ∃ b, b = w0.heap.size := ⟨_, rfl⟩
  obtain ⟨w9, hw_⟩ : ∃ w_, w0.alloc (.cells #[.int .i64 8, .int .i64 n, .string (tx t)] 46) = w_ := ⟨_, rfl⟩
  have hz_ : w9.heap.size = xb + 1 := by rw [← hw_, hxb_]; exact alloc_size _ _
  rw [hw_] at hal_ hb_
  rw [← hxb_] at hb_
  have Hw9 := Lib.hid hw_
  have Hx9 := Lib.hid hxb_
  have Ha9 := Lib.hid hal_
  have Hb9 := Lib.hid hb_
  have Hz9 := Lib.hid hz_
  clear hal_ hb_ hxb_ hw_ hz_
  obtain ⟨r, hr⟩ : ∃ r, r = doR view ⟨8, n, t⟩ s0 := ⟨_, rfl⟩
  rw [← hr]
  have H0 := Lib.hid (MStep.of_chg (mb := mb) (F := F0) Ha9.out)
  have M0 := Lib.hid (hm.keep Ha9.out)
  have W0 := Lib.hid (And.intro wf (trivial : True))
  have N0 := Lib.hid hm.bound
  have X0 := Lib.hid (hview.keep Ha9.out fun _ _ => id)
  have LB0 := Lib.hid (hlb.keep Ha9.out)
  have Hgv := Lib.hid hgv
  obtain ⟨x0, x1, x2⟩ := var3 Hb9.out
  clear hm wf hview hlb hgv
  obtain ⟨m, rfl⟩ : ∃ m : Nat, n = m := ⟨n.toNat, by omega⟩
  have hm16 : m < 16 := by omega
  have hz : r = (needR 1 s0).then fun _ s => (popR s).then fun v s => .ok ((), { s with loc := s.loc.set m v }) := hr
  clear hr
  have hr := hz
  clear hz
  have Hr0 := Lib.hid hr
  clear hr
  go_enter Tryz.func75, Tryz.ntmps75
  go_upto_region 1 with fail
  rw [Hw9.out, ← Hx9.out]
  go_wp2_with fail
  refine (need_any 1 (by decide) M0.out W0.out.1.depth).mono ?_
  rintro e w1 ⟨F1, hs_, s1, hm_, (⟨a1, hr_, rfl⟩ | ⟨y, hr_, rfl⟩)⟩
  rotate_left
  · have hrj := Hr0.out
    rw [hr_] at hrj
    have Hf := Lib.hid (And.intro (H0.out.trans hs_) (And.intro hm_ hrj))
    clear hs_ hm_ hr_ hrj
    unfold quitP
    go_wp2_with fail
    exact ⟨rfl, F1, Hf.out.1, s1, Hf.out.2.1, .inr ⟨y, Hf.out.2.2, rfl⟩⟩
  have hrj := Hr0.out
  have hw_ := need_wf W0.out.1 1
  have hl_ := (need_len hr_).2
  rw [hr_] at hrj hw_
  rw [VR.then_ok] at hrj
  try dsimp only at hrj
  have H1 := Lib.hid (H0.out.trans hs_)
  have S1 := Lib.hid hs_
  have M1 := Lib.hid hm_
  have Hr1 := Lib.hid hrj
  have W1 := Lib.hid (show _ ∧ _ from hw_)
  have L1 := Lib.hid hl_
  clear hs_ hm_ hr_ hrj hw_ hl_
  clear x0 x1 x2
  have X1 := Lib.hid (S1.out.box Hb9.out (Nat.le_of_eq Hx9.out.symm) N0.out)
  obtain ⟨x0, x1, x2⟩ := var3 X1.out
  have Q1 := Lib.hid (show (∀ k, Foot F1 k → k ≠ xb) ∧ mb ≠ xb from ⟨fun k hk e => by
      rcases S1.out.foot k hk with h | h
      · have := N0.out.2 k h; have := Hx9.out; omega
      · have := Hz9.out; omega, by have := N0.out.1; have := Hx9.out; omega⟩)
  have HP := Lib.hid (pop_ok (M1.out.keep (Chg.refl NoB w1).drew) W1.out.1.depth L1.out)
  have HD := Lib.hid (MStep.of_chg (mb := mb) (F := F1) (Chg.refl NoB w1).drew)
  have hz := Hr1.out
  unfold popR at hz
  rw [VR.then_ok] at hz
  obtain ⟨v, hv⟩ : ∃ v, v = lastV s1 := ⟨_, rfl⟩
  rw [← hv] at HP hz
  obtain ⟨v1, v2, v3⟩ := v
  have Hz := Lib.hid hz
  clear hz hv
  unfold valA at HP
  simp only at HP
  have X1d : Hid (w1.drew.heap[xb]? = some (.cells #[.int .i64 8, .int .i64 m, .string (tx t)] 46 (0, 0))) := Lib.hid X1.out
  go_wp2_with fail
  go_region_with (go_at_call 97; refine HP.out.mono ?_; rintro e w2 ⟨F2, hs2, hm2, rfl⟩; obtain ⟨z0, z1, z2⟩ := var3 (row_kept hs2.chg X1d.out (by rintro (e | e); exact Q1.out.2 e.symm; exact Q1.out.1 _ e rfl)); obtain ⟨c0, c1, c2⟩ := hm2.locAt m hm16; have cf := hm2.free; have HL := Lib.hid (hm2.setLoc hm16 (v1, v2, v3)))
  all_goals
    have HS := Lib.hid hs2
    clear hs2 hm2 c0 c1 c2 cf z0 z1 z2 x0 x1 x2
    go_wp2_with fail
    first | go_end0 | refine bodyPost_ret (results_none rfl _ _ _) rfl ?_
    exact ⟨F2, ((H1.out.trans HD.out).trans HS.out).trans HL.out.2, _, HL.out.1, .inl ⟨(), Hz.out, rfl⟩⟩
theorem do_any (x : InsL) {w0 : World} {lo mb : Nat} {pv : Value} {s0 : MSt} {st : Nat} {ft : Int} {F0 : Value × Value} {len : Int} {view : List FileL} {vq : Option Addr} {vc kb ko : Nat} (hm : Mach w0 lo mb pv (.slice vq view.length vc) s0 st ft F0) (wf : WfS len s0) (hview : InpS w0 (fun k => k < mb) (.slice vq view.length vc) view kb ko) (hgv : goodF view = true) (base : Nat) (hlb : Lb base w0) (hbase : base ≤ mb) (hx : WfI len x) : Calls Tryz.prog 75 #[.pointer (some ⟨mb, 0, none⟩), x.val] w0 (VOut lo mb pv (.slice vq view.length vc) st ft F0 (doR view x s0) (fun _ => .tuple #[]) w0) := by
  obtain ⟨op, n, t⟩ := x
  have h1 : 1 ≤ op ∧ op ≤ 30 := hx.op
  show Calls _ _ #[_, .agg #[.int .i64 op, .int .i64 n, .string (tx t)]] _ _
  by_cases hA : op = 4 ∨ op = 5 ∨ op = 6 ∨ op = 14 ∨ op = 15 ∨ op = 16
  · exact doA_any op n t hm wf hview hgv base hlb hbase hA
  by_cases hB : op = 17 ∨ op = 18 ∨ op = 19 ∨ op = 20
  · exact doB_any op n t hm wf hview hgv base hlb hbase hB
  by_cases hC : op = 21 ∨ op = 22 ∨ op = 23 ∨ op = 24 ∨ op = 25
  · exact doC_any op n t hm wf hview hgv base hlb hbase hC
  by_cases hD : op = 26 ∨ op = 27 ∨ op = 28 ∨ op = 29
  · exact doD_any op n t hm wf hview hgv base hlb hbase hD
  by_cases hE : op = 9 ∨ op = 10 ∨ op = 11 ∨ op = 12 ∨ op = 13
  · exact doE_any op n t hm wf hview hgv base hlb hbase hE
  by_cases hF : op = 1 ∨ op = 2 ∨ op = 3 ∨ op = 30
  · exact doF_any op n t hm wf hview hgv base hlb hbase hF
  by_cases h7 : op = 7
  · subst h7; exact doG_any n t hm wf hview hgv base hlb hbase (hx.cell (.inl rfl))
  by_cases h8 : op = 8
  · subst h8; exact doH_any n t hm wf hview hgv base hlb hbase (hx.cell (.inr rfl))
  omega
end Go.Proofs.YthehpmffkkogpaaGreatDoor
namespace Go.Proofs.YthehpmffkkogpaaGreatDoor
set_option linter.unusedVariables false
open Go.ChangeShapes Go.WideShapes Go.ChangeAt Go.RowKit
def CatchP (eb : Nat) (y : Int) (u : FrameMode) (w : World) (e : Ending) (u' : FrameMode) (w' : World) : Prop := e = .returned (.tuple #[]) ∧ u' = u ∧ Chg (fun k => k = eb) w w' ∧ w'.heap[eb]? = some (.cells #[.int .i64 y] 28 (0, 0))
set_option maxHeartbeats 2000000 in
set_option maxRecDepth 20000 in
theorem catch_quit (y z : Int) (eb : Nat) (older : List PanicEntry) (w : World) (hr : w.heap[eb]? = some (.cells #[.int .i64 z] 28 (0, 0))) :
    CallsD Tryz.prog 74 #[.pointer (some ⟨eb, 0, none⟩)] (.panicking ({ v := .iface 106 (.agg #[.int .i64 y]), recovered := false } :: older)) w
      (CatchP eb y (.panicking ({ v := .iface 106 (.agg #[.int .i64 y]), recovered := true } :: older)) w) := by
  have e0 := var1 hr
  have ef := row_free hr 0
  have hlt := lt_of_block hr
  have hta : ∀ w : World, (Instr.typeAssert (.iface 106 (.agg #[.int .i64 y])) 20 106 true).run Tryz.prog w = .ok (.tuple #[.agg #[.int .i64 y], .bool true]) w := fun w => by kernel_rfl
  refine callsD_of_wpS Tryz.func74 rfl fun c₀ cs hu => ?_
  apply wpS_seq
  apply wpS_region
  simp [wpOpsS, go_sem, recoverD, hu, Tryz.ntmps74, Exit.thenS]
  refine wpS_of_wp ?_
  go_wp2_with fail
  exact ⟨rfl, _, rfl, _, results_none rfl _ _ _, rfl, rfl, ((Chg.refl (fun k => k = eb) w).setCell (p := ⟨eb, 0, none⟩) (.inl rfl) _).alloc _, row_kept ((Chg.refl NoB _).alloc _) (heap_set hr (i := 0) _) id⟩
set_option maxHeartbeats 2000000 in
set_option maxRecDepth 20000 in
theorem catch_idle (eb : Nat) (w : World) : CallsD Tryz.prog 74 #[.pointer (some ⟨eb, 0, none⟩)] .returning w fun e u' w' => e = .returned (.tuple #[]) ∧ u' = .returning ∧ w = w' := by
  refine callsD_of_wpS Tryz.func74 rfl fun c₀ cs hu => ?_
  apply wpS_seq
  apply wpS_region
  simp [wpOpsS, go_sem, recoverD, hu, Tryz.ntmps74, Exit.thenS]
  refine wpS_of_wp ?_
  go_wp2_with fail
  refine ⟨rfl, _, ?_, _, results_none rfl _ _ _, rfl, rfl, rfl⟩
  cases c₀
  simp_all
theorem Mach.box1 {w w' : World} {lo mb eb : Nat} {pv vv : Value} {m : MSt} {st : Nat} {ft z : Int} {t : TypeId} {F : Value × Value} (h : Mach w lo mb pv vv m st ft F) (hb : w.heap[eb]? = some (.cells #[.int .i64 z] t (0, 0))) (hm : mb ≠ eb) (hf : ¬ Foot F eb) (hc : Chg (fun k => k = eb) w w') : Mach w' lo mb pv vv m st ft F := by
  obtain ⟨oq, oc, h1, h2, kb, ko, h3⟩ := h.row
  refine ⟨⟨oq, oc, row_kept hc h1 hm, h2, kb, ko, ?_⟩, ownsRow_chg h.st hc fun k hk e => hf (e ▸ .inl hk), ownsRow_chg h.ca hc fun k hk e => hf (e ▸ .inr hk), h.ap, ⟨h.lo.1, Nat.le_trans h.lo.2 hc.size⟩, h.loc⟩
  obtain ⟨⟨q, c, e1, e2, e3, e4⟩, hat⟩ := h3
  have hne : m.out ≠ [] → kb ≠ eb := fun hn e => by
    have h0 : 0 < m.out.length := by cases hm : m.out with | nil => exact absurd hm hn | cons a r => simp
    have := (hat 0 h0).1
    rw [e, cell_of_row w eb _ _ _ (0, 0) hb] at this
    cases ko with
    | zero => simp at this
    | succ j => simp at this
  refine ⟨⟨q, c, e1, e2, e3, e4⟩, fun i hi => ?_⟩
  have hn : m.out ≠ [] := by intro e; rw [e] at hi; simp at hi
  exact ⟨hc.cell (hat i hi).1 (hne hn), hc.cell (hat i hi).2 (hne hn)⟩
def TryP (lo mb : Nat) (pv vv : Value) (st : Nat) (ft : Int) (F : Value × Value) (a : MSt × Int) (w : World) (e : Ending) (w' : World) : Prop := ∃ F', MStep mb F F' w w' ∧ Mach w' lo mb pv vv a.1 st ft F' ∧ e = .returned (.int .i64 a.2)
set_option maxHeartbeats 8000000 in
set_option maxRecDepth 20000 in
theorem try_any (x : InsL) {w0 : World} {lo mb : Nat} {pv : Value} {s0 : MSt} {st : Nat} {ft : Int} {F0 : Value × Value} {len : Int} {view : List FileL} {vq : Option Addr} {vc kb ko : Nat} (hm : Mach w0 lo mb pv (.slice vq view.length vc) s0 st ft F0) (wf : WfS len s0) (hview : InpS w0 (fun k => k < mb) (.slice vq view.length vc) view kb ko) (hgv : goodF view = true) (base : Nat) (hlb : Lb base w0) (hbase : base ≤ mb) (hx : WfI len x) (hin : s0.next < len) (hlen : len ≤ 1048576) : Calls Tryz.prog 59 #[.pointer (some ⟨mb, 0, none⟩), x.val] w0 (TryP lo mb pv (.slice vq view.length vc) st ft F0 (attF view x s0) w0) := by
  obtain ⟨op, n, t⟩ := x
  show Calls _ _ #[_, .agg #[.int .i64 op, .int .i64 n, .string (tx t)]] _ _
  have hmf : ∀ (fn : Fn) (first cap : Array Value) (w : World), (Instr.makeFunc fn first cap).run Tryz.prog w = .ok (.func fn first cap) w := fun _ _ _ _ => rfl
  have hb0 := hm.bound
  have hal_ := (Chg.refl NoB w0).alloc (.cells #[.int .i64 op, .int .i64 n, .string (tx t)] 46)
  have hb_ := heap_alloc_new w0 (.cells #[.int .i64 op, .int .i64 n, .string (tx t)] 46)
  obtain ⟨xb, hxb_⟩ : ∃ b, b = w0.heap.size := ⟨_, rfl⟩
  obtain ⟨w1, hw_⟩ : ∃ w_, w0.alloc (.cells #[.int .i64 op, .int .i64 n, .string (tx t)] 46) = w_ := ⟨_, rfl⟩
  have hz_ : w1.heap.size = xb + 1 := by rw [← hw_, hxb_]; exact alloc_size _ _
  rw [hw_] at hal_ hb_
  rw [← hxb_] at hb_
  have Hw1 := Lib.hid hw_
  have Hx1 := Lib.hid hxb_
  have Ha1 := Lib.hid hal_
  have Hb1 := Lib.hid hb_
  have Hz1 := Lib.hid hz_
  clear hal_ hb_ hxb_ hw_ hz_
  have hal_ := (Chg.refl NoB w1).alloc (.cells #[.int .i64 0] 28)
  have hb_ := heap_alloc_new w1 (.cells #[.int .i64 0] 28)
  obtain ⟨eb, hxb_⟩ : ∃ b, b = w1.heap.size := ⟨_, rfl⟩
  obtain ⟨w2, hw_⟩ : ∃ w_, w1.alloc (.cells #[.int .i64 0] 28) = w_ := ⟨_, rfl⟩
  have hz_ : w2.heap.size = eb + 1 := by rw [← hw_, hxb_]; exact alloc_size _ _
  rw [hw_] at hal_ hb_
  rw [← hxb_] at hb_
  have Hw2 := Lib.hid hw_
  have Hx2 := Lib.hid hxb_
  have Ha2 := Lib.hid hal_
  have Hb2 := Lib.hid hb_
  have Hz2 := Lib.hid hz_
  clear hal_ hb_ hxb_ hw_ hz_
  have hm2 := (hm.keep Ha1.out).keep Ha2.out
  have hg := hm2.goto (s0.next + 1)
  obtain ⟨w3, hw3⟩ : ∃ w3, w2.setCell ⟨mb, 53, none⟩ (.int .i64 (s0.next + 1)) = w3 := ⟨_, rfl⟩
  rw [hw3] at hg
  have hc3 : Chg (fun k => k = mb) w2 w3 := by rw [← hw3]; exact (Chg.refl (fun k => k = mb) w2).setCell (p := ⟨mb, 53, none⟩) (.inl rfl) _
  have hxe : xb + 1 = eb := by rw [Hx2.out, Hz1.out]
  have hX3 := row_kept hc3 (row_kept Ha2.out Hb1.out id) (by have := hb0.1; have := Hx1.out; omega)
  have hE3 := row_kept hc3 Hb2.out (by have := hb0.1; have := Hx1.out; omega)
  have wf3 : WfS len { s0 with next := s0.next + 1 } := ⟨wf.stack, wf.depth, wf.loc, wf.size, wf.calls, wf.many, wf.out, by have := wf.next; show 0 ≤ s0.next + 1 ∧ s0.next + 1 ≤ len; omega⟩
  have hv3 : InpS w3 (fun k => k < mb) (.slice vq view.length vc) view kb ko := ((hview.keep Ha1.out fun _ _ => id).keep Ha2.out fun _ _ => id).keep hc3 fun k hk e => by omega
  have hl3 : Lb base w3 := ((hlb.keep Ha1.out).keep Ha2.out).chg hc3 fun k hk => by omega
  have HDO := Lib.hid (do_any ⟨op, n, t⟩ hg.1 wf3 hv3 hgv base hl3 hbase hx)
  have H3 := Lib.hid ((MStep.of_chg (mb := mb) (F := F0) (Ha1.out.trans Ha2.out)).trans hg.2)
  have Hhb := Lib.hid (show w0.heap.size ≤ eb ∧ mb ≠ eb ∧ (∀ k, Foot F0 k → k ≠ eb) ∧ eb < w3.heap.size from ⟨by have := Hx1.out; omega, by have := hb0.1; have := Hx1.out; omega, fun k hk => by have := hb0.2 k hk; have := Hx1.out; omega, lt_of_block hE3⟩)
  have HE3 := Lib.hid hE3
  have HX3 := Lib.hid hX3
  have Hxe := Lib.hid hxe
  have Hw3 := Lib.hid hw3
  have hnx : 0 ≤ s0.next ∧ s0.next ≤ 1048576 := by have := wf.next; omega
  have y53 : w2.cell? ⟨mb, 53, none⟩ = some (.int .i64 s0.next) := by obtain ⟨_, _, _, _, _, _, _, h, _⟩ := hm2.cells; exact h
  have yf := hm2.free 53
  obtain ⟨r, hr⟩ : ∃ r, r = doR view ⟨op, n, t⟩ { s0 with next := s0.next + 1 } := ⟨_, rfl⟩
  rw [← hr] at HDO
  have Hatt := Lib.hid (show attF view ⟨op, n, t⟩ s0 = endOf r by rw [hr]; rfl)
  obtain ⟨a, ha⟩ : ∃ a, a = attF view ⟨op, n, t⟩ s0 := ⟨_, rfl⟩
  rw [← ha] at Hatt ⊢
  clear hm hm2 hg hw3 hc3 hxe hX3 hE3 wf3 hv3 hl3 wf hview hgv hlb hb0 hr ha hx hin
  go_enter_defers Tryz.func59, Tryz.ntmps59
  go_upto_region 2 with fail
  rw [Hw1.out, Hw2.out, ← Hx1.out]
  rw [Hxe.out]
  go_upto_region 3 with fail
  rw [Hw3.out]
  clear y53 yf
  obtain ⟨x0, x1, x2⟩ := var3 HX3.out
  go_wp2_with fail
  refine HDO.out.mono ?_
  rintro e w4 ⟨F4, hs4, s4, hm4, (⟨u, hr, rfl⟩ | ⟨y, hr, rfl⟩)⟩
  · have hE4 := row_kept hs4.chg HE3.out (by rintro (e | e); exact Hhb.out.2.1 e.symm; exact Hhb.out.2.2.1 _ e rfl)
    have e0 := var1 hE4
    have ef := row_free hE4 0
    have hF4 : ¬ Foot F4 eb := fun e => by
      rcases hs4.foot eb e with h | h
      · exact Hhb.out.2.2.1 _ h rfl
      · have := Hhb.out.2.2.2; omega
    have hcE : Chg (fun k => k = eb) w4 (w4.setCell ⟨eb, 0, none⟩ (.int .i64 0)) := (Chg.refl (fun k => k = eb) w4).setCell (p := ⟨eb, 0, none⟩) (.inl rfl) _
    have HM := Lib.hid (hm4.box1 hE4 Hhb.out.2.1 hF4 hcE)
    have HS := Lib.hid ((H3.out.trans hs4).new hcE (fun k hk => by rw [hk]; exact Hhb.out.1))
    have HE := Lib.hid (var1 (heap_set hE4 (i := 0) (.int .i64 0)))
    have Ha := Lib.hid (show a = (s4, 0) by rw [Hatt.out, hr]; rfl)
    clear hs4 hm4 hr hE4 hF4 hcE x0 x1 x2
    go_wp2_with fail
    refine leaves_cons (f := 74) (args := #[.pointer (some ⟨eb, 0, none⟩)]) (by simp) (by simp [go_sem]) ?_
    refine (catch_idle eb _).mono ?_
    rintro e u' w'' ⟨rfl, rfl, rfl⟩
    have he := HE.out
    simp [Leaves, settle, results, Tryz.f59, go_sem, he]
    exact ⟨F4, HS.out, by rw [Ha.out]; exact HM.out, by rw [Ha.out]⟩
  · have hE4 := row_kept hs4.chg HE3.out (by rintro (e | e); exact Hhb.out.2.1 e.symm; exact Hhb.out.2.2.1 _ e rfl)
    have hF4 : ¬ Foot F4 eb := fun e => by
      rcases hs4.foot eb e with h | h
      · exact Hhb.out.2.2.1 _ h rfl
      · have := Hhb.out.2.2.2; omega
    have HCQ := Lib.hid (catch_quit y 0 eb [] w4 hE4)
    have HM := Lib.hid (fun w' hc => hm4.box1 (w' := w') hE4 Hhb.out.2.1 hF4 hc)
    have HS := Lib.hid (H3.out.trans hs4)
    have Ha := Lib.hid (show a = (s4, y) by rw [Hatt.out, hr]; rfl)
    clear hs4 hm4 hr hE4 hF4 x0 x1 x2
    unfold quitP
    go_wp2_with fail
    refine leaves_cons (f := 74) (args := #[.pointer (some ⟨eb, 0, none⟩)]) (by simp) (by simp [go_sem]) ?_
    refine HCQ.out.mono ?_
    rintro e u' w'' ⟨rfl, rfl, hc, hrow⟩
    have he := var1 hrow
    have Hf := Lib.hid (And.intro (HM.out w'' hc) (HS.out.new hc fun k hk => by rw [hk]; exact Hhb.out.1))
    clear hc hrow
    simp [Leaves, settle, results, Tryz.f59, go_sem, he]
    exact ⟨F4, Hf.out.2, by rw [Ha.out]; exact Hf.out.1, by rw [Ha.out]⟩
end Go.Proofs.YthehpmffkkogpaaGreatDoor
namespace Go.Proofs.YthehpmffkkogpaaGreatDoor
set_option linter.unusedVariables false
open Go.ChangeShapes Go.WideShapes Go.ChangeAt Go.RowKit
theorem Mach.setSteps {w : World} {lo mb : Nat} {pv vv : Value} {s : MSt} {st : Nat} {ft : Int} {F : Value × Value} (h : Mach w lo mb pv vv s st ft F) (n : Nat) : Mach (w.setCell ⟨mb, 54, none⟩ (.int .i64 n)) lo mb pv vv s n ft F ∧ MStep mb F F w (w.setCell ⟨mb, 54, none⟩ (.int .i64 n)) :=
  h.upd (s' := s) (st' := n) ((Chg.refl (fun k => k = mb) w).setCell (p := ⟨mb, 54, none⟩) (.inl rfl) _) (fun oq oc hr => by have h3 := heap_set hr (i := 54) (.int .i64 n); rw [(machC_set_post h.loc).2.2.1] at h3; exact h3) h.st h.ca rfl rfl h.loc rfl
theorem Mach.setFault {w : World} {lo mb : Nat} {pv vv : Value} {s : MSt} {st : Nat} {ft : Int} {F : Value × Value} (h : Mach w lo mb pv vv s st ft F) (n : Int) : Mach (w.setCell ⟨mb, 56, none⟩ (.int .i64 n)) lo mb pv vv s st n F ∧ MStep mb F F w (w.setCell ⟨mb, 56, none⟩ (.int .i64 n)) :=
  h.upd (s' := s) (ft' := n) ((Chg.refl (fun k => k = mb) w).setCell (p := ⟨mb, 56, none⟩) (.inl rfl) _) (fun oq oc hr => by have h3 := heap_set hr (i := 56) (.int .i64 n); rw [(machC_set_post h.loc).2.2.2.2] at h3; exact h3) h.st h.ca rfl rfl h.loc rfl
def StepP (lo mb : Nat) (pv vv : Value) (F : Value × Value) (m : MM) (w : World) (e : Ending) (w' : World) : Prop := e = .returned (.tuple #[]) ∧ ∃ F', MStep mb F F' w w' ∧ Mach w' lo mb pv vv m.s m.steps m.fault F'
set_option maxHeartbeats 8000000 in
set_option maxRecDepth 20000 in
theorem step_any {w0 : World} {lo mb : Nat} {s0 : MSt} {st : Nat} {ft : Int} {F0 : Value × Value} {ps : List InsL} {pq : Option Addr} {pc pb po : Nat} {view : List FileL} {vq : Option Addr} {vc kb ko : Nat} (hm : Mach w0 lo mb (.slice pq ps.length pc) (.slice vq view.length vc) s0 st ft F0) (wf : WfM ps.length ⟨s0, st, ft⟩) (hps : InsS w0 (fun k => k < mb) (.slice pq ps.length pc) ps pb po) (hpw : ∀ x ∈ ps, WfI ps.length x) (hpl : ps.length ≤ 256) (hview : InpS w0 (fun k => k < mb) (.slice vq view.length vc) view kb ko) (hgv : goodF view = true) (base : Nat) (hlb : Lb base w0) (hbase : base ≤ mb) (hdn : s0.done = false) : Calls Tryz.prog 36 #[.pointer (some ⟨mb, 0, none⟩)] w0 (StepP lo mb (.slice pq ps.length pc) (.slice vq view.length vc) F0 (stepF ps view ⟨s0, st, ft⟩) w0) := by
  have hin : s0.next < ps.length := wf.in' hdn
  have hn0 := wf.s.next
  simp only at hn0
  obtain ⟨nn, hnn⟩ : ∃ n : Nat, s0.next = n := ⟨s0.next.toNat, by omega⟩
  have hlt : nn < ps.length := by omega
  have hst : st < 4096 := by
    have h1 := wf.fuel
    have h2 := wf.end'
    simp only at h1 h2
    rcases Nat.lt_or_ge st 4096 with h | h
    · exact h
    · have h3 := h2 (by omega); rw [hdn] at h3; cases h3
  have hs1 := hm.setSteps (st + 1)
  obtain ⟨w1, hw1⟩ : ∃ w1, w0.setCell ⟨mb, 54, none⟩ (.int .i64 ((st + 1 : Nat) : Int)) = w1 := ⟨_, rfl⟩
  rw [hw1] at hs1
  have hc1 : Chg (fun k => k = mb) w0 w1 := by rw [← hw1]; exact (Chg.refl (fun k => k = mb) w0).setCell (p := ⟨mb, 54, none⟩) (.inl rfl) _
  obtain ⟨⟨pq', pc', pe, p1, p2, p3⟩, pat⟩ := hps.keep hc1 fun k hk e => by omega
  simp only [Value.slice.injEq] at pe
  obtain ⟨rfl, -, rfl⟩ := pe
  obtain ⟨rfl, -⟩ := p3 (by intro e; rw [e] at hlt; simp at hlt)
  obtain ⟨-, i0, i1, i2⟩ := pat nn hlt
  have hx := hpw _ (List.getElem_mem hlt)
  have hdr := (Chg.refl NoB w1).drew
  have HT := Lib.hid (try_any ps[nn] (hs1.1.keep hdr) wf.s ((hview.keep hc1 fun k hk e => by omega).keep hdr fun _ _ => id) hgv base ((hlb.chg hc1 fun k hk => by omega).keep hdr) hbase hx hin (by omega))
  have HD := Lib.hid (MStep.of_chg (mb := mb) (F := F0) hdr)
  obtain ⟨a, ha⟩ : ∃ a, a = attF view ps[nn] s0 := ⟨_, rfl⟩
  rw [← ha] at HT
  have Hspec := Lib.hid (show stepF ps view ⟨s0, st, ft⟩ = (if ((a.1.done || decide (a.2 ≠ 0) || decide (a.1.next = ps.length)) = false ∧ st + 1 = 4096) then ⟨{ a.1 with done := true }, st + 1, 45⟩ else ⟨{ a.1 with done := (a.1.done || decide (a.2 ≠ 0) || decide (a.1.next = ps.length)) }, st + 1, a.2⟩) by
    have hg : ps.getD s0.next.toNat ins0 = ps[nn] := by rw [hnn, Int.toNat_natCast, List.getD_eq_getElem?_getD, List.getElem?_eq_getElem hlt]; rfl
    simp only [stepF, hg, ← ha])
  generalize ps[nn] = x at *
  obtain ⟨xo, xn, xs⟩ := x
  simp only at i0 i1 i2
  unfold InsL.val at HT
  simp only at HT
  obtain ⟨pn, hpn⟩ : ∃ z, z = ps.length := ⟨_, rfl⟩
  have hpn0 := Lib.hid hpn
  have hpl2 : pn ≤ 256 := by rw [hpn]; exact hpl
  rw [← hpn] at p1 HT Hspec ⊢
  have hlt2 : nn < pn := by rw [hpn]; exact hlt
  have H1 := Lib.hid hs1.2
  obtain ⟨oq, oc, y0, y1, y2, y3, y52, y53, y54, y55, y56⟩ := hs1.1.cells
  obtain ⟨_, _, _, _, _, _, _, _, z54, _, _⟩ := hm.cells
  have z54f := hm.free 54
  rw [hnn] at y53
  rw [← hpn] at y0
  unfold maxLen at p2
  have e1 : ((st + 1 : Nat) : Int) = (st : Int) + 1 := by simp
  rw [e1] at hw1
  have Hw1 := Lib.hid hw1
  clear hm wf hps hpw hpl hview hgv hlb hdn hin hn0 hlt hs1 hw1 hc1 pat p3 hx hdr ha hpn e1 y1 y2 y3 y52 y54 y55 y56 hnn
  go_enter Tryz.func36, Tryz.ntmps36
  go_upto_region 1 with fail
  rw [Hw1.out]
  clear z54 z54f
  have y0d : w1.drew.cell? ⟨mb, 0, none⟩ = some (.slice (some ⟨pb, po, none⟩) pn pc) := y0
  have y53d : w1.drew.cell? ⟨mb, 53, none⟩ = some (.int .i64 nn) := y53
  go_region_with (go_at_call 59; refine HT.out.mono ?_; rintro e w2 ⟨F2, hs2, hm2, rfl⟩; obtain ⟨_, _, _, _, _, _, _, _, _, _, q56⟩ := hm2.cells; have q56f := hm2.free 56; have HF := Lib.hid (hm2.setFault a.2))
  all_goals
    have HS2 := Lib.hid (((H1.out.trans HD.out).trans hs2).trans HF.out.2)
    have HM := Lib.hid HF.out.1
    clear hs2 hm2 q56 q56f HF y0 y53 y0d y53d i0 i1 i2
    generalize w2.setCell ⟨mb, 56, none⟩ (.int .i64 a.2) = w3 at *
  all_goals
    obtain ⟨s1, f1⟩ := a
    simp only at Hspec HM HS2
    try simp only
    have hm := HM.out
    obtain ⟨oq', oc', y0, y1, y2, y3, y52, y53, y54, y55, y56⟩ := hm.cells
    have e1 : ((st + 1 : Nat) : Int) = (st : Int) + 1 := by simp
    rw [e1] at y54
    have HD1 := Lib.hid (fun n => (HM.out.keep ((Chg.refl NoB w3).drewN n)).setDone true)
    have HQ := Lib.hid (fun n => MStep.of_chg (mb := mb) (F := F2) ((Chg.refl NoB w3).drewN n))
    have HK := Lib.hid (fun n => HM.out.keep ((Chg.refl NoB w3).drewN n))
    have hff := hm.free
    have ff55 : ∀ n, (w3.drewN n).frozen? ⟨mb, 55, none⟩ = false := fun n => hff 55
    have ff56 : ∀ n, (w3.drewN n).frozen? ⟨mb, 56, none⟩ = false := fun n => hff 56
    have q0 : ∀ n, (w3.drewN n).cell? ⟨mb, 0, none⟩ = some (.slice (some ⟨pb, po, none⟩) pn pc) := fun n => y0
    have q53 : ∀ n, (w3.drewN n).cell? ⟨mb, 53, none⟩ = some (.int .i64 s1.next) := fun n => y53
    have q54 : ∀ n, (w3.drewN n).cell? ⟨mb, 54, none⟩ = some (.int .i64 ((st : Int) + 1)) := fun n => y54
    have q55 : ∀ n, (w3.drewN n).cell? ⟨mb, 55, none⟩ = some (.bool s1.done) := fun n => y55
    have q56 : ∀ n, (w3.drewN n).cell? ⟨mb, 56, none⟩ = some (.int .i64 f1) := fun n => y56
    clear hm y0 y1 y2 y3 y52 y53 y54 y55 y56 e1 hff HT
    by_cases hf : f1 = 0
    · subst hf
      have hne0 : ((0 : Int) != 0) = false := by decide
      by_cases hnx : s1.next = pn
      · have hd : (s1.done || decide ((0 : Int) ≠ 0) || decide (s1.next = (pn : Int))) = true := by rw [decide_eq_true hnx]; simp
        have hsp := Hspec.out
        rw [hd, if_neg (by simp)] at hsp
        have Hsp := Lib.hid hsp
        have hb : (s1.next == (pn : Int)) = true := by rw [beq_iff_eq]; exact hnx
        have hd2 : decide (s1.next = (pn : Int)) = true := decide_eq_true hnx
        rw [hnx] at q53
        clear hd hsp Hspec hb hd2 hnx
        go_upto_region 2 with fail
        go_quiet (fail)
        go_wp2_with fail
        go_end0
        exact ⟨rfl, F2, (HS2.out.trans (HQ.out _)).trans (HD1.out _).2, by rw [Hsp.out]; exact (HD1.out _).1⟩
      · have hb : (s1.next == (pn : Int)) = false := by rw [beq_eq_false_iff_ne]; exact hnx
        have hd2 : decide (s1.next = (pn : Int)) = false := decide_eq_false hnx
        have hsp := Hspec.out
        rw [hd2] at hsp
        cases hdd : s1.done with
        | true =>
          rw [hdd] at hsp q55
          rw [if_neg (by simp)] at hsp
          have Hsp := Lib.hid hsp
          have Hdd := Lib.hid hdd
          clear hsp Hspec hdd hnx
          go_upto_region 2 with fail
          go_quiet (fail)
          go_wp2_with fail
          go_end0
          refine ⟨rfl, F2, HS2.out.trans (HQ.out _), ?_⟩
          rw [Hsp.out]
          have hkk := HK.out
          obtain ⟨k1, k2, k3, k4, k5, k6⟩ := s1
          have : k6 = true := Hdd.out
          subst this
          exact hkk _
        | false =>
          rw [hdd] at hsp q55
          by_cases hfu : st + 1 = 4096
          · rw [if_pos ⟨by simp, hfu⟩] at hsp
            have Hsp := Lib.hid hsp
            have hst' : st = 4095 := by omega
            have HFF := Lib.hid (fun n => (HD1.out n).1.setFault 45)
            subst hst'
            clear hsp Hspec hdd hnx hfu
            go_upto_region 2 with fail
            go_quiet (fail)
            go_wp2_with fail
            go_end0
            exact ⟨rfl, F2, ((HS2.out.trans (HQ.out _)).trans (HD1.out _).2).trans (HFF.out _).2, by rw [Hsp.out]; exact (HFF.out _).1⟩
          · rw [if_neg (by rintro ⟨-, h⟩; exact hfu h)] at hsp
            have Hsp := Lib.hid hsp
            have Hdd := Lib.hid hdd
            have hfu2 : ((st : Int) + 1 == 4096) = false := by rw [beq_eq_false_iff_ne]; omega
            have hfu3 : ¬ (st : Int) = 4095 := by omega
            clear hsp Hspec hdd hnx hfu
            go_upto_region 2 with fail
            go_quiet (fail)
            go_wp2_with fail
            go_end0
            refine ⟨rfl, F2, HS2.out.trans (HQ.out _), ?_⟩
            rw [Hsp.out]
            have hkk := HK.out
            obtain ⟨k1, k2, k3, k4, k5, k6⟩ := s1
            have : k6 = false := Hdd.out
            subst this
            exact hkk _
    · have hz : (f1 == 0) = false := by rw [beq_eq_false_iff_ne]; exact hf
      have hz2 : (f1 != 0) = true := by simp [bne, hz]
      have hd : (s1.done || decide (f1 ≠ 0) || decide (s1.next = (pn : Int))) = true := by rw [decide_eq_true hf]; simp
      have hsp := Hspec.out
      rw [hd, if_neg (by simp)] at hsp
      have Hsp := Lib.hid hsp
      clear hf hd hsp Hspec
      go_upto_region 2 with fail
      go_quiet (fail)
      go_wp2_with fail
      go_end0
      exact ⟨rfl, F2, (HS2.out.trans (HQ.out _)).trans (HD1.out _).2, by rw [Hsp.out]; exact (HD1.out _).1⟩
end Go.Proofs.YthehpmffkkogpaaGreatDoor
namespace Go.Proofs.YthehpmffkkogpaaGreatDoor
set_option linter.unusedVariables false
open Go.ChangeShapes Go.WideShapes Go.ChangeAt Go.RowKit
def GoP (lo mb : Nat) (pv vv : Value) (F : Value × Value) (m : MM) (n : Nat) (w : World) (e : Ending) (w' : World) : Prop := e = .returned (.int .i64 (n : Int)) ∧ ∃ F', MStep mb F F' w w' ∧ Mach w' lo mb pv vv m.s m.steps m.fault F'
set_option maxHeartbeats 4000000 in
set_option maxRecDepth 20000 in
theorem steps_any (most : Int) {w0 : World} {lo mb : Nat} {m0 : MM} {F0 : Value × Value} {ps : List InsL} {pq : Option Addr} {pc pb po : Nat} {view : List FileL} {vq : Option Addr} {vc kb ko : Nat} (hm : Mach w0 lo mb (.slice pq ps.length pc) (.slice vq view.length vc) m0.s m0.steps m0.fault F0) (wf : WfM ps.length m0) (hps : InsS w0 (fun k => k < mb) (.slice pq ps.length pc) ps pb po) (hpw : ∀ x ∈ ps, WfI ps.length x) (hpl : ps.length ≤ 256) (hview : InpS w0 (fun k => k < mb) (.slice vq view.length vc) view kb ko) (hgv : goodF view = true) (base : Nat) (hlb : Lb base w0) (hbase : base ≤ mb) : Calls Tryz.prog 22 #[.pointer (some ⟨mb, 0, none⟩), .int .i64 most] w0 (GoP lo mb (.slice pq ps.length pc) (.slice vq view.length vc) F0 (goF ps view most.toNat m0) ((goF ps view most.toNat m0).steps - m0.steps) w0) := by
  have hlow := hm.low.1
  have hlo := hm.lo
  have HST := Lib.hid (fun (w : World) (F : Value × Value) (m : MM) (hs : MStep mb F0 F w0 w) (hm : Mach w lo mb (.slice pq ps.length pc) (.slice vq view.length vc) m.s m.steps m.fault F) (wf : WfM ps.length m) (hd : m.s.done = false) =>
    step_any (s0 := m.s) (st := m.steps) (ft := m.fault) hm wf (hps.keep hs.chg fun k hk e => by rcases e with e | e; omega; have := (hlow k e).1; omega) hpw hpl (hview.keep hs.chg fun k hk e => by rcases e with e | e; omega; have := (hlow k e).1; omega) hgv base (hlb.mstep hs hbase fun k hk => by have := (hlow k hk).1; omega) hbase hd)
  have HW := Lib.hid (fun k => go_wf hpw hgv k m0 wf)
  have Hm := Lib.hid hm
  obtain ⟨mk, hmk⟩ : ∃ z, z = most.toNat := ⟨_, rfl⟩
  rw [← hmk]
  have Hmk := Lib.hid hmk
  clear hm wf hps hpw hpl hview hgv hlb hlow hlo hmk hbase
  go_enter Tryz.func22, Tryz.ntmps22
  go_wp2_with fail
  go_loopw [5] (fun d wr => ∃ k : Nat, k ≤ mk ∧ d = .int .i64 k ∧ (goF ps view k m0).steps = m0.steps + k ∧ ∃ F, MStep mb F0 F w0 wr ∧ Mach wr lo mb (.slice pq ps.length pc) (.slice vq view.length vc) (goF ps view k m0).s (goF ps view k m0).steps (goF ps view k m0).fault F) (fun d _ => mk - (intOf d).toNat)
  case atStart => exact ⟨0, Nat.zero_le _, rfl, rfl, F0, MStep.refl _ _ _, Hm.out⟩
  case round =>
    obtain ⟨k, hk, rfl, hst, F, hs, hm⟩ := hrel
    have hkb : k ≤ 4096 := by have := (HW.out k).fuel; omega
    have Hst := Lib.hid hst
    have Hs := Lib.hid hs
    have Hmm := Lib.hid hm
    have y55 : wr.cell? ⟨mb, 55, none⟩ = some (.bool (goF ps view k m0).s.done) := by obtain ⟨_, _, _, _, _, _, _, _, _, h, _⟩ := hm.cells; exact h
    clear hst hs hm
    by_cases hlt : (k : Int) < most
    · have hlt2 : k < mk := by rw [Hmk.out]; omega
      cases hd : (goF ps view k m0).s.done with
      | true =>
        rw [hd] at y55
        have hfin : goF ps view mk m0 = goF ps view k m0 := by
          have e : mk = k + (mk - k) := by omega
          rw [e, go_add, go_done hd]
        have Hfin := Lib.hid hfin
        clear hfin hd
        go_wp2_with fail
        go_ret
        refine ⟨?_, F, Hs.out, ?_⟩
        · rw [Hfin.out, Hst.out, Nat.add_sub_cancel_left]; rfl
        · rw [Hfin.out]; exact Hmm.out
      | false =>
        rw [hd] at y55
        have HC := Lib.hid (HST.out wr F _ Hs.out Hmm.out (HW.out k) hd)
        have hsucc := go_succ hd
        have Hsucc := Lib.hid hsucc
        have Hd := Lib.hid hd
        clear hd hsucc
        go_wp2_with fail
        refine HC.out.mono ?_
        rintro e w2 ⟨rfl, F2, hs2, hm2⟩
        have Hf := Lib.hid (And.intro (Hs.out.trans hs2) hm2)
        clear hs2 hm2 y55
        go_wp2_with fail
        go_roundw
        case rel =>
          refine ⟨k + 1, by omega, by go_num, ?_, F2, Hf.out.1, ?_⟩
          · rw [Hsucc.out, step_steps, Hst.out]; omega
          · rw [Hsucc.out]; exact Hf.out.2
        case measure => simp [intOf]; omega
    · have hkm : k = mk := by have h := Hmk.out; omega
      subst hkm
      clear y55
      go_wp2_with fail
      go_ret
      refine ⟨?_, F, Hs.out, Hmm.out⟩
      rw [Hst.out, Nat.add_sub_cancel_left]; rfl
theorem stepn_any (most : Int) (w : World) : Calls Tryz.prog 22 #[.pointer none, .int .i64 most] w fun e w' => e = .returned (.int .i64 0) ∧ w = w' := by
  go_enter Tryz.func22, Tryz.ntmps22
  go_wp2_with fail
  go_ret
  exact ⟨rfl, rfl⟩
theorem done_any {w : World} {lo mb : Nat} {pv vv : Value} {s : MSt} {st : Nat} {ft : Int} {F : Value × Value} (hm : Mach w lo mb pv vv s st ft F) : Calls Tryz.prog 19 #[.pointer (some ⟨mb, 0, none⟩)] w fun e w' => e = .returned (.bool s.done) ∧ w = w' := by
  have y55 : w.cell? ⟨mb, 55, none⟩ = some (.bool s.done) := by obtain ⟨_, _, _, _, _, _, _, _, _, h, _⟩ := hm.cells; exact h
  generalize s.done = d at *
  clear hm
  go_enter Tryz.func19, Tryz.ntmps19
  go_wp2_with fail
  go_ret
  exact ⟨rfl, rfl⟩
theorem donen_any (w : World) : Calls Tryz.prog 19 #[.pointer none] w fun e w' => e = .returned (.bool false) ∧ w = w' := by
  go_enter Tryz.func19, Tryz.ntmps19
  go_wp2_with fail
  go_ret
  exact ⟨rfl, rfl⟩
theorem nsteps_any {w : World} {lo mb : Nat} {pv vv : Value} {s : MSt} {st : Nat} {ft : Int} {F : Value × Value} (hm : Mach w lo mb pv vv s st ft F) : Calls Tryz.prog 20 #[.pointer (some ⟨mb, 0, none⟩)] w fun e w' => e = .returned (.int .i64 (st : Int)) ∧ w = w' := by
  have y54 : w.cell? ⟨mb, 54, none⟩ = some (.int .i64 st) := by obtain ⟨_, _, _, _, _, _, _, _, h, _, _⟩ := hm.cells; exact h
  clear hm
  go_enter Tryz.func20, Tryz.ntmps20
  go_wp2_with fail
  go_ret
  exact ⟨rfl, rfl⟩
theorem nstepsn_any (w : World) : Calls Tryz.prog 20 #[.pointer none] w fun e w' => e = .returned (.int .i64 0) ∧ w = w' := by
  go_enter Tryz.func20, Tryz.ntmps20
  go_wp2_with fail
  go_ret
  exact ⟨rfl, rfl⟩
end Go.Proofs.YthehpmffkkogpaaGreatDoor
