/- The contract of Parse. Condition: the keywords read as listed. -/
import Derived.Test.YtdgcpgbknfojhaaDoorRcSrc
import Derived.Defers
import Derived.Recover

namespace Go.Proofs.YtdgcpgbknfojhaaDoor
set_option linter.unusedVariables false
open Go.ChangeShapes Go.WideShapes Go.ChangeAt Go.RowKit
/- the three results' variables -/
def ResM (w : World) (b2 b3 b4 : Nat) (v : Array Value) (a e : Int) : Prop := w.heap[b2]? = some (.cells v 29 (0, 0)) ∧ w.heap[b3]? = some (.cells #[.int .i64 a] 3 (0, 0)) ∧ w.heap[b4]? = some (.cells #[.int .i64 e] 30 (0, 0))
theorem ResM.keep {S : Nat → Prop} {w w' : World} {b2 b3 b4 : Nat} {v : Array Value} {a e : Int} (h : ResM w b2 b3 b4 v a e) (hc : Chg S w w') (h2 : ¬ S b2) (h3 : ¬ S b3) (h4 : ¬ S b4) : ResM w' b2 b3 b4 v a e := ⟨row_kept hc h.1 h2, row_kept hc h.2.1 h3, row_kept hc h.2.2 h4⟩
theorem var1e {w : World} {b : Nat} {x0 : Value} {t : TypeId} (h : w.heap[b]? = some (.cells #[x0] t (0, 0))) : w.cell? ⟨b, 0, none⟩ = some x0 := by rw [cell_of_row w b _ _ t (0, 0) h]; rfl
/- the results' variables are set, the last -/
theorem res_end {w : World} {b2 b3 b4 : Nat} {x0 x1 x2 x3 x4 x5 x6 : Value} {a0 e0 : Int} (h : ResM w b2 b3 b4 #[x0, x1, x2, x3, x4, x5, x6] a0 e0) (n23 : ¬ b2 = b3) (n24 : ¬ b2 = b4) (n34 : ¬ b3 = b4) (y0 y1 y2 y3 y4 y5 y6 : Value) (a e : Int) :
    ResM (((((((((w.setCell ⟨b2, 0, none⟩ y0).setCell ⟨b2, 1, none⟩ y1).setCell ⟨b2, 2, none⟩ y2).setCell ⟨b2, 3, none⟩ y3).setCell ⟨b2, 4, none⟩ y4).setCell ⟨b2, 5, none⟩ y5).setCell ⟨b2, 6, none⟩ y6).setCell ⟨b3, 0, none⟩ (.int .i64 a)).setCell ⟨b4, 0, none⟩ (.int .i64 e)) b2 b3 b4 #[y0, y1, y2, y3, y4, y5, y6] a e ∧
    Chg (fun k => k = b2 ∨ k = b3 ∨ k = b4) w (((((((((w.setCell ⟨b2, 0, none⟩ y0).setCell ⟨b2, 1, none⟩ y1).setCell ⟨b2, 2, none⟩ y2).setCell ⟨b2, 3, none⟩ y3).setCell ⟨b2, 4, none⟩ y4).setCell ⟨b2, 5, none⟩ y5).setCell ⟨b2, 6, none⟩ y6).setCell ⟨b3, 0, none⟩ (.int .i64 a)).setCell ⟨b4, 0, none⟩ (.int .i64 e)) := by
  obtain ⟨h7, c7⟩ := set7 h.1 y0 y1 y2 y3 y4 y5 y6
  generalize (((((((w.setCell ⟨b2, 0, none⟩ y0).setCell ⟨b2, 1, none⟩ y1).setCell ⟨b2, 2, none⟩ y2).setCell ⟨b2, 3, none⟩ y3).setCell ⟨b2, 4, none⟩ y4).setCell ⟨b2, 5, none⟩ y5).setCell ⟨b2, 6, none⟩ y6) = w7 at *
  have k3 := row_kept c7 h.2.1 fun e => n23 e.symm
  have k4 := row_kept c7 h.2.2 fun e => n24 e.symm
  have c8 := (Chg.refl (fun k => k = b3) w7).setCell (p := ⟨b3, 0, none⟩) (.inl rfl) (.int .i64 a)
  have h8 := heap_set k3 (i := 0) (.int .i64 a)
  have k7 := row_kept c8 h7 n23
  have k8 := row_kept c8 k4 fun e => n34 e.symm
  generalize w7.setCell ⟨b3, 0, none⟩ (.int .i64 a) = w8 at *
  have c9 := (Chg.refl (fun k => k = b4) w8).setCell (p := ⟨b4, 0, none⟩) (.inl rfl) (.int .i64 e)
  exact ⟨⟨row_kept c9 k7 n24, row_kept c9 h8 n34, heap_set k8 (i := 0) (.int .i64 e)⟩, ((c7.mono fun _ _ e => .inl e).trans (c8.mono fun _ _ e => .inr (.inl e))).trans (c9.mono fun _ _ e => .inr (.inr e))⟩
def CaughtP (a y : Int) (b2 b3 b4 : Nat) (u : FrameMode) (w : World) (e : Ending) (u' : FrameMode) (w' : World) : Prop := e = .returned (.tuple #[]) ∧ u' = u ∧ Chg (fun k => k = b2 ∨ k = b3 ∨ k = b4) w w' ∧ ResM w' b2 b3 b4 #[.int .i64 0, .string ⟨#[]⟩, .slice none 0 0, .int .i64 0, .string ⟨#[]⟩, .slice none 0 0, .slice none 0 0] a y
set_option maxHeartbeats 4000000 in
set_option maxRecDepth 20000 in
theorem catch_fault (a y : Int) (b2 b3 b4 : Nat) (older : List PanicEntry) (w : World) (hr : ResM w b2 b3 b4 #[.int .i64 0, .string ⟨#[]⟩, .slice none 0 0, .int .i64 0, .string ⟨#[]⟩, .slice none 0 0, .slice none 0 0] 0 0) (h23 : b2 ≠ b3) (h24 : b2 ≠ b4) (h34 : b3 ≠ b4) :
    CallsD Tryd.prog 26 #[.pointer (some ⟨b2, 0, none⟩), .pointer (some ⟨b3, 0, none⟩), .pointer (some ⟨b4, 0, none⟩)] (.panicking ({ v := .iface 55 (.agg #[.int .i64 a, .int .i64 y]), recovered := false } :: older)) w
      (CaughtP a y b2 b3 b4 (.panicking ({ v := .iface 55 (.agg #[.int .i64 a, .int .i64 y]), recovered := true } :: older)) w) := by
  have hta : ∀ w : World, (Instr.typeAssert (.iface 55 (.agg #[.int .i64 a, .int .i64 y])) 20 55 true).run Tryd.prog w = .ok (.tuple #[.agg #[.int .i64 a, .int .i64 y], .bool true]) w := fun w => by kernel_rfl
  obtain ⟨hr2, hr3, hr4⟩ := hr
  have hl2 := lt_of_block hr2
  have hl3 := lt_of_block hr3
  have hl4 := lt_of_block hr4
  have n23 : ¬ b2 = b3 := h23
  have n24 : ¬ b2 = b4 := h24
  have n34 : ¬ b3 = b4 := h34
  have n32 : ¬ b3 = b2 := fun e => h23 e.symm
  have n42 : ¬ b4 = b2 := fun e => h24 e.symm
  have n43 : ¬ b4 = b3 := fun e => h34 e.symm
  refine callsD_of_wpS Tryd.func26 rfl fun c₀ cs hu => ?_
  apply wpS_seq
  apply wpS_region
  simp [wpOpsS, go_sem, recoverD, hu, Tryd.ntmps26, Exit.thenS]
  refine wpS_of_wp ?_
  rw [show ((#[.pointer (some ⟨b2, 0, none⟩), .pointer (some ⟨b3, 0, none⟩), .pointer (some ⟨b4, 0, none⟩)] : Array Value) ++ (Array.replicate 14 undef).setIfInBounds 3 (.iface 55 (.agg #[.int .i64 a, .int .i64 y]))) = #[.pointer (some ⟨b2, 0, none⟩), .pointer (some ⟨b3, 0, none⟩), .pointer (some ⟨b4, 0, none⟩), undef, undef, undef, .iface 55 (.agg #[.int .i64 a, .int .i64 y]), undef, undef, undef, undef, undef, undef, undef, undef, undef, undef] by kernel_rfl]
  have hal_ := (Chg.refl NoB w).alloc (.cells #[.int .i64 a, .int .i64 y] 55)
  have hb_ := heap_alloc_new w (.cells #[.int .i64 a, .int .i64 y] 55)
  obtain ⟨b5, hxb_⟩ : ∃ b, b = w.heap.size := ⟨_, rfl⟩
  obtain ⟨w1, hw_⟩ : ∃ w_, w.alloc (.cells #[.int .i64 a, .int .i64 y] 55) = w_ := ⟨_, rfl⟩
  have hz_ : w1.heap.size = b5 + 1 := by rw [← hw_, hxb_]; exact alloc_size _ _
  rw [hw_] at hal_ hb_
  rw [← hxb_] at hb_
  have Hw5 := Lib.hid hw_
  have Hx5 := Lib.hid hxb_
  have Ha5 := Lib.hid hal_
  have Hb5 := Lib.hid hb_
  have Hz5 := Lib.hid hz_
  clear hal_ hb_ hxb_ hw_ hz_
  have g2 := row_kept Ha5.out hr2 id
  have g3 := row_kept Ha5.out hr3 id
  have g4 := row_kept Ha5.out hr4 id
  have f2 := row_free g2
  have f3 := row_free g3
  have f4 := row_free g4
  obtain ⟨x0, x1⟩ := var2 Hb5.out
  obtain ⟨v0, v1, v2, v3, v4, v5, v6⟩ := var7 g2
  have z3 := var1e g3
  have z4 := var1e g4
  go_upto_region 7 with fail
  rw [Hw5.out, ← Hx5.out]
  have hn2 : ¬ b5 = b2 := by have := Hx5.out; omega
  have hn3 : ¬ b5 = b3 := by have := Hx5.out; omega
  have hn4 : ¬ b5 = b4 := by have := Hx5.out; omega
  have hn2' : ¬ b2 = b5 := fun e => hn2 e.symm
  have hn3' : ¬ b3 = b5 := fun e => hn3 e.symm
  have hn4' : ¬ b4 = b5 := fun e => hn4 e.symm
  have HE := res_end (x0 := .int .i64 0) (x1 := .string ⟨#[]⟩) (x2 := .slice none 0 0) (x3 := .int .i64 0) (x4 := .string ⟨#[]⟩) (x5 := .slice none 0 0) (x6 := .slice none 0 0) ⟨g2, g3, g4⟩ h23 h24 h34 (.int .i64 0) (.string ⟨#[]⟩) (.slice none 0 0) (.int .i64 0) (.string ⟨#[]⟩) (.slice none 0 0) (.slice none 0 0) a y
  have Hfin := Lib.hid (HE.1.keep (Chg.refl NoB _).drew id id id)
  have Hchg := Lib.hid (((Ha5.out.mono fun _ _ h => h.elim).trans HE.2).drew)
  clear HE g2 g3 g4 hta
  go_region
  all_goals
    go_wp2_with fail
    exact ⟨rfl, _, rfl, _, results_none rfl _ _ _, rfl, rfl, Hchg.out, Hfin.out⟩
set_option maxHeartbeats 2000000 in
set_option maxRecDepth 20000 in
theorem catch_none (b2 b3 b4 : Nat) (w : World) : CallsD Tryd.prog 26 #[.pointer (some ⟨b2, 0, none⟩), .pointer (some ⟨b3, 0, none⟩), .pointer (some ⟨b4, 0, none⟩)] .returning w fun e u' w' => e = .returned (.tuple #[]) ∧ u' = .returning ∧ w = w' := by
  refine callsD_of_wpS Tryd.func26 rfl fun c₀ cs hu => ?_
  apply wpS_seq
  apply wpS_region
  simp [wpOpsS, go_sem, recoverD, hu, Tryd.ntmps26, Exit.thenS]
  refine wpS_of_wp ?_
  go_wp2_with fail
  refine ⟨rfl, _, ?_, _, results_none rfl _ _ _, rfl, rfl, rfl⟩
  cases c₀
  simp_all
def zeroR : RcpL := ⟨.mk 0 [] [], .mk 0 [] [], []⟩
def resF : Except (Int × Int) RcpL → RcpL × Int × Int
  | .ok r => (r, 0, 0)
  | .error x => (zeroR, x.1, x.2)
def ParseP (r : RcpL × Int × Int) (w : World) (e : Ending) (w' : World) : Prop := Chg NoB w w' ∧ ∃ v, e = .returned (.tuple #[v, .int .i64 r.2.1, .int .i64 r.2.2]) ∧ SrcV w' (fun k => w.heap.size ≤ k ∧ k < w'.heap.size) v r.1
set_option maxRecDepth 20000 in
theorem zero_src (w : World) (S : Nat → Prop) : SrcV w S (.agg #[.int .i64 0, .string ⟨#[]⟩, .slice none 0 0, .int .i64 0, .string ⟨#[]⟩, .slice none 0 0, .slice none 0 0]) zeroR := ⟨_, _, _, 0, 0, 0, 0, 0, 0, rfl, ⟨Nat.zero_le _, ExS.nil _ _⟩, ⟨Nat.zero_le _, ExS.nil _ _⟩, FdS.nil _ _⟩
theorem load_src {w : World} {b : Nat} {x0 x1 x2 x3 x4 x5 x6 : Value} (h : w.heap[b]? = some (.cells #[x0, x1, x2, x3, x4, x5, x6] 29 (0, 0))) : (loadVar 29 ⟨b, 0, none⟩).run Tryd.prog w = .ok (.agg #[x0, x1, x2, x3, x4, x5, x6]) w := run_loadVar_row w b 29 29 #[x0, x1, x2, x3, x4, x5, x6] (0, 0) _ h (Tryd.underlying29) rfl (show (Tryd.prog.info? 29).map (·.size) = some 7 by kernel_rfl)
theorem three_end {w : World} {tmps : Array Value} {b2 b3 b4 : Nat} {x0 x1 x2 x3 x4 x5 x6 : Value} {a e : Int} {R : Ending → World → Prop} (h : ResM w b2 b3 b4 #[x0, x1, x2, x3, x4, x5, x6] a e) (h2 : tmps[2]? = some (.pointer (some ⟨b2, 0, none⟩))) (h3 : tmps[3]? = some (.pointer (some ⟨b3, 0, none⟩))) (h4 : tmps[4]? = some (.pointer (some ⟨b4, 0, none⟩))) (hR : R (.returned (.tuple #[.agg #[x0, x1, x2, x3, x4, x5, x6], .int .i64 a, .int .i64 e])) w) :
    Leaves Tryd.prog Tryd.f12 tmps R [] .returning w := by
  have e2 := load_src h.1
  have e3 := var1e h.2.1
  have e4 := var1e h.2.2
  refine ⟨.tuple #[.agg #[x0, x1, x2, x3, x4, x5, x6], .int .i64 a, .int .i64 e], ?_, hR⟩
  have l3 : (loadVar 3 ⟨b3, 0, none⟩).run Tryd.prog w = .ok (.int .i64 a) w := by simp [go_sem, e3]
  have l4 : (loadVar 30 ⟨b4, 0, none⟩).run Tryd.prog w = .ok (.int .i64 e) w := by simp [go_sem, e4]
  simp only [results, Tryd.f12]
  simp [Result.andThen, h2, h3, h4, asAddr, e2, l3, l4]
/- the fault Z is caught in world W; the results' variables there; what changed; what Parse says -/
set_option maxHeartbeats 8000000 in
set_option maxRecDepth 20000 in
theorem parse_any (s : List UInt8) (base : Nat) (w : World) (hk : Kw base w) : Calls Tryd.prog 12 #[.string (tx s)] w (ParseP (resF (parseF s)) w) := by
  have hmf : ∀ (fn : Fn) (first cap : Array Value) (w : World), (Instr.makeFunc fn first cap).run Tryd.prog w = .ok (.func fn first cap) w := fun _ _ _ _ => rfl
  have hz : (tx s).size = s.length := tx_size s
  have hal_ := (Chg.refl NoB w).alloc (.cells #[.int .i64 0, .string ⟨#[]⟩, .slice none 0 0, .int .i64 0, .string ⟨#[]⟩, .slice none 0 0, .slice none 0 0] 29)
  have hb_ := heap_alloc_new w (.cells #[.int .i64 0, .string ⟨#[]⟩, .slice none 0 0, .int .i64 0, .string ⟨#[]⟩, .slice none 0 0, .slice none 0 0] 29)
  obtain ⟨b2, hxb_⟩ : ∃ b, b = w.heap.size := ⟨_, rfl⟩
  obtain ⟨wa, hw_⟩ : ∃ w_, w.alloc (.cells #[.int .i64 0, .string ⟨#[]⟩, .slice none 0 0, .int .i64 0, .string ⟨#[]⟩, .slice none 0 0, .slice none 0 0] 29) = w_ := ⟨_, rfl⟩
  have hz_ : wa.heap.size = b2 + 1 := by rw [← hw_, hxb_]; exact alloc_size _ _
  rw [hw_] at hal_ hb_
  rw [← hxb_] at hb_
  have Hw2 := Lib.hid hw_
  have Hx2 := Lib.hid hxb_
  have Ha2 := Lib.hid hal_
  have Hb2 := Lib.hid hb_
  have Hz2 := Lib.hid hz_
  clear hal_ hb_ hxb_ hw_ hz_
  have hal_ := (Chg.refl NoB wa).alloc (.cells #[.int .i64 0] 3)
  have hb_ := heap_alloc_new wa (.cells #[.int .i64 0] 3)
  obtain ⟨b3, hxb_⟩ : ∃ b, b = wa.heap.size := ⟨_, rfl⟩
  obtain ⟨wb, hw_⟩ : ∃ w_, wa.alloc (.cells #[.int .i64 0] 3) = w_ := ⟨_, rfl⟩
  have hz_ : wb.heap.size = b3 + 1 := by rw [← hw_, hxb_]; exact alloc_size _ _
  rw [hw_] at hal_ hb_
  rw [← hxb_] at hb_
  have Hw3 := Lib.hid hw_
  have Hx3 := Lib.hid hxb_
  have Ha3 := Lib.hid hal_
  have Hb3 := Lib.hid hb_
  have Hz3 := Lib.hid hz_
  clear hal_ hb_ hxb_ hw_ hz_
  have hal_ := (Chg.refl NoB wb).alloc (.cells #[.int .i64 0] 30)
  have hb_ := heap_alloc_new wb (.cells #[.int .i64 0] 30)
  obtain ⟨b4, hxb_⟩ : ∃ b, b = wb.heap.size := ⟨_, rfl⟩
  obtain ⟨w1, hw_⟩ : ∃ w_, wb.alloc (.cells #[.int .i64 0] 30) = w_ := ⟨_, rfl⟩
  have hz_ : w1.heap.size = b4 + 1 := by rw [← hw_, hxb_]; exact alloc_size _ _
  rw [hw_] at hal_ hb_
  rw [← hxb_] at hb_
  have Hw4 := Lib.hid hw_
  have Hx4 := Lib.hid hxb_
  have Ha4 := Lib.hid hal_
  have Hb4 := Lib.hid hb_
  have Hz4 := Lib.hid hz_
  clear hal_ hb_ hxb_ hw_ hz_
  have Hne := Lib.hid (show b2 < b3 ∧ b3 < b4 ∧ w.heap.size ≤ b2 ∧ w1.heap.size = b4 + 1 from by have := Hx2.out; have := Hx3.out; have := Hx4.out; have := Hz2.out; have := Hz3.out; have := Hz4.out; omega)
  have HR := Lib.hid (show ResM w1 b2 b3 b4 #[.int .i64 0, .string ⟨#[]⟩, .slice none 0 0, .int .i64 0, .string ⟨#[]⟩, .slice none 0 0, .slice none 0 0] 0 0 from ⟨row_kept (Ha3.out.trans Ha4.out) Hb2.out id, row_kept Ha4.out Hb3.out id, Hb4.out⟩)
  have Hc1 := Lib.hid ((Ha2.out.trans Ha3.out).trans Ha4.out)
  have Hk1 := Lib.hid (hk.keep Hc1.out)
  have Hkb := Lib.hid hk.le
  have Hxe := Lib.hid (show b2 + 1 = b3 ∧ b3 + 1 = b4 from ⟨by rw [Hx3.out, Hz2.out], by rw [Hx4.out, Hz3.out]⟩)
  clear hk
  go_enter_defers Tryd.func12, Tryd.ntmps12
  go_upto_region 1 with fail
  rw [Hw2.out, Hw3.out, Hw4.out, ← Hx2.out, Hxe.out.1, Hxe.out.2]
  by_cases hl : (4096 : Int) < (s.length : Int)
  · have Hp := Lib.hid (show parseF s = .error (0, 3) by unfold parseF; rw [if_pos (by omega)])
    obtain ⟨v0, v1, v2, v3, v4, v5, v6⟩ := var7 HR.out.1
    have f2 := row_free HR.out.1
    have f3 := row_free HR.out.2.1
    have f4 := row_free HR.out.2.2
    have z3 := var1e HR.out.2.1
    have z4 := var1e HR.out.2.2
    have n23 : ¬ b2 = b3 := by have := Hne.out; omega
    have n24 : ¬ b2 = b4 := by have := Hne.out; omega
    have n34 : ¬ b3 = b4 := by have := Hne.out; omega
    have n32 : ¬ b3 = b2 := fun e => n23 e.symm
    have n42 : ¬ b4 = b2 := fun e => n24 e.symm
    have n43 : ¬ b4 = b3 := fun e => n34 e.symm
    have S7 := set7 HR.out.1 (.int .i64 0) (.string ⟨#[]⟩) (.slice none 0 0) (.int .i64 0) (.string ⟨#[]⟩) (.slice none 0 0) (.slice none 0 0)
    have HE := Lib.hid (res_end HR.out n23 n24 n34 (.int .i64 0) (.string ⟨#[]⟩) (.slice none 0 0) (.int .i64 0) (.string ⟨#[]⟩) (.slice none 0 0) (.slice none 0 0) 0 3)
    clear hmf
    go_wp2_with fail
    obtain ⟨hrF, hcF⟩ := HE.out
    have hcW := Hc1.out.above hcF fun k e => by have := Hne.out; omega
    refine three_end hrF rfl rfl rfl ?_
    rw [Hp.out]
    exact ⟨hcW, _, rfl, zero_src _ _⟩
  · have hs : s.length ≤ 4096 := by omega
    have n23 : ¬ b2 = b3 := by have := Hne.out; omega
    have n24 : ¬ b2 = b4 := by have := Hne.out; omega
    have n34 : ¬ b3 = b4 := by have := Hne.out; omega
    have n32 : ¬ b3 = b2 := fun e => n23 e.symm
    have n42 : ¬ b4 = b2 := fun e => n24 e.symm
    have n43 : ¬ b4 = b3 := fun e => n34 e.symm
    have Hp := Lib.hid (show parseF s = match takeF s with
      | .error x => .error (((s.length - x.1 : Nat) : Int), x.2)
      | .ok st => match sourceF st with
        | .error x => .error (((s.length - x.1 : Nat) : Int), x.2)
        | .ok r => .ok r by unfold parseF; rw [if_neg (by omega)]; rfl)
    have hal_ := (Chg.refl NoB w1).alloc (.cells #[.string (tx s), .int .i64 0, .int .i64 0, .string ⟨#[]⟩, .int .i64 0] 59)
    have hb_ := heap_alloc_new w1 (.cells #[.string (tx s), .int .i64 0, .int .i64 0, .string ⟨#[]⟩, .int .i64 0] 59)
    obtain ⟨b5, hxb_⟩ : ∃ b, b = w1.heap.size := ⟨_, rfl⟩
    obtain ⟨w2, hw_⟩ : ∃ w_, w1.alloc (.cells #[.string (tx s), .int .i64 0, .int .i64 0, .string ⟨#[]⟩, .int .i64 0] 59) = w_ := ⟨_, rfl⟩
    have hz_ : w2.heap.size = b5 + 1 := by rw [← hw_, hxb_]; exact alloc_size _ _
    rw [hw_] at hal_ hb_
    rw [← hxb_] at hb_
    have Hw5 := Lib.hid hw_
    have Hx5 := Lib.hid hxb_
    have Ha5 := Lib.hid hal_
    have Hb5 := Lib.hid hb_
    have Hz5 := Lib.hid hz_
    clear hal_ hb_ hxb_ hw_ hz_
    have HR2 := Lib.hid (HR.out.keep Ha5.out id id id)
    have hb5 : b4 < b5 := by have := Hx5.out; have := Hne.out; omega
    have hrd : RdM w2 b5 s ⟨0, [], s.length, s⟩ := ⟨by show w2.heap[b5]? = some (.cells (rdV s (s.length - s.length) 0 (s.length - s.length) []) 59 (0, 0)); rw [Nat.sub_self]; exact Hb5.out, List.suffix_refl _, Nat.le_refl _, Nat.zero_le _⟩
    have Hbb := Lib.hid (show base ≤ b5 by have := Hkb.out; have := Hne.out; omega)
    have HT := Lib.hid (take_any base hrd (by show s.length ≤ 8192; omega) (Hk1.out.keep Ha5.out) Hbb.out)
    have Hc2 := Lib.hid (Hc1.out.trans Ha5.out)
    have Hkw := Lib.hid (fun w' (h : Chg (fun k => k = b5) w2 w') => ((Hk1.out.keep Ha5.out).chg h fun k e => by have := Hbb.out; omega))
    clear hrd HR
    go_upto_region 5 with fail
    rw [Hw5.out, ← Hx5.out]
    go_wp2_with fail
    refine HT.out.mono ?_
    rintro e w3 ⟨hc, h2⟩
    clear HT
    have Hc3 := Lib.hid (Hc2.out.above hc fun k e => by have := Hne.out; omega)
    have HR3 := Lib.hid (HR2.out.keep hc (by have := Hne.out; omega) (by have := Hne.out; omega) (by have := Hne.out; omega))
    have Hk3 := Lib.hid (Hkw.out _ hc)
    have Hh3 := Lib.hid hc
    clear hc
    cases ht1 : takeF s with
    | error z =>
      change match takeF s with | .ok st => _ | .error x => _ at h2
      rw [ht1] at h2 Hp
      obtain rfl : e = quitF ((s.length - z.1 : Nat) : Int) z.2 := h2
      have HCQ := Lib.hid (catch_fault ((s.length - z.1 : Nat) : Int) z.2 b2 b3 b4 [] w3 HR3.out n23 n24 n34)
      unfold quitF
      go_wp2_with fail
      refine leaves_cons (f := 26) (args := #[.pointer (some ⟨b2, 0, none⟩), .pointer (some ⟨b3, 0, none⟩), .pointer (some ⟨b4, 0, none⟩)]) (by simp) (by simp [go_sem]) ?_
      refine HCQ.out.mono ?_
      rintro e u' w'' ⟨rfl, rfl, hcF, hrF⟩
      show Leaves _ _ _ _ [] .returning w''
      have hcW := (Hc3.out).above hcF fun k e => by have := Hne.out; omega
      refine three_end hrF rfl rfl rfl ?_
      rw [Hp.out]
      exact ⟨hcW, _, rfl, zero_src _ _⟩
    | ok st =>
      change match takeF s with | .ok st => _ | .error x => _ at h2
      rw [ht1] at h2 Hp
      simp only at Hp
      obtain ⟨rfl, hr3⟩ := h2
      have HS := Lib.hid (source_any hr3 Hk3.out (by omega) Hbb.out)
      clear hr3
      go_wp2_with fail
      refine HS.out.mono ?_
      rintro e w4 ⟨hc, h2⟩
      clear HS
      have Hc4 := Lib.hid (Hc3.out.above hc fun k e => by have := Hne.out; omega)
      have HR4 := Lib.hid (HR3.out.keep hc (by have := Hne.out; omega) (by have := Hne.out; omega) (by have := Hne.out; omega))
      have Hz4 := Lib.hid hc.size
      clear hc
      cases ht2 : sourceF st with
      | error z =>
        rw [ht2] at h2 Hp
        obtain rfl : e = quitF ((s.length - z.1 : Nat) : Int) z.2 := h2
        have HCQ := Lib.hid (catch_fault ((s.length - z.1 : Nat) : Int) z.2 b2 b3 b4 [] w4 HR4.out n23 n24 n34)
        unfold quitF
        go_wp2_with fail
        refine leaves_cons (f := 26) (args := #[.pointer (some ⟨b2, 0, none⟩), .pointer (some ⟨b3, 0, none⟩), .pointer (some ⟨b4, 0, none⟩)]) (by simp) (by simp [go_sem]) ?_
        refine HCQ.out.mono ?_
        rintro e u' w'' ⟨rfl, rfl, hcF, hrF⟩
        show Leaves _ _ _ _ [] .returning w''
        have hcW := (Hc4.out).above hcF fun k e => by have := Hne.out; omega
        refine three_end hrF rfl rfl rfl ?_
        rw [Hp.out]
        exact ⟨hcW, _, rfl, zero_src _ _⟩
      | ok r =>
        rw [ht2] at h2 Hp
        obtain ⟨v, rfl, hv⟩ := h2
        obtain ⟨d, h, f, kb, ko, kb2, ko2, kf, kg, rfl, ⟨g1, g2⟩, ⟨g3, g4⟩, g5⟩ := hv
        obtain ⟨qd, cd, rfl, -⟩ := g2.sh
        obtain ⟨qh, ch, rfl, -⟩ := g4.sh
        obtain ⟨qf, cf, rfl, -⟩ := g5.sh
        have HE := Lib.hid (res_end HR4.out n23 n24 n34 (.int .i64 r.name.kind) (.string (tx r.name.s)) (.slice qd r.name.kids.length cd) (.int .i64 r.version.kind) (.string (tx r.version.s)) (.slice qh r.version.kids.length ch) (.slice qf r.fields.length cf) 0 0)
        have G := Lib.hid (And.intro g2 (And.intro g4 g5))
        obtain ⟨v0, v1, v2, v3, v4, v5, v6⟩ := var7 HR4.out.1
        have f2 := row_free HR4.out.1
        have f3 := row_free HR4.out.2.1
        have f4 := row_free HR4.out.2.2
        have z3 := var1e HR4.out.2.1
        have z4 := var1e HR4.out.2.2
        have Hz3 := Lib.hid (show b4 < w3.heap.size from lt_of_block HR3.out.2.2)
        clear g2 g4 g5 hmf
        go_wp2_with fail
        refine leaves_cons (f := 26) (args := #[.pointer (some ⟨b2, 0, none⟩), .pointer (some ⟨b3, 0, none⟩), .pointer (some ⟨b4, 0, none⟩)]) (by simp) (by simp [go_sem]) ?_
        refine (catch_none b2 b3 b4 _).mono ?_
        rintro e u' w'' ⟨rfl, rfl, rfl⟩
        obtain ⟨hrF, hcF⟩ := HE.out
        have hcW := Hc4.out.above hcF fun k e => by have := Hne.out; omega
        have hkp : ∀ k, w3.heap.size ≤ k ∧ k < w4.heap.size → ¬ (k = b2 ∨ k = b3 ∨ k = b4) := fun k hk e => by have := Hz3.out; have := Hne.out; omega
        show Leaves _ _ _ _ [] .returning _
        refine three_end hrF rfl rfl rfl ?_
        rw [Hp.out]
        exact ⟨hcW, _, rfl, SrcV.mono (S := fun k => w3.heap.size ≤ k ∧ k < w4.heap.size) (fun k hk => ⟨Nat.le_trans Hc3.out.size hk.1, Nat.lt_of_lt_of_le hk.2 hcF.size⟩) ⟨_, _, _, kb, ko, kb2, ko2, kf, kg, rfl, ⟨g1, G.out.1.keep hcF hkp⟩, ⟨g3, G.out.2.1.keep hcF hkp⟩, G.out.2.2.keep hcF hkp⟩⟩
end Go.Proofs.YtdgcpgbknfojhaaDoor
