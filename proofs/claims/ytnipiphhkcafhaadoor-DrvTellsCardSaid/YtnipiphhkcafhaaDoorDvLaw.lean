/- The statements' own guard and measure of a build, and the walk of DrvWrites. Condition: the list of powers reads as the program's text lays it. -/
import Derived.Test.YtnipiphhkcafhaaDoorDvKey
namespace Go.Proofs.YtnipiphhkcafhaaDoor
set_option linter.unusedVariables false
open Go.ChangeShapes Go.WideShapes Go.ChangeAt Go.RowKit
structure DrvL.wf0 (d : DrvL) : Prop where
  name : d.name.length ≤ 140737488351232
  tool : d.tool.length ≤ 140737488351232
  a : -9223372036854775808 ≤ d.a ∧ d.a ≤ 9223372036854775807
  b : -9223372036854775808 ≤ d.b ∧ d.b ≤ 9223372036854775807
  c : -9223372036854775808 ≤ d.c ∧ d.c ≤ 9223372036854775807
  len : d.ins.length ≤ 140737488351232
  ins : ∀ i (hi : i < d.ins.length), d.ins[i].1.length ≤ 140737488351232 ∧ d.ins[i].2.length ≤ 140737488351232
def sumI : List InL → Nat
  | [] => 0
  | x :: r => x.1.length + x.2.length + sumI r
theorem sumI_app (a b : List InL) : sumI (a ++ b) = sumI a + sumI b := by
  induction a with
  | nil => rw [sumI]; simp
  | cons k r ih => rw [List.cons_append, sumI, sumI, ih]; omega
theorem sumI_take (ps : List InL) (k : Nat) (h : k < ps.length) : sumI (ps.take (k + 1)) = sumI (ps.take k) + (ps[k].1.length + ps[k].2.length) := by
  rw [List.take_add_one, List.getElem?_eq_getElem h, sumI_app]
  simp [sumI]
theorem sumI_sub (ps : List InL) (k : Nat) : sumI (ps.take k) ≤ sumI ps := by
  have : sumI ps = sumI (ps.take k) + sumI (ps.drop k) := by rw [← sumI_app, List.take_append_drop]
  omega
theorem sumI_at (ps : List InL) (i : Nat) (hi : i < ps.length) : ps[i].1.length + ps[i].2.length ≤ sumI ps := by
  have h1 := sumI_take ps i hi
  have h2 := sumI_sub ps (i + 1)
  omega
def weighD (d : DrvL) : Nat := d.name.length + d.tool.length + d.ins.length + sumI d.ins
def greatD (d : DrvL) : Bool := decide (16384 < weighD d)
theorem wf_of {d : DrvL} (h : d.wf0) (hg : greatD d = false) : d.wf := by
  unfold greatD weighD at hg
  have hg : ¬ 16384 < d.name.length + d.tool.length + d.ins.length + sumI d.ins := by simpa using hg
  refine ⟨by omega, by omega, h.a, h.b, h.c, by omega, fun i hi => ?_⟩
  have := sumI_at d.ins i hi
  omega
set_option maxHeartbeats 2000000 in
set_option maxRecDepth 20000 in
theorem great_any (d : DrvL) (hw : d.wf0) (S : Nat → Prop) (v : Value) (w : World) (hv : DrvV w S v d) : Calls Tryd.prog 6 #[v] w (SayB (greatD d) w) := by
  obtain ⟨s, kb, ko, rfl, hs⟩ := hv
  obtain ⟨⟨q, c, rfl, h1, h2, h3⟩, hat⟩ := hs
  have H3 := Lib.hid h3
  have Hat := Lib.hid hat
  obtain ⟨r, hr⟩ : ∃ r, r = greatD d := ⟨_, rfl⟩
  rw [← hr]
  have Hr := Lib.hid hr
  have hwn := hw.name
  have hwt := hw.tool
  have hwl := hw.len
  have Hwi := Lib.hid hw.ins
  have hal := (Chg.refl NoB w).alloc (.cells (drvC d (.slice q d.ins.length c)) 28)
  have hb := heap_alloc_new w (.cells (drvC d (.slice q d.ins.length c)) 28)
  unfold drvC at *
  clear hr h3 hat hw
  obtain ⟨xs, hxs⟩ : ∃ l, l = d.ins := ⟨_, rfl⟩
  obtain ⟨name, hnm⟩ : ∃ x, d.name = x := ⟨_, rfl⟩
  obtain ⟨tool, htl⟩ : ∃ x, d.tool = x := ⟨_, rfl⟩
  obtain ⟨da, hda⟩ : ∃ x, d.a = x := ⟨_, rfl⟩
  obtain ⟨db, hdb⟩ : ∃ x, d.b = x := ⟨_, rfl⟩
  obtain ⟨dc, hdc⟩ : ∃ x, d.c = x := ⟨_, rfl⟩
  unfold greatD weighD at Hr
  rw [hnm, htl, ← hxs] at Hr
  rw [← hxs] at h1 H3 Hat hwl Hwi
  rw [hnm, htl, hda, hdb, hdc, ← hxs] at hal hb ⊢
  rw [hnm] at hwn
  rw [htl] at hwt
  clear hnm htl hda hdb hdc hxs
  obtain ⟨len, hlen⟩ : ∃ l, l = xs.length := ⟨_, rfl⟩
  rw [← hlen] at h1 hwl hal hb Hr ⊢
  have Hlen := Lib.hid hlen
  clear hlen
  unfold maxLen at h2
  obtain ⟨nl, hnl⟩ : ∃ n, n = name.length := ⟨_, rfl⟩
  obtain ⟨tl, htl⟩ : ∃ n, n = tool.length := ⟨_, rfl⟩
  have hsn : (tx name).size = nl := by rw [tx_size, hnl]
  have hst : (tx tool).size = tl := by rw [tx_size, htl]
  rw [← hnl, ← htl] at Hr
  rw [← hnl] at hwn
  rw [← htl] at hwt
  obtain ⟨vb, hvb⟩ : ∃ b, b = w.heap.size := ⟨_, rfl⟩
  rw [← hvb] at hb
  have Hvb := Lib.hid hvb
  obtain ⟨w1, hw1⟩ : ∃ w1, w.alloc (.cells #[.string (tx name), .int .i64 da, .int .i64 db, .int .i64 dc, .string (tx tool), .slice q len c] 28) = w1 := ⟨_, rfl⟩
  rw [hw1] at hal hb
  have Hw1 := Lib.hid hw1
  have Hal := Lib.hid hal
  obtain ⟨f0, f1, f2, f3, f4, f5⟩ := var6 hb
  clear hal hb hvb hw1 hnl htl
  go_enter Tryd.func6, Tryd.ntmps6
  go_upto_region 1 with fail
  rw [Hw1.out, ← Hvb.out]
  go_wp2_with fail
  clear f0 f1 f2 f3 f4 f5 hsn hst
  obtain ⟨b0, hb0⟩ : ∃ n, n = nl + tl + len := ⟨_, rfl⟩
  have hbb : b0 ≤ 422212465053696 := by omega
  rw [← hb0] at Hr
  go_loopw [3, 21] (fun sv i wr => ∃ k m : Nat, k ≤ len ∧ m = b0 + sumI (xs.take k) ∧ (0 < k → m ≤ 16384) ∧ m ≤ 422212465053696 ∧ sv = .int .i64 m ∧ i = .int .i64 k ∧ Chg NoB w wr) (fun _ i _ => len - (intOf i).toNat)
  case atStart => exact ⟨0, b0, Nat.zero_le _, rfl, fun h => absurd h (Nat.lt_irrefl _), hbb, by go_num, rfl, Hal.out⟩
  case round =>
    obtain ⟨k, m, hk, hm, hmb, hmc, rfl, rfl, hch⟩ := hrel
    have Hm := Lib.hid hm
    have Hmb := Lib.hid hmb
    have Hch := Lib.hid hch
    clear hm hch hmb
    by_cases hlt : k < len
    · have hlt' : k < xs.length := by rw [← Hlen.out]; exact hlt
      obtain ⟨rfl, -⟩ := H3.out (by intro e; rw [e] at hlt'; simp at hlt')
      obtain ⟨c0, c1⟩ := Hat.out k hlt'
      have c0 := Hch.out.keep c0
      have c1 := Hch.out.keep c1
      obtain ⟨hx1, hx2⟩ := Hwi.out k hlt'
      have htk := sumI_take xs k hlt'
      have hsub := sumI_sub xs (k + 1)
      generalize xs[k] = x at *
      obtain ⟨x, y⟩ := x
      simp only at c0 c1 hx1 hx2 htk
      obtain ⟨xl, hxl⟩ : ∃ n, n = x.length := ⟨_, rfl⟩
      obtain ⟨yl, hyl⟩ : ∃ n, n = y.length := ⟨_, rfl⟩
      have hsx : (tx x).size = xl := by rw [tx_size, hxl]
      have hsy : (tx y).size = yl := by rw [tx_size, hyl]
      rw [← hxl, ← hyl] at htk
      rw [← hxl] at hx1
      rw [← hyl] at hx2
      have htk2 : m + (xl + yl) = b0 + sumI (xs.take (k + 1)) := by rw [htk, Hm.out]; omega
      have Htk := Lib.hid htk2
      have Hsub := Lib.hid hsub
      have hal := (Chg.refl NoB wr).alloc (.cells #[.string (tx x), .string (tx y)] 40)
      obtain ⟨g0, g1⟩ := var2 (heap_alloc_new wr (.cells #[.string (tx x), .string (tx y)] 40))
      have Hal2 := Lib.hid (Hch.out.trans hal)
      clear htk htk2 hsub hxl hyl hal
      by_cases hbig : 16384 < m + (xl + yl)
      · go_wp2_with fail
        go_ret
        refine ⟨congrArg (fun b => Ending.returned (Value.bool b)) ?_, Hal2.out⟩
        rw [Hr.out]
        exact (decide_eq_true (by have := Htk.out; have := Hsub.out; omega)).symm
      · go_wp2_with fail
        go_roundw
        case rel => exact ⟨k + 1, m + (xl + yl), by omega, Htk.out, fun _ => by omega, by omega, by go_num, by go_num, Hal2.out⟩
        case measure => simp [intOf]; omega
    · obtain rfl : k = len := by omega
      have hrf : r = decide (16384 < m) := by
        rw [Hr.out]
        have := Hm.out
        rw [Hlen.out, List.take_length] at this
        rw [this]
      have Hrf := Lib.hid hrf
      clear hrf
      go_wp2_with fail
      go_ret
      refine ⟨congrArg (fun b => Ending.returned (Value.bool b)) ?_, Hch.out⟩
      rw [Hrf.out]
      exact decide_eq_decide.2 (by omega)
def dA : DrvL := ⟨[97], 1, 0, 0, [97, 97, 97, 97, 97, 97, 97, 97, 97, 97, 97, 97, 97], []⟩
theorem dA_good : goodD dA = true := by
  refine (goodD_iff dA).2 ⟨by decide, by decide, ?_, by decide, fun i h => ?_, fun i h => ?_⟩
  · unfold keyB Mix.parseB
    have h : Mix.goodL dA.tool := ⟨by decide, by decide, by decide⟩
    simpa using h
  · simp [dA] at h
  · simp [dA] at h
theorem dA_enc : encD dA = (tx [40, 51, 58, 100, 114, 118, 49, 58, 97, 53, 58, 49, 46, 48, 46, 48, 49, 51, 58, 97, 97, 97, 97, 97, 97, 97, 97, 97, 97, 97, 97, 97, 40, 41, 41], 0) := by
  unfold encD
  rw [if_pos dA_good]
  kernel_rfl
theorem dA_wf : dA.wf := ⟨by decide, by decide, by decide, by decide, by decide, by decide, fun i hi => by simp [dA] at hi⟩
set_option maxHeartbeats 1000000 in
set_option maxRecDepth 20000 in
theorem alive_any (base : Nat) (w : World) (h : Lw base w) : Calls Tryd.prog 5 #[] w fun e w' => e = .returned (.bool true) ∧ Chg NoB w w' := by
  have henc := dencode_any dA dA_wf NoB _ base w h ⟨.slice none 0 0, 0, 0, rfl, InpS.nil _ _⟩
  rw [dA_enc] at henc
  have henc : Calls Tryd.prog 7 #[.agg #[.string ⟨#[97]⟩, .int .i64 1, .int .i64 0, .int .i64 0, .string ⟨#[97, 97, 97, 97, 97, 97, 97, 97, 97, 97, 97, 97, 97]⟩, .slice none 0 0]] w fun e w' => Chg NoB w w' ∧ e = .returned (.tuple #[.string ⟨#[40, 51, 58, 100, 114, 118, 49, 58, 97, 53, 58, 49, 46, 48, 46, 48, 49, 51, 58, 97, 97, 97, 97, 97, 97, 97, 97, 97, 97, 97, 97, 97, 40, 41, 41]⟩, .int .i64 0]) := henc
  have Henc := Lib.hid henc
  clear h henc
  go_enter Tryd.func5, Tryd.ntmps5
  go_wp2_with fail
  refine Henc.out.mono ?_
  rintro e w2 ⟨hc2, rfl⟩
  go_wp2_with fail
  go_ret
  exact ⟨rfl, hc2⟩
end Go.Proofs.YtnipiphhkcafhaaDoor
