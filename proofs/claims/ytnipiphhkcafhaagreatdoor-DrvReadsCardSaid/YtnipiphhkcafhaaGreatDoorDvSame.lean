/- The contract of the document's Same of builds. No condition. -/
import Derived.Test.YtnipiphhkcafhaaGreatDoorDvMem
import Derived.Test.YtnipiphhkcafhaaGreatDoorDvStep
import Derived.Deep.RegionHeld3
import Derived.DeepKeys
namespace Go.Proofs.YtnipiphhkcafhaaGreatDoor
set_option linter.unusedVariables false
open Go.ChangeShapes Go.WideShapes Go.ChangeAt Go.RowKit
theorem tx_beq (l m : List UInt8) : ((tx l).toList == (tx m).toList) = decide (l = m) := by
  rw [Lib.toList_data, Lib.toList_data, tx_list, tx_list]
  by_cases h : l = m
  · subst h; simp
  · simp [h]
theorem wf_i64 {n : Int} (h : -9223372036854775808 ≤ n ∧ n ≤ 9223372036854775807) : (Lit.int .i64 n).wf = true := by
  simp [Lit.wf, IntKind.min, IntKind.max, IntKind.signed, IntKind.bits]; omega
theorem ver_eq (a1 b1 c1 a2 b2 c2 : Int) (w : World) (w1 : (Lit.int .i64 a1).wf = true) (w2 : (Lit.int .i64 b1).wf = true) (w3 : (Lit.int .i64 c1).wf = true) (w4 : (Lit.int .i64 a2).wf = true) (w5 : (Lit.int .i64 b2).wf = true) (w6 : (Lit.int .i64 c2).wf = true) : ∃ r : Bool, Sem.run Tryz.prog (Op.equalIn 9999 24 (.agg #[.int .i64 a1, .int .i64 b1, .int .i64 c1]) (.agg #[.int .i64 a2, .int .i64 b2, .int .i64 c2])) w = .ok r w ∧ (r = true ↔ a1 = a2 ∧ b1 = b2 ∧ c1 = c2) := by
  have cv : Tryz.prog.cellsOf 24 = 3 := by kernel_rfl
  have ci : Tryz.prog.cellsOf 3 = 1 := by kernel_rfl
  obtain ⟨r, h1, h2⟩ := run_equalIn_deep (P := Tryz.prog) 9997 2 24 (by kernel_rfl) w 2 2 (.agg #[.int .i64 a1, .int .i64 b1, .int .i64 c1]) (.agg #[.int .i64 a2, .int .i64 b2, .int .i64 c2]) [.int .i64 a1, .int .i64 b1, .int .i64 c1] [.int .i64 a2, .int .i64 b2, .int .i64 c2] (by kernel_rfl) (by kernel_rfl) (by simp [Program.keyLits, Value.cells, Tryz.underlying24, Tryz.underlying3, cv, ci, w1, w2, w3, show List.range 3 = [0, 1, 2] from rfl]) (by simp [Program.keyLits, Value.cells, Tryz.underlying24, Tryz.underlying3, cv, ci, w4, w5, w6, show List.range 3 = [0, 1, 2] from rfl])
  exact ⟨r, h1, h2.trans (by simp)⟩
def SameD (a b : DrvL) (w : World) (e : Ending) (w' : World) : Prop := (∃ c : Bool, e = .returned (.bool c) ∧ (c = true ↔ a = b)) ∧ Chg NoB w w'
set_option maxHeartbeats 2000000 in
set_option maxRecDepth 20000 in
theorem dsame_any (a b : DrvL) (ha : a.wf) (hbw : b.wf) (S T : Nat → Prop) (v u : Value) (w : World) (hv : DrvV w S v a) (hu : DrvV w T u b) (hb : a.ins.length ≤ 131072) :
    Calls Tryz.prog 7 #[v, u] w (SameD a b w) := by
  obtain ⟨s, kb, ko, rfl, hs⟩ := hv
  obtain ⟨s', jb, jo, rfl, ht⟩ := hu
  obtain ⟨n1, a1, b1, c1, t1, ps⟩ := a
  obtain ⟨n2, a2, b2, c2, t2, qs⟩ := b
  unfold drvC
  simp only at hs ht hb ⊢
  obtain ⟨⟨q, c, rfl, h1, h2, h3⟩, hat⟩ := hs
  obtain ⟨⟨q', c', rfl, h1', h2', h3'⟩, hat'⟩ := ht
  obtain ⟨len, hlen⟩ : ∃ len, len = ps.length := ⟨_, rfl⟩
  obtain ⟨len', hlen'⟩ : ∃ len, len = qs.length := ⟨_, rfl⟩
  rw [← hlen] at h1 hb ⊢
  rw [← hlen'] at h1' ⊢
  have H3 := Lib.hid h3
  have Hat := Lib.hid hat
  have Hlen := Lib.hid hlen
  have H3' := Lib.hid h3'
  have Hat' := Lib.hid hat'
  have Hlen' := Lib.hid hlen'
  unfold maxLen at h2 h2'
  clear h3 hat hlen h3' hat' hlen'
  have hal := (Chg.refl NoB w).alloc (.cells #[.string (tx n1), .int .i64 a1, .int .i64 b1, .int .i64 c1, .string (tx t1), .slice q len c] 29)
  have hb1 := heap_alloc_new w (.cells #[.string (tx n1), .int .i64 a1, .int .i64 b1, .int .i64 c1, .string (tx t1), .slice q len c] 29)
  obtain ⟨vb, hvb⟩ : ∃ b, b = w.heap.size := ⟨_, rfl⟩
  obtain ⟨w1, hw1⟩ : ∃ w1, w.alloc (.cells #[.string (tx n1), .int .i64 a1, .int .i64 b1, .int .i64 c1, .string (tx t1), .slice q len c] 29) = w1 := ⟨_, rfl⟩
  rw [hw1] at hal hb1
  rw [← hvb] at hb1
  have hs1 : w1.heap.size = vb + 1 := by rw [← hw1, hvb]; exact alloc_size _ _
  have hal2 := (Chg.refl NoB w1).alloc (.cells #[.string (tx n2), .int .i64 a2, .int .i64 b2, .int .i64 c2, .string (tx t2), .slice q' len' c'] 29)
  have hb2 := heap_alloc_new w1 (.cells #[.string (tx n2), .int .i64 a2, .int .i64 b2, .int .i64 c2, .string (tx t2), .slice q' len' c'] 29)
  obtain ⟨w2, hw2⟩ : ∃ w2, w1.alloc (.cells #[.string (tx n2), .int .i64 a2, .int .i64 b2, .int .i64 c2, .string (tx t2), .slice q' len' c'] 29) = w2 := ⟨_, rfl⟩
  obtain ⟨ub, hub⟩ : ∃ b, b = vb + 1 := ⟨_, rfl⟩
  rw [hw2] at hal2 hb2
  rw [hs1, ← hub] at hb2
  have Hw1 := Lib.hid hw1
  have Hw2 := Lib.hid hw2
  have Hvb := Lib.hid hvb
  have Hub := Lib.hid hub
  have Hc2 := Lib.hid (hal.trans hal2)
  have Hv2 := Lib.hid (row_kept hal2 hb1 id)
  have Hu2 := Lib.hid hb2
  clear hw1 hw2 hvb hub hal hal2 hb1 hb2 hs1
  go_enter Tryz.func7, Tryz.ntmps7
  go_upto_region 1 with fail
  rw [Hw1.out, Hw2.out, ← Hvb.out, ← Hub.out]
  obtain ⟨f0, f1, f2, f3, f4, f5⟩ := var6 Hv2.out
  obtain ⟨g0, g1, g2, g3, g4, g5⟩ := var6 Hu2.out
  have hsn := tx_beq n1 n2
  have hst := tx_beq t1 t2
  obtain ⟨e1, he1⟩ : ∃ b, b = decide (n1 = n2) := ⟨_, rfl⟩
  obtain ⟨e2, he2, hE2⟩ := ver_eq a1 b1 c1 a2 b2 c2 w2 (wf_i64 ha.a) (wf_i64 ha.b) (wf_i64 ha.c) (wf_i64 hbw.a) (wf_i64 hbw.b) (wf_i64 hbw.c)
  obtain ⟨e5, he5⟩ : ∃ b, b = decide (t1 = t2) := ⟨_, rfl⟩
  rw [← he1] at hsn
  rw [← he5] at hst
  have E1 := Lib.hid he1
  have E2 := Lib.hid hE2
  have E5 := Lib.hid he5
  clear he1 he5 hE2 ha hbw
  cases e1
  · have Hx : Hid ((⟨n1, a1, b1, c1, t1, ps⟩ : DrvL) ≠ ⟨n2, a2, b2, c2, t2, qs⟩) := Lib.hid fun h => by
      rw [DrvL.mk.injEq] at h
      have := E1.out
      rw [h.1] at this
      simp at this
    clear E1 E2 E5
    go_wp2_with fail
    go_ret
    exact ⟨⟨false, rfl, by simp only [Bool.false_eq_true, false_iff]; exact Hx.out⟩, Hc2.out⟩
  cases e2
  · have Hx : Hid ((⟨n1, a1, b1, c1, t1, ps⟩ : DrvL) ≠ ⟨n2, a2, b2, c2, t2, qs⟩) := Lib.hid fun h => by
      rw [DrvL.mk.injEq] at h
      have := E2.out.2 ⟨h.2.1, h.2.2.1, h.2.2.2.1⟩
      cases this
    clear E1 E2 E5
    go_wp2_with fail
    go_ret
    exact ⟨⟨false, rfl, by simp only [Bool.false_eq_true, false_iff]; exact Hx.out⟩, Hc2.out⟩
  cases e5
  · have Hx : Hid ((⟨n1, a1, b1, c1, t1, ps⟩ : DrvL) ≠ ⟨n2, a2, b2, c2, t2, qs⟩) := Lib.hid fun h => by
      rw [DrvL.mk.injEq] at h
      have := E5.out
      rw [h.2.2.2.2.1] at this
      simp at this
    clear E1 E2 E5
    go_wp2_with fail
    go_ret
    exact ⟨⟨false, rfl, by simp only [Bool.false_eq_true, false_iff]; exact Hx.out⟩, Hc2.out⟩
  have hn : n1 = n2 := of_decide_eq_true E1.out.symm
  obtain ⟨ha, hb', hc'⟩ := E2.out.1 rfl
  have ht' : t1 = t2 := of_decide_eq_true E5.out.symm
  have Heqs : Hid (ps = qs → (⟨n1, a1, b1, c1, t1, ps⟩ : DrvL) = ⟨n2, a2, b2, c2, t2, qs⟩) := Lib.hid fun h => by rw [hn, ha, hb', hc', ht', h]
  clear hn ha hb' hc' ht' E1 E2 E5
  by_cases hll : (len : Int) = (len' : Int)
  · have hll' : len = len' := by omega
    subst hll'
    clear hll
    go_wp2_with fail
    clear hsn hst he2 f0 f1 f2 f3 f4 f5 g0 g1 g2 g3 g4 g5
    go_loopw [5, 30] (fun _ i wr => ∃ k : Nat, k ≤ len ∧ i = .int .i64 k ∧ (∀ j (hj : j < ps.length) (hj' : j < qs.length), j < k → ps[j] = qs[j]) ∧ Chg NoB w2 wr) (fun _ i _ => len - (intOf i).toNat)
    case atStart => exact ⟨0, Nat.zero_le _, rfl, fun j _ _ hj => absurd hj (Nat.not_lt_zero _), Chg.refl _ _⟩
    case round =>
      obtain ⟨k, hk, rfl, hno, hch⟩ := hrel
      have Hno := Lib.hid hno
      have Hch := Lib.hid hch
      have Hcw := Lib.hid (Hc2.out.trans hch)
      clear hno hch
      by_cases hlt : k < len
      · have hp : k < ps.length := by rw [← Hlen.out]; exact hlt
        have hq : k < qs.length := by rw [← Hlen'.out]; exact hlt
        obtain ⟨rfl, -⟩ := H3.out (by rintro rfl; simp at hp)
        obtain ⟨rfl, -⟩ := H3'.out (by rintro rfl; simp at hq)
        obtain ⟨c0, c1'⟩ := Hat.out k hp
        obtain ⟨d0, d1⟩ := Hat'.out k hq
        have c0 := Hcw.out.keep c0
        have c1' := Hcw.out.keep c1'
        have d0 := Hcw.out.keep d0
        have d1 := Hcw.out.keep d1
        have f5 := (var6 (row_kept Hch.out Hv2.out id)).2.2.2.2.2
        have g5 := (var6 (row_kept Hch.out Hu2.out id)).2.2.2.2.2
        have Hgo : Hid (ps[k] = qs[k] → ∀ j (hj : j < ps.length) (hj' : j < qs.length), j < k + 1 → ps[j] = qs[j]) := Lib.hid fun h j hj hj' hjk => by
          by_cases e : j = k
          · subst e; exact h
          · exact Hno.out j hj hj' (by omega)
        have Hne : Hid (ps[k] ≠ qs[k] → ps ≠ qs) := Lib.hid fun h e => by subst e; exact h rfl
        generalize ps[k] = x at *
        generalize qs[k] = y at *
        have hA := And.intro c0 (And.intro c1' (And.intro d0 (And.intro d1 (And.intro f5 g5))))
        have hsb1 := tx_beq x.1 y.1
        have hsb2 := tx_beq x.2 y.2
        have hxy : x = y ↔ decide (x.1 = y.1) = true ∧ decide (x.2 = y.2) = true := by
          obtain ⟨s1, s2⟩ := x
          obtain ⟨u1, u2⟩ := y
          simp
        have Hxy := Lib.hid hxy
        obtain ⟨z1, hz1⟩ : ∃ b, b = decide (x.1 = y.1) := ⟨_, rfl⟩
        obtain ⟨z2, hz2⟩ : ∃ b, b = decide (x.2 = y.2) := ⟨_, rfl⟩
        rw [← hz1] at hsb1
        rw [← hz2] at hsb2
        rw [← hz1, ← hz2] at Hxy
        clear hxy hz1 hz2
        go_upto_region 6 with fail
        clear c0 c1' d0 d1 f5 g5
        cases z1 <;> cases z2
        all_goals
          go_region_held3 (fun w' => w'.cell? ⟨kb, ko + k * 2, none⟩ = some (.string (tx x.1)) ∧ w'.cell? ⟨kb, ko + k * 2 + 1, none⟩ = some (.string (tx x.2)) ∧ w'.cell? ⟨jb, jo + k * 2, none⟩ = some (.string (tx y.1)) ∧ w'.cell? ⟨jb, jo + k * 2 + 1, none⟩ = some (.string (tx y.2)) ∧ w'.cell? ⟨vb, 5, none⟩ = some (.slice (some ⟨kb, ko, none⟩) len c) ∧ w'.cell? ⟨ub, 5, none⟩ = some (.slice (some ⟨jb, jo, none⟩) len c'))
            (exact hA)
            (fail)
        all_goals
          first
            | (have Heq := Lib.hid (Hgo.out (Hxy.out.2 ⟨rfl, rfl⟩))
               clear Hgo Hne Hxy
               go_wp2_with fail
               go_roundw
               case rel => exact ⟨k + 1, by omega, by go_num, Heq.out, Hch.out.drew⟩
               case measure => simp [intOf]; omega)
            | (have hn1 : x ≠ y := fun e => by have := Hxy.out.1 e; simp at this
               have Hpq := Lib.hid (Hne.out hn1)
               clear hn1 Hgo Hne Hxy
               go_wp2_with fail
               go_ret
               refine ⟨⟨false, rfl, ?_⟩, Hcw.out.drew⟩
               simp only [Bool.false_eq_true, DrvL.mk.injEq, false_iff]
               exact fun h => Hpq.out h.2.2.2.2.2)
      · obtain rfl : k = len := by omega
        have heq : ps = qs := List.ext_getElem (by rw [← Hlen.out, Hlen'.out]) fun j hj hj' => Hno.out j hj hj' (by rw [Hlen.out]; exact hj)
        have Heq := Lib.hid (Heqs.out heq)
        clear heq
        go_wp2_with fail
        go_ret
        exact ⟨⟨true, rfl, fun _ => Heq.out, fun _ => rfl⟩, Hcw.out⟩
  · have hne : ((len : Int) != (len' : Int)) = true := by rw [bne_iff_ne]; exact hll
    have Hpq : Hid (ps ≠ qs) := Lib.hid fun e => hll (by rw [Hlen.out, Hlen'.out, e])
    clear hll
    go_wp2_with fail
    go_ret
    refine ⟨⟨false, rfl, ?_⟩, Hc2.out⟩
    simp only [Bool.false_eq_true, DrvL.mk.injEq, false_iff]
    exact fun h => Hpq.out h.2.2.2.2.2
end Go.Proofs.YtnipiphhkcafhaaGreatDoor
