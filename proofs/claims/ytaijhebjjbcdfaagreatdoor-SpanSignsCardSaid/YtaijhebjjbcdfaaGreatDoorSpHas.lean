/- The contract of Has. Condition: a part of the version is an int. -/
import Derived.Test.YtaijhebjjbcdfaaGreatDoorSpSort
import Derived.Test.YtaijhebjjbcdfaaGreatDoorSpGood
import Derived.Test.YtaijhebjjbcdfaaGreatDoorVerWalkA

namespace Go.Proofs.YtaijhebjjbcdfaaGreatDoor
set_option linter.unusedVariables false
open Go.ChangeShapes Go.WideShapes Go.ChangeAt Go.RowKit Go.Sort
theorem indexNone (q : Option Addr) (c : Nat) (fv : Value) (w : World) : Calls Tryz.prog 52 #[.slice q 0 c, fv] w fun e w' => e = .returned (.int .i64 (-1)) ∧ w' = w := by
  go_enter Tryz.func52, Tryz.ntmps52
  go_wp2
  refine wp_loop_rounds 1 ?_
  rw [rounds_succ]
  go_wp2
  go_ret
  exact ⟨rfl, rfl⟩
theorem containsNone (q : Option Addr) (c : Nat) (fv : Value) (w : World) : Calls Tryz.prog 35 #[.slice q 0 c, fv] w fun e w' => e = .returned (.bool false) ∧ w' = w := by
  have hi := fun W => indexNone q c fv W
  go_enter Tryz.func35, Tryz.ntmps35
  go_wp2_with fail
  refine (hi _).mono ?_
  rintro e w' ⟨rfl, rfl⟩
  go_wp2_with fail
  go_ret
  exact ⟨rfl, rfl⟩
theorem has1_any (g : GapL) (n : Int) (nb : Nat) (w : World) (hd : w.cell? ⟨nb, 0, none⟩ = some (.int .i64 n)) : Calls Tryz.prog 36 #[.agg #[.int .i64 g.1, .int .i64 g.2], .pointer (some ⟨nb, 0, none⟩)] w fun e w' => e = .returned (.bool (inOne g n)) ∧ Chg NoB w w' := by
  obtain ⟨g1, g2⟩ := g
  unfold inOne
  simp only
  have hal := (Chg.refl NoB w).alloc (.cells #[.int .i64 g1, .int .i64 g2] 37)
  obtain ⟨f0, f1⟩ := var2 (heap_alloc_new w (.cells #[.int .i64 g1, .int .i64 g2] 37))
  have hd2 := hal.keep hd
  have Hal := Lib.hid hal
  clear hal hd
  by_cases e1 : g1 ≤ n
  · have f2 := decide_eq_true e1
    by_cases e2 : n < g2
    · have f3 := decide_eq_true e2
      rw [decide_eq_true (show g1 ≤ n ∧ n < g2 from ⟨e1, e2⟩)]
      clear e1 e2
      go_enter Tryz.func36, Tryz.ntmps36
      go_wp2_with fail
      go_ret
      exact ⟨rfl, Hal.out⟩
    · have f3 := decide_eq_false e2
      rw [decide_eq_false (show ¬ (g1 ≤ n ∧ n < g2) from fun h => e2 h.2)]
      clear e1 e2
      go_enter Tryz.func36, Tryz.ntmps36
      go_wp2_with fail
      go_ret
      exact ⟨rfl, Hal.out⟩
  · have f2 := decide_eq_false e1
    rw [decide_eq_false (show ¬ (g1 ≤ n ∧ n < g2) from fun h => e1 h.1)]
    clear e1
    go_enter Tryz.func36, Tryz.ntmps36
    go_wp2_with fail
    go_ret
    exact ⟨rfl, Hal.out⟩
theorem contains_any (l : List GapL) (n : Int) (nb : Nat) (S : Nat → Prop) (v : Value) (kb ko : Nat) (w : World) (hs : GapS w S v l kb ko) (hd : w.cell? ⟨nb, 0, none⟩ = some (.int .i64 n)) :
    Calls Tryz.prog 35 #[v, .func (.func 36) #[] #[.pointer (some ⟨nb, 0, none⟩)]] w fun e w' => e = .returned (.bool (inG l n)) ∧ Chg NoB w w' := by
  obtain ⟨⟨q, c, rfl, h1, h2, h3⟩, hat, -⟩ := hs
  unfold maxLen at h2
  by_cases hn : l = []
  · subst hn
    refine (containsNone q c _ w).mono ?_
    rintro e w' ⟨rfl, rfl⟩
    exact ⟨rfl, Chg.refl _ _⟩
  · obtain ⟨rfl, -⟩ := h3 hn
    have hpos : 0 < l.length := List.length_pos_iff.2 hn
    have hkb : kb < w.heap.size := World.block_lt_of_cell? w _ (hat 0 hpos).1
    have h := Tryz.slices_ContainsFunc 2 isAggF sizeF encG encG_len (fun x => inOne x n) 36 #[.pointer (some ⟨nb, 0, none⟩)] (enters_of Tryz.func36 (by kernel_rfl) rfl) kb ko l.length c l w
      (fun W x hb => (has1_any x n nb W ((chg_of_below hb).keep hd)).mono fun e w' h => ⟨h.1, Below.trans hb (Below.mono h.2.below hb.size)⟩) (by omega) (by omega) hkb (fun j hj i u hu => by
        rw [getElem!_pos l j hj] at hu
        unfold encG at hu
        obtain ⟨c0, c1⟩ := hat j hj
        match i, hu with
        | 0, hu => cases hu; simpa using c0
        | 1, hu => cases hu; exact c1)
    refine h.mono ?_
    rintro e w' ⟨rfl, hb⟩
    refine ⟨?_, chg_of_below hb⟩
    rw [List.take_of_length_le (by omega)]
    rfl
set_option maxHeartbeats 4000000 in
set_option maxRecDepth 20000 in
theorem has_any (l : List GapL) (a b c : Int) (S : Nat → Prop) (v : Value) (kb ko : Nat) (w : World) (hs : GapS w S v l kb ko) : Calls Tryz.prog 14 #[v, .agg #[.int .i64 a, .int .i64 b, .int .i64 c]] w fun e w' => e = .returned (.bool (decide (0 ≤ Ver.numI a b c) && inG l (Ver.numI a b c))) ∧ Chg NoB w w' := by
  have hal_ := (Chg.refl NoB w).alloc (.cells #[.int .i64 a, .int .i64 b, .int .i64 c] 31)
  have hb_ := heap_alloc_new w (.cells #[.int .i64 a, .int .i64 b, .int .i64 c] 31)
  obtain ⟨vb, hxb_⟩ : ∃ b, b = w.heap.size := ⟨_, rfl⟩
  obtain ⟨w1, hw_⟩ : ∃ w_, w.alloc (.cells #[.int .i64 a, .int .i64 b, .int .i64 c] 31) = w_ := ⟨_, rfl⟩
  have hz_ : w1.heap.size = vb + 1 := by rw [← hw_, hxb_]; exact alloc_size _ _
  rw [hw_] at hal_ hb_
  rw [← hxb_] at hb_
  have Hw1 := Lib.hid hw_
  have Hx1 := Lib.hid hxb_
  have Ha1 := Lib.hid hal_
  have Hb1 := Lib.hid hb_
  have Hz1 := Lib.hid hz_
  clear hal_ hb_ hxb_ hw_ hz_
  have HN := Lib.hid (Ver.number_any a b c w1)
  generalize Ver.numI a b c = n at *
  obtain ⟨r, hr⟩ : ∃ r, r = (decide (0 ≤ n) && inG l n) := ⟨_, rfl⟩
  rw [← hr]
  have Hr := Lib.hid hr
  clear hr
  have HS := Lib.hid hs
  obtain ⟨⟨q, cc, rfl, -, -, -⟩, -, -⟩ := hs
  have Hd := Lib.hid (var3 Hb1.out)
  obtain ⟨d0, d1, d2⟩ := Hd.out
  go_enter Tryz.func14, Tryz.ntmps14
  go_upto_region 1 with fail
  rw [Hw1.out, ← Hx1.out]
  go_wp2_with fail
  refine HN.out.mono ?_
  rintro e w2 ⟨rfl, hb2⟩
  have Hc2 := Lib.hid (Ha1.out.trans (chg_of_below hb2))
  clear HN hb2 d0 d1 d2
  have hal_ := (Chg.refl NoB w2).alloc (.cells #[.int .i64 n] 3)
  have hb_ := heap_alloc_new w2 (.cells #[.int .i64 n] 3)
  obtain ⟨nb, hxb_⟩ : ∃ b, b = w2.heap.size := ⟨_, rfl⟩
  obtain ⟨w3, hw_⟩ : ∃ w_, w2.alloc (.cells #[.int .i64 n] 3) = w_ := ⟨_, rfl⟩
  have hz_ : w3.heap.size = nb + 1 := by rw [← hw_, hxb_]; exact alloc_size _ _
  rw [hw_] at hal_ hb_
  rw [← hxb_] at hb_
  have Hw3 := Lib.hid hw_
  have Hx3 := Lib.hid hxb_
  have Ha3 := Lib.hid hal_
  have Hb3 := Lib.hid hb_
  have Hz3 := Lib.hid hz_
  clear hal_ hb_ hxb_ hw_ hz_
  have Hc3 := Lib.hid (Hc2.out.trans Ha3.out)
  have hd := var1 Hb3.out
  have HC := Lib.hid (contains_any l n nb S _ kb ko w3 (HS.out.keep Hc3.out (fun _ _ => id)) hd)
  go_upto_region 2 with fail
  rw [Hw3.out, ← Hx3.out]
  by_cases e1 : 0 ≤ n
  · have He := Lib.hid (show inG l n = r by rw [Hr.out, decide_eq_true e1, Bool.true_and])
    go_wp2_with fail
    refine HC.out.mono ?_
    rintro e w4 ⟨rfl, hc4⟩
    have Hc4 := Lib.hid (Hc3.out.trans hc4)
    clear hc4
    go_wp2_with fail
    go_ret
    exact ⟨retB He.out, Hc4.out⟩
  · have He := Lib.hid (show false = r by rw [Hr.out, decide_eq_false e1, Bool.false_and])
    go_wp2_with fail
    go_ret
    exact ⟨retB He.out, Hc3.out⟩
end Go.Proofs.YtaijhebjjbcdfaaGreatDoor
