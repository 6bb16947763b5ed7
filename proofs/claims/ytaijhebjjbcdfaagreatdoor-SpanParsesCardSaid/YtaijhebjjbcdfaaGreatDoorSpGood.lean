/- The contracts of Good, common and few. No condition. -/
import Derived.Test.YtaijhebjjbcdfaaGreatDoorSpMem

namespace Go.Proofs.YtaijhebjjbcdfaaGreatDoor
set_option linter.unusedVariables false
open Go.ChangeShapes Go.WideShapes Go.ChangeAt Go.RowKit
theorem chain_pre : ∀ {x y : List GapL} {a : Int}, chainG a (x ++ y) = true → chainG a x = true
  | [], y, a, _ => rfl
  | g :: r, y, a, h => by
    rw [List.cons_append, chain_cons] at h
    exact chain_cons.2 ⟨h.1, chain_pre h.2⟩
theorem Chg.transR {S S' : Nat → Prop} {a b c : World} (h : Chg S a b) (g : Chg S' b c) (hS : ∀ k, k < a.heap.size → S' k → S k) : Chg S a c :=
  ⟨g.os.trans h.os, g.tape.trans h.tape, g.output.trans h.output, Nat.le_trans h.size g.size, fun k hk hs => (g.block k (Nat.lt_of_lt_of_le hk h.size) fun s => hs (hS k hk s)).trans (h.block k hk hs)⟩
def endG (l : List GapL) : Int := match l.getLast? with | some h => h.2 | none => -1
theorem end_take {l : List GapL} {k : Nat} (h : k < l.length) : endG (l.take (k + 1)) = l[k].2 := by
  unfold endG
  rw [take_at h, List.getLast?_concat]
theorem chain_take {l : List GapL} {k : Nat} (h : k < l.length) : chainG (-1) (l.take (k + 1)) = true ↔ chainG (-1) (l.take k) = true ∧ endG (l.take k) < l[k].1 ∧ l[k].1 < l[k].2 ∧ l[k].2 ≤ allG := by
  rw [take_at h, chain_app]
  show _ ∧ chainG (endG (l.take k)) [l[k]] = true ↔ _
  rw [chain_cons]
  exact ⟨fun ⟨a, b, c⟩ => ⟨a, b⟩, fun ⟨a, b⟩ => ⟨a, b, rfl⟩⟩
theorem chain_bad {l : List GapL} {k : Nat} (h : k < l.length) (hb : ¬ (endG (l.take k) < l[k].1 ∧ l[k].1 < l[k].2 ∧ l[k].2 ≤ allG)) : goodG l = false := by
  cases hg : goodG l with
  | false => rfl
  | true =>
    unfold goodG at hg
    rw [Bool.and_eq_true] at hg
    have h2 : chainG (-1) (l.take (k + 1) ++ l.drop (k + 1)) = true := by rw [List.take_append_drop]; exact hg.2
    exact absurd ((chain_take h).1 (chain_pre h2)).2 hb
set_option maxHeartbeats 1000000 in
set_option maxRecDepth 20000 in
theorem good_any (l : List GapL) (S : Nat → Prop) (v : Value) (kb ko : Nat) (w : World) (hs : GapS w S v l kb ko) : Calls Tryz.prog 12 #[v] w fun e w' => e = .returned (.bool (goodG l)) ∧ Chg NoB w w' := by
  obtain ⟨⟨q, c, rfl, h1, h2, h3⟩, hat, -⟩ := hs
  obtain ⟨n, hn⟩ : ∃ n, n = l.length := ⟨_, rfl⟩
  rw [← hn] at h1 ⊢
  have H3 := Lib.hid h3
  have Hat := Lib.hid hat
  have Hn := Lib.hid hn
  obtain ⟨r, hr⟩ : ∃ r, r = goodG l := ⟨_, rfl⟩
  rw [← hr]
  have Hr := Lib.hid hr
  unfold maxLen at h2
  clear h3 hat hn hr
  go_enter Tryz.func12, Tryz.ntmps12
  by_cases hbig : 16 < n
  · go_wp2_with fail
    go_ret
    refine ⟨retB ?_, Chg.refl _ _⟩
    rw [Hr.out]
    unfold goodG
    rw [decide_eq_false (by rw [← Hn.out]; omega)]
    rfl
  · go_wp2_with fail
    go_loopw [3, 11] (fun a i wr => ∃ (k : Nat) (x : Int), k ≤ n ∧ i = .int .i64 k ∧ a = .int .i64 x ∧ x = endG (l.take k) ∧ chainG (-1) (l.take k) = true ∧ Chg NoB w wr) (fun _ i _ => n - (intOf i).toNat)
    case atStart => exact ⟨0, -1, Nat.zero_le _, rfl, rfl, rfl, rfl, Chg.refl _ _⟩
    case round =>
      obtain ⟨k, x, hk, rfl, rfl, hx, hcg, hch⟩ := hrel
      have Hcg := Lib.hid hcg
      have Hch := Lib.hid hch
      have Hx := Lib.hid hx
      clear hcg hch hx
      by_cases hlt : k < n
      · have hlt' : k < l.length := by rw [← Hn.out]; exact hlt
        obtain ⟨rfl, -⟩ := H3.out (by intro e; rw [e] at hlt'; simp at hlt')
        obtain ⟨c0, c1⟩ := Hat.out k hlt'
        have c0 := Hch.out.keep c0
        have c1 := Hch.out.keep c1
        have Hbad := Lib.hid (fun h => chain_bad hlt' h)
        have Htk := Lib.hid (chain_take hlt')
        have Hen := Lib.hid (end_take hlt')
        rw [← Hx.out] at Hbad Htk
        generalize l[k] = g at *
        obtain ⟨x1, x2⟩ := g
        simp only at c0 c1
        have hal := (Chg.refl NoB wr).alloc (.cells #[.int .i64 x1, .int .i64 x2] 37)
        obtain ⟨d0, d1⟩ := var2 (heap_alloc_new wr (.cells #[.int .i64 x1, .int .i64 x2] 37))
        have Hal := Lib.hid (Hch.out.trans hal)
        clear hal hlt'
        by_cases e1 : x1 ≤ x
        · have f1 := decide_eq_true e1
          go_wp2_with fail
          go_ret
          exact ⟨retB (by rw [Hr.out]; exact (Hbad.out (fun h => by have := h.1; omega)).symm), Hal.out⟩
        have f1 := decide_eq_false e1
        by_cases e2 : x2 ≤ x1
        · have f2 := decide_eq_true e2
          go_wp2_with fail
          go_ret
          exact ⟨retB (by rw [Hr.out]; exact (Hbad.out (fun h => by have := h.2.1; omega)).symm), Hal.out⟩
        have f2 := decide_eq_false e2
        by_cases e3 : 1000000000 < x2
        · have f3 := decide_eq_true e3
          go_wp2_with fail
          go_ret
          exact ⟨retB (by rw [Hr.out]; exact (Hbad.out (fun h => by have := h.2.2; unfold allG at this; omega)).symm), Hal.out⟩
        have f3 := decide_eq_false e3
        have Hok := Lib.hid (Htk.out.2 ⟨Hcg.out, by show x < x1; omega, by show x1 < x2; omega, by show x2 ≤ 1000000000; omega⟩)
        clear e1 e2 e3
        go_wp2_with fail
        go_roundw
        case rel => exact ⟨k + 1, x2, by omega, by go_num, rfl, Hen.out.symm, Hok.out, Hal.out⟩
        case measure => simp [intOf]; omega
      · obtain rfl : k = n := by omega
        go_wp2_with fail
        go_ret
        refine ⟨retB ?_, Hch.out⟩
        have h := Hcg.out
        rw [Hn.out, List.take_length] at h
        rw [Hr.out]
        unfold goodG
        rw [h, decide_eq_true (by rw [← Hn.out]; omega)]
        rfl
theorem results_cell1 {fn : Func} {p : Tmp} {ty : TypeId} (h : fn.results = #[.cell p ty]) (tmps : Array Value) {P : Program} {w : World} {a : Addr} {v : Value} (hp : tmps.getD p undef = .pointer (some a)) (hl : (loadVar ty a).run P w = .ok v w) : (results fn tmps).run P w = .ok v w := by
  rw [Array.getD_eq_getD_getElem?] at hp
  simp only [results, h]
  simp [hp, asAddr, hl]
set_option maxHeartbeats 1000000 in
set_option maxRecDepth 20000 in
theorem common_any (g h : GapL) (w : World) : Calls Tryz.prog 39 #[.agg (encG g).toArray, .agg (encG h).toArray] w fun e w' => e = .returned (.agg (encG (commonG g h)).toArray) ∧ Chg NoB w w' := by
  obtain ⟨g1, g2⟩ := g
  obtain ⟨h1, h2⟩ := h
  unfold encG commonG
  show Calls _ _ #[.agg #[.int .i64 g1, .int .i64 g2], .agg #[.int .i64 h1, .int .i64 h2]] w fun e w' => e = .returned (.agg #[.int .i64 (max g1 h1), .int .i64 (min g2 h2)]) ∧ Chg NoB w w'
  have hal_ := (Chg.refl NoB w).alloc (.cells #[.int .i64 g1, .int .i64 g2] 37)
  have hb_ := heap_alloc_new w (.cells #[.int .i64 g1, .int .i64 g2] 37)
  obtain ⟨b1, hxb_⟩ : ∃ b, b = w.heap.size := ⟨_, rfl⟩
  obtain ⟨w1, hw_⟩ : ∃ w_, w.alloc (.cells #[.int .i64 g1, .int .i64 g2] 37) = w_ := ⟨_, rfl⟩
  have hz_ : w1.heap.size = b1 + 1 := by rw [← hw_, hxb_]; exact alloc_size _ _
  rw [hw_] at hal_ hb_
  rw [← hxb_] at hb_
  have Hw1 := Lib.hid hw_
  have Hx1 := Lib.hid hxb_
  have Ha1 := Lib.hid hal_
  have Hb1 := Lib.hid hb_
  have Hz1 := Lib.hid hz_
  clear hal_ hb_ hxb_ hw_ hz_
  have hal_ := (Chg.refl NoB w1).alloc (.cells #[.int .i64 h1, .int .i64 h2] 37)
  have hb_ := heap_alloc_new w1 (.cells #[.int .i64 h1, .int .i64 h2] 37)
  obtain ⟨b2, hxb_⟩ : ∃ b, b = w1.heap.size := ⟨_, rfl⟩
  obtain ⟨w2, hw_⟩ : ∃ w_, w1.alloc (.cells #[.int .i64 h1, .int .i64 h2] 37) = w_ := ⟨_, rfl⟩
  have hz_ : w2.heap.size = b2 + 1 := by rw [← hw_, hxb_]; exact alloc_size _ _
  rw [hw_] at hal_ hb_
  rw [← hxb_] at hb_
  have Hw2 := Lib.hid hw_
  have Hx2 := Lib.hid hxb_
  have Ha2 := Lib.hid hal_
  have Hb2 := Lib.hid hb_
  have Hz2 := Lib.hid hz_
  clear hal_ hb_ hxb_ hw_ hz_
  have hal_ := (Chg.refl NoB w2).alloc (.cells #[.int .i64 0, .int .i64 0] 37)
  have hb_ := heap_alloc_new w2 (.cells #[.int .i64 0, .int .i64 0] 37)
  obtain ⟨b3, hxb_⟩ : ∃ b, b = w2.heap.size := ⟨_, rfl⟩
  obtain ⟨w3, hw_⟩ : ∃ w_, w2.alloc (.cells #[.int .i64 0, .int .i64 0] 37) = w_ := ⟨_, rfl⟩
  have hz_ : w3.heap.size = b3 + 1 := by rw [← hw_, hxb_]; exact alloc_size _ _
  rw [hw_] at hal_ hb_
  rw [← hxb_] at hb_
  have Hw3 := Lib.hid hw_
  have Hx3 := Lib.hid hxb_
  have Ha3 := Lib.hid hal_
  have Hb3 := Lib.hid hb_
  have Hz3 := Lib.hid hz_
  clear hal_ hb_ hxb_ hw_ hz_
  obtain ⟨p0, p1⟩ := var2 (row_kept (Ha2.out.trans Ha3.out) Hb1.out id)
  obtain ⟨q0, q1⟩ := var2 (row_kept Ha3.out Hb2.out id)
  obtain ⟨r0, r1⟩ := var2 Hb3.out
  have fr := row_free Hb3.out
  have HC := Lib.hid (show Chg NoB w w3 from Ha1.out.trans (Ha2.out.trans Ha3.out))
  have Hb := Lib.hid (show w.heap.size ≤ b3 by have := Hx1.out; have := Hx2.out; have := Hx3.out; have := Hz1.out; have := Hz2.out; omega)
  by_cases e1 : g1 < h1
  · have m1 : max g1 h1 = h1 := by omega
    rw [m1]
    clear m1
    by_cases e2 : g2 ≤ h2
    · have m2 : min g2 h2 = g2 := by omega
      rw [m2]
      clear m2
      go_enter Tryz.func39, Tryz.ntmps39
      go_upto_region 1 with fail
      rw [Hw1.out, ← Hx1.out]
      rw [Hw2.out, ← Hz1.out, ← Hx2.out]
      rw [Hw3.out, ← Hz2.out, ← Hx3.out]
      go_wp2_with fail
      have hR := heap_set (heap_set Hb3.out (i := 0) (.int .i64 h1)) (i := 1) (.int .i64 g2)
      have hC := (((Chg.refl (fun k => k = b3) w3).setCell (p := ⟨b3, 0, none⟩) (.inl rfl) (.int .i64 h1)).setCell (p := ⟨b3, 1, none⟩) (.inl rfl) (.int .i64 g2))
      exact bodyPost_ret (results_cell1 rfl _ rfl (run_loadVar_row _ _ _ _ _ _ _ hR (Tryz.underlying37) rfl rfl)) rfl ⟨rfl, HC.out.transR hC fun k hk e => by show False; have := Hb.out; omega⟩
    · have m2 : min g2 h2 = h2 := by omega
      rw [m2]
      clear m2
      go_enter Tryz.func39, Tryz.ntmps39
      go_upto_region 1 with fail
      rw [Hw1.out, ← Hx1.out]
      rw [Hw2.out, ← Hz1.out, ← Hx2.out]
      rw [Hw3.out, ← Hz2.out, ← Hx3.out]
      go_wp2_with fail
      have hR := heap_set (heap_set Hb3.out (i := 0) (.int .i64 h1)) (i := 1) (.int .i64 h2)
      have hC := (((Chg.refl (fun k => k = b3) w3).setCell (p := ⟨b3, 0, none⟩) (.inl rfl) (.int .i64 h1)).setCell (p := ⟨b3, 1, none⟩) (.inl rfl) (.int .i64 h2))
      exact bodyPost_ret (results_cell1 rfl _ rfl (run_loadVar_row _ _ _ _ _ _ _ hR (Tryz.underlying37) rfl rfl)) rfl ⟨rfl, HC.out.transR hC fun k hk e => by show False; have := Hb.out; omega⟩
  · have m1 : max g1 h1 = g1 := by omega
    rw [m1]
    clear m1
    by_cases e2 : g2 ≤ h2
    · have m2 : min g2 h2 = g2 := by omega
      rw [m2]
      clear m2
      go_enter Tryz.func39, Tryz.ntmps39
      go_upto_region 1 with fail
      rw [Hw1.out, ← Hx1.out]
      rw [Hw2.out, ← Hz1.out, ← Hx2.out]
      rw [Hw3.out, ← Hz2.out, ← Hx3.out]
      go_wp2_with fail
      have hR := heap_set (heap_set Hb3.out (i := 0) (.int .i64 g1)) (i := 1) (.int .i64 g2)
      have hC := (((Chg.refl (fun k => k = b3) w3).setCell (p := ⟨b3, 0, none⟩) (.inl rfl) (.int .i64 g1)).setCell (p := ⟨b3, 1, none⟩) (.inl rfl) (.int .i64 g2))
      exact bodyPost_ret (results_cell1 rfl _ rfl (run_loadVar_row _ _ _ _ _ _ _ hR (Tryz.underlying37) rfl rfl)) rfl ⟨rfl, HC.out.transR hC fun k hk e => by show False; have := Hb.out; omega⟩
    · have m2 : min g2 h2 = h2 := by omega
      rw [m2]
      clear m2
      go_enter Tryz.func39, Tryz.ntmps39
      go_upto_region 1 with fail
      rw [Hw1.out, ← Hx1.out]
      rw [Hw2.out, ← Hz1.out, ← Hx2.out]
      rw [Hw3.out, ← Hz2.out, ← Hx3.out]
      go_wp2_with fail
      have hR := heap_set (heap_set Hb3.out (i := 0) (.int .i64 g1)) (i := 1) (.int .i64 h2)
      have hC := (((Chg.refl (fun k => k = b3) w3).setCell (p := ⟨b3, 0, none⟩) (.inl rfl) (.int .i64 g1)).setCell (p := ⟨b3, 1, none⟩) (.inl rfl) (.int .i64 h2))
      exact bodyPost_ret (results_cell1 rfl _ rfl (run_loadVar_row _ _ _ _ _ _ _ hR (Tryz.underlying37) rfl rfl)) rfl ⟨rfl, HC.out.transR hC fun k hk e => by show False; have := Hb.out; omega⟩
theorem few_any (n c : Nat) (q : Option Addr) (w : World) : Calls Tryz.prog 26 #[.slice q n c] w fun e w' => e = .returned (if 16 < n then .tuple #[.slice none 0 0, .int .i64 13] else .tuple #[.slice q n c, .int .i64 0]) ∧ w' = w := by
  by_cases hbig : 16 < n
  · rw [if_pos hbig]
    go_enter Tryz.func26, Tryz.ntmps26
    go_wp2_with fail
    go_ret2
    exact ⟨rfl, rfl⟩
  · rw [if_neg hbig]
    go_enter Tryz.func26, Tryz.ntmps26
    go_wp2_with fail
    go_ret2
    exact ⟨rfl, rfl⟩
end Go.Proofs.YtaijhebjjbcdfaaGreatDoor
