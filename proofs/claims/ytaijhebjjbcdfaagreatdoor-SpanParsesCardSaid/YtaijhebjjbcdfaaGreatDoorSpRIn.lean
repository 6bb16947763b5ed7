/- The document's side: In, Same, Good. No condition. -/
import Derived.Test.YtaijhebjjbcdfaaGreatDoorSpGood
import Derived.Test.YtaijhebjjbcdfaaGreatDoorSpRefM

namespace Go.Proofs.YtaijhebjjbcdfaaGreatDoor
set_option linter.unusedVariables false
open Go.ChangeShapes Go.WideShapes Go.ChangeAt Go.RowKit
theorem in_hit {l : List GapL} {z : Int} {k : Nat} (h : k < l.length) (hz : inOne l[k] z = true) : inG l z = true := List.any_eq_true.2 ⟨_, List.getElem_mem h, hz⟩
theorem in_take {l : List GapL} {z : Int} {k : Nat} (h : k < l.length) : inG (l.take (k + 1)) z = (inG (l.take k) z || inOne l[k] z) := by
  rw [take_at h, inG_app]
  simp [inG]
set_option maxHeartbeats 1000000 in
set_option maxRecDepth 20000 in
theorem in_any (l : List GapL) (S : Nat → Prop) (v : Value) (kb ko : Nat) (z : Int) (w : World) (hs : GapS w S v l kb ko) : Calls Tryz.prog 32 #[v, .int .i64 z] w fun e w' => e = .returned (.bool (inG l z)) ∧ Chg NoB w w' := by
  obtain ⟨⟨q, c, rfl, h1, h2, h3⟩, hat, -⟩ := hs
  obtain ⟨n, hn⟩ : ∃ n, n = l.length := ⟨_, rfl⟩
  rw [← hn] at h1 ⊢
  have H3 := Lib.hid h3
  have Hat := Lib.hid hat
  have Hn := Lib.hid hn
  obtain ⟨r, hr⟩ : ∃ r, r = inG l z := ⟨_, rfl⟩
  rw [← hr]
  have Hr := Lib.hid hr
  unfold maxLen at h2
  clear h3 hat hn hr
  go_enter Tryz.func32, Tryz.ntmps32
  go_wp2_with fail
  go_loopw [9] (fun i wr => ∃ (k : Nat), k ≤ n ∧ i = .int .i64 k ∧ inG (l.take k) z = false ∧ Chg NoB w wr) (fun i _ => n - (intOf i).toNat)
  case atStart => exact ⟨0, Nat.zero_le _, rfl, rfl, Chg.refl _ _⟩
  case round =>
    obtain ⟨k, hk, rfl, hcg, hch⟩ := hrel
    have Hcg := Lib.hid hcg
    have Hch := Lib.hid hch
    clear hcg hch
    by_cases hlt : k < n
    · have hlt' : k < l.length := by rw [← Hn.out]; exact hlt
      obtain ⟨rfl, -⟩ := H3.out (by intro e; rw [e] at hlt'; simp at hlt')
      obtain ⟨c0, c1⟩ := Hat.out k hlt'
      have c0 := Hch.out.keep c0
      have c1 := Hch.out.keep c1
      have Hhit := Lib.hid (fun h => in_hit (z := z) hlt' h)
      have Htk := Lib.hid (in_take (z := z) hlt')
      generalize l[k] = g at *
      obtain ⟨x1, x2⟩ := g
      simp only at c0 c1
      have hal := (Chg.refl NoB wr).alloc (.cells #[.int .i64 x1, .int .i64 x2] 37)
      obtain ⟨d0, d1⟩ := var2 (heap_alloc_new wr (.cells #[.int .i64 x1, .int .i64 x2] 37))
      have Hal := Lib.hid (Hch.out.trans hal)
      clear hal hlt'
      by_cases e1 : x1 ≤ z
      · have f1 := decide_eq_true e1
        by_cases e2 : z < x2
        · have f2 := decide_eq_true e2
          go_wp2_with fail
          go_ret
          exact ⟨retB (by rw [Hr.out]; exact (Hhit.out (decide_eq_true ⟨e1, e2⟩)).symm), Hal.out⟩
        · have f2 := decide_eq_false e2
          have Hok := Lib.hid (show inG (l.take (k + 1)) z = false by rw [Htk.out, Hcg.out]; exact decide_eq_false fun h => e2 h.2)
          clear e1 e2
          go_wp2_with fail
          go_roundw
          case rel => exact ⟨k + 1, by omega, by go_num, Hok.out, Hal.out⟩
          case measure => simp [intOf]; omega
      · have f1 := decide_eq_false e1
        have Hok := Lib.hid (show inG (l.take (k + 1)) z = false by rw [Htk.out, Hcg.out]; exact decide_eq_false fun h => e1 h.1)
        clear e1
        go_wp2_with fail
        go_roundw
        case rel => exact ⟨k + 1, by omega, by go_num, Hok.out, Hal.out⟩
        case measure => simp [intOf]; omega
    · obtain rfl : k = n := by omega
      go_wp2_with fail
      go_ret
      refine ⟨retB ?_, Hch.out⟩
      have h := Hcg.out
      rw [Hn.out, List.take_length] at h
      rw [Hr.out, h]
set_option maxHeartbeats 1000000 in
set_option maxRecDepth 20000 in
theorem same_any (l r : List GapL) (S T : Nat → Prop) (v u : Value) (kb ko rb ro : Nat) (w : World) (hs : GapS w S v l kb ko) (ht : GapS w T u r rb ro) : Calls Tryz.prog 11 #[v, u] w fun e w' => e = .returned (.bool (decide (l = r))) ∧ Chg NoB w w' := by
  obtain ⟨⟨q, c, rfl, h1, h2, h3⟩, hat, -⟩ := hs
  obtain ⟨⟨q2, c2, rfl, g1, g2, g3⟩, gat, -⟩ := ht
  obtain ⟨n, hn⟩ : ∃ n, n = l.length := ⟨_, rfl⟩
  obtain ⟨m, hm⟩ : ∃ n, n = r.length := ⟨_, rfl⟩
  rw [← hn] at h1 ⊢
  rw [← hm] at g1 ⊢
  have H3 := Lib.hid h3
  have Hat := Lib.hid hat
  have Hn := Lib.hid hn
  have G3 := Lib.hid g3
  have Gat := Lib.hid gat
  have Hm := Lib.hid hm
  obtain ⟨t, hr⟩ : ∃ t, t = decide (l = r) := ⟨_, rfl⟩
  rw [← hr]
  have Hr := Lib.hid hr
  unfold maxLen at h2 g2
  clear h3 hat hn hr g3 gat hm
  go_enter Tryz.func11, Tryz.ntmps11
  by_cases hnm : n = m
  · subst hnm
    go_wp2_with fail
    go_loopw [13] (fun i wr => ∃ (k : Nat), k ≤ n ∧ i = .int .i64 k ∧ l.take k = r.take k ∧ Chg NoB w wr) (fun i _ => n - (intOf i).toNat)
    case atStart => exact ⟨0, Nat.zero_le _, rfl, rfl, Chg.refl _ _⟩
    case round =>
      obtain ⟨k, hk, rfl, hcg, hch⟩ := hrel
      have Hcg := Lib.hid hcg
      have Hch := Lib.hid hch
      clear hcg hch
      by_cases hlt : k < n
      · have hlt' : k < l.length := by rw [← Hn.out]; exact hlt
        have hlt2 : k < r.length := by rw [← Hm.out]; exact hlt
        obtain ⟨rfl, -⟩ := H3.out (by intro e; rw [e] at hlt'; simp at hlt')
        obtain ⟨rfl, -⟩ := G3.out (by intro e; rw [e] at hlt2; simp at hlt2)
        obtain ⟨c0, c1⟩ := Hat.out k hlt'
        obtain ⟨d0, d1⟩ := Gat.out k hlt2
        have c0 := Hch.out.keep c0
        have c1 := Hch.out.keep c1
        have d0 := Hch.out.keep d0
        have d1 := Hch.out.keep d1
        have Hne := Lib.hid (show l[k] ≠ r[k] → l ≠ r from fun h e => h (by subst e; rfl))
        have Htk := Lib.hid (show l[k] = r[k] → l.take (k + 1) = r.take (k + 1) from fun h => by rw [take_at hlt', take_at hlt2, Hcg.out, h])
        generalize l[k] = g at *
        generalize r[k] = h at *
        obtain ⟨x1, x2⟩ := g
        obtain ⟨y1, y2⟩ := h
        simp only at c0 c1 d0 d1
        clear hlt' hlt2
        obtain ⟨b1, f1⟩ : ∃ b, (x1 == y1) = b := ⟨_, rfl⟩
        obtain ⟨b2, f2⟩ : ∃ b, (x2 == y2) = b := ⟨_, rfl⟩
        have Hxy := Lib.hid (show (x1, x2) = (y1, y2) ↔ b1 = true ∧ b2 = true by rw [← f1, ← f2]; simp)
        have hA := And.intro c0 (And.intro c1 (And.intro d0 d1))
        go_upto_region 6 with fail
        cases b1 <;> cases b2
        all_goals
          go_region_held3 (fun w' => w'.cell? ⟨kb, ko + k * 2, none⟩ = some (.int .i64 x1) ∧ w'.cell? ⟨kb, ko + k * 2 + 1, none⟩ = some (.int .i64 x2) ∧ w'.cell? ⟨rb, ro + k * 2, none⟩ = some (.int .i64 y1) ∧ w'.cell? ⟨rb, ro + k * 2 + 1, none⟩ = some (.int .i64 y2))
            (exact hA)
            (fail)
        all_goals
          first
            | (have Hok := Lib.hid (Htk.out (Hxy.out.2 ⟨rfl, rfl⟩))
               clear Htk Hne Hxy
               go_wp2_with fail
               go_roundw
               case rel => exact ⟨k + 1, by omega, by go_num, Hok.out, Hch.out.drew⟩
               case measure => simp [intOf]; omega)
            | (have Hbad := Lib.hid (Hne.out (fun e => by have := Hxy.out.1 e; simp at this))
               clear Htk Hne Hxy
               go_wp2_with fail
               go_ret
               exact ⟨retB (by rw [Hr.out, decide_eq_false Hbad.out]), Hch.out.drew⟩)
      · obtain rfl : k = n := by omega
        go_wp2_with fail
        go_ret
        refine ⟨retB ?_, Hch.out⟩
        have h := Hcg.out
        have e1 : l.take l.length = r.take r.length := by rw [← Hn.out, ← Hm.out]; exact h
        rw [List.take_length, List.take_length] at e1
        rw [Hr.out, decide_eq_true e1]
  · have f1 : decide ((n : Int) = m) = false := decide_eq_false (by omega)
    go_wp2_with fail
    go_ret
    refine ⟨retB ?_, Chg.refl _ _⟩
    rw [Hr.out, decide_eq_false]
    rintro rfl
    exact hnm (by rw [Hn.out, Hm.out])
theorem end_low {l : List GapL} (h : chainG (-1) l = true) (hne : l ≠ []) : 0 ≤ endG l := by
  unfold endG
  obtain ⟨i, t, rfl⟩ : ∃ i t, l = i ++ [t] := by
    rcases List.eq_nil_or_concat l with rfl | ⟨i, t, rfl⟩
    · exact absurd rfl hne
    · exact ⟨i, t, List.concat_eq_append⟩
  rw [List.getLast?_concat]
  have := chain_bounds h t (by simp)
  show 0 ≤ t.2
  omega
set_option maxHeartbeats 1000000 in
set_option maxRecDepth 20000 in
theorem rgood_any (l : List GapL) (S : Nat → Prop) (v : Value) (kb ko : Nat) (w : World) (hs : GapS w S v l kb ko) : Calls Tryz.prog 40 #[v] w fun e w' => e = .returned (.bool (goodG l)) ∧ Chg NoB w w' := by
  obtain ⟨⟨q, c, rfl, h1, h2, h3⟩, hat, -⟩ := hs
  obtain ⟨n, hn⟩ : ∃ n, n = l.length := ⟨_, rfl⟩
  rw [← hn] at h1 ⊢
  have H3 := Lib.hid h3
  have Hat := Lib.hid hat
  have Hn := Lib.hid hn
  obtain ⟨r, hr⟩ : ∃ r, r = goodG l := ⟨_, rfl⟩
  rw [← hr]
  have Hr := Lib.hid hr
  unfold maxLen at h2
  clear h3 hat hn hr
  go_enter Tryz.func40, Tryz.ntmps40
  by_cases hbig : 16 < n
  · have f0 : decide ((16 : Int) < (n : Int)) = true := decide_eq_true (by omega)
    go_wp2_with fail
    go_ret
    refine ⟨retB ?_, Chg.refl _ _⟩
    rw [Hr.out]
    unfold goodG
    rw [decide_eq_false (by rw [← Hn.out]; omega)]
    rfl
  · have f0 : decide ((16 : Int) < (n : Int)) = false := decide_eq_false (by omega)
    go_wp2_with fail
    go_loopw [3, 9] (fun _ i wr => ∃ (k : Nat), k ≤ n ∧ i = .int .i64 k ∧ chainG (-1) (l.take k) = true ∧ Chg NoB w wr) (fun _ i _ => n - (intOf i).toNat)
    case atStart => exact ⟨0, Nat.zero_le _, rfl, rfl, Chg.refl _ _⟩
    case round =>
      obtain ⟨k, hk, rfl, hcg, hch⟩ := hrel
      have Hcg := Lib.hid hcg
      have Hch := Lib.hid hch
      clear hcg hch
      by_cases hlt : k < n
      · have hlt' : k < l.length := by rw [← Hn.out]; exact hlt
        obtain ⟨rfl, -⟩ := H3.out (by intro e; rw [e] at hlt'; simp at hlt')
        obtain ⟨c0, c1⟩ := Hat.out k hlt'
        have c0 := Hch.out.keep c0
        have c1 := Hch.out.keep c1
        have Hbad := Lib.hid (fun h => chain_bad hlt' h)
        have Htk := Lib.hid (chain_take hlt')
        by_cases hk0 : k = 0
        · rw [show endG (l.take k) = -1 by rw [hk0]; rfl] at Hbad Htk
          generalize l[k] = g at *
          obtain ⟨x1, x2⟩ := g
          simp only at c0 c1
          clear hlt'
          have hz : decide (0 < k) = false := decide_eq_false (by omega)
          clear hk0
          go_upto_region 6 with fail
          by_cases e1 : x1 < 0
          · have f1 := decide_eq_true e1
            go_quiet (fail)
            have HcQ := Lib.hid (Hch.out.drewN nq)
            go_wp2_with fail
            go_ret
            exact ⟨retB (by rw [Hr.out]; exact (Hbad.out (fun h => by have := h.1; (try simp only at this); omega)).symm), HcQ.out⟩
          have f1 := decide_eq_false e1
          by_cases e2 : x2 ≤ x1
          · have f2 := decide_eq_true e2
            go_quiet (fail)
            have HcQ := Lib.hid (Hch.out.drewN nq)
            go_wp2_with fail
            go_ret
            exact ⟨retB (by rw [Hr.out]; exact (Hbad.out (fun h => by have := h.2.1; (try simp only at this); omega)).symm), HcQ.out⟩
          have f2 := decide_eq_false e2
          by_cases e3 : 1000000000 < x2
          · have f3 := decide_eq_true e3
            go_quiet (fail)
            have HcQ := Lib.hid (Hch.out.drewN nq)
            go_wp2_with fail
            go_ret
            exact ⟨retB (by rw [Hr.out]; exact (Hbad.out (fun h => by have := h.2.2; unfold allG at this; (try simp only at this); omega)).symm), HcQ.out⟩
          have f3 := decide_eq_false e3
          have Hok := Lib.hid (Htk.out.2 ⟨Hcg.out, by show -1 < x1; omega, by show x1 < x2; omega, by show x2 ≤ 1000000000; omega⟩)
          clear e1 e2 e3
          go_quiet (fail)
          have HcQ := Lib.hid (Hch.out.drewN nq)
          go_wp2_with fail
          go_roundw
          case rel => exact ⟨k + 1, by omega, by go_num, Hok.out, HcQ.out⟩
          case measure => simp [intOf]; omega
        · obtain ⟨p, rfl⟩ : ∃ p, k = p + 1 := ⟨k - 1, by omega⟩
          have hp' : p < l.length := by omega
          obtain ⟨-, d1⟩ := Hat.out p hp'
          have d1 := Hch.out.keep d1
          have Hlow := Lib.hid (end_low Hcg.out (by intro e; have := congrArg List.length e; rw [List.length_take, List.length_nil] at this; omega))
          rw [end_take hp'] at Hbad Htk Hlow
          generalize l[p + 1] = g at *
          generalize l[p] = h at *
          obtain ⟨x1, x2⟩ := g
          obtain ⟨y1, y2⟩ := h
          simp only at c0 c1 d1
          have hlow : 0 ≤ y2 := Hlow.out
          clear hlt' hp' Hlow
          have hz : decide ((0 : Int) < ((p + 1 : Nat) : Int)) = true := decide_eq_true (by omega)
          go_upto_region 6 with fail
          by_cases e1 : x1 < 0
          · have f1 := decide_eq_true e1
            go_quiet (fail)
            have HcQ := Lib.hid (Hch.out.drewN nq)
            go_wp2_with fail
            go_ret
            exact ⟨retB (by rw [Hr.out]; exact (Hbad.out (fun h => by have := h.1; (try simp only at this); omega)).symm), HcQ.out⟩
          have f1 := decide_eq_false e1
          by_cases e2 : x2 ≤ x1
          · have f2 := decide_eq_true e2
            go_quiet (fail)
            have HcQ := Lib.hid (Hch.out.drewN nq)
            go_wp2_with fail
            go_ret
            exact ⟨retB (by rw [Hr.out]; exact (Hbad.out (fun h => by have := h.2.1; (try simp only at this); omega)).symm), HcQ.out⟩
          have f2 := decide_eq_false e2
          by_cases e3 : 1000000000 < x2
          · have f3 := decide_eq_true e3
            go_quiet (fail)
            have HcQ := Lib.hid (Hch.out.drewN nq)
            go_wp2_with fail
            go_ret
            exact ⟨retB (by rw [Hr.out]; exact (Hbad.out (fun h => by have := h.2.2; unfold allG at this; (try simp only at this); omega)).symm), HcQ.out⟩
          have f3 := decide_eq_false e3
          by_cases e4 : x1 ≤ y2
          · have f4 := decide_eq_true e4
            go_quiet (fail)
            have HcQ := Lib.hid (Hch.out.drewN nq)
            go_wp2_with fail
            go_ret
            exact ⟨retB (by rw [Hr.out]; exact (Hbad.out (fun h => by have := h.1; (try simp only at this); omega)).symm), HcQ.out⟩
          have f4 := decide_eq_false e4
          have Hok := Lib.hid (Htk.out.2 ⟨Hcg.out, by show y2 < x1; omega, by show x1 < x2; omega, by show x2 ≤ 1000000000; omega⟩)
          clear e1 e2 e3 e4
          go_quiet (fail)
          have HcQ := Lib.hid (Hch.out.drewN nq)
          go_wp2_with fail
          go_roundw
          case rel => exact ⟨(p + 1) + 1, by omega, by go_num, Hok.out, HcQ.out⟩
          case measure => simp [intOf]; omega
      · obtain rfl : k = n := by omega
        go_wp2_with fail
        go_ret
        refine ⟨retB ?_, Hch.out⟩
        have h := Hcg.out
        rw [Hn.out, List.take_length] at h
        rw [Hr.out]
        unfold goodG
        rw [h, decide_eq_true (by rw [← Hn.out]; omega)]
        rfl
end Go.Proofs.YtaijhebjjbcdfaaGreatDoor
