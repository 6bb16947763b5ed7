/- Proved: the statement SpanHas holds for every two lists of gaps and version. Conditions: the listed package variables read as the program's text lays them (the card ties them); nothing else. -/
import Derived.Test.YtaijhebjjbcdfaaGreatDoorSpOpen
import Derived.Test.YtaijhebjjbcdfaaGreatDoorSpHas
import Derived.Test.YtaijhebjjbcdfaaGreatDoorCards
import Derived.Test.YtaijhebjjbcdfaaGreatDoorTie
import Derived.Test.YtaijhebjjbcdfaaGreatDoorSpOr
import Derived.Test.YtaijhebjjbcdfaaGreatDoorSpRBoth

namespace Go.Proofs.YtaijhebjjbcdfaaGreatDoor
set_option linter.unusedVariables false
open Go.ChangeShapes Go.WideShapes Go.ChangeAt Go.RowKit
theorem chain_wf {d : List GapL} (h : chainG (-1) d = true) : ∀ g ∈ d, In64 g.1 ∧ In64 g.2 := fun g hg => by
  have := chain_bounds h g hg
  unfold allG at this
  unfold In64
  omega
theorem op_shape {w w' : World} {ok : Bool} {p : Int → Bool} {e : Ending} (h : OpP w ok p e w') : ∃ (q : Option Addr) (m c : Nat) (k : Int), e = .returned (.tuple #[.slice q m c, .int .i64 k]) ∧ Chg NoB w w' ∧ (k = 0 ∨ k = 1 ∨ k = 13) ∧
    (k = 0 → ∃ (d : List GapL) (kb : Nat), m = d.length ∧ GapS w' (fun j => w.heap.size ≤ j ∧ j < w'.heap.size) (.slice q m c) d kb 0 ∧ ∀ n, 0 ≤ n → n < allG → inG d n = p n) := by
  obtain ⟨hc, (⟨-, h⟩ | ⟨-, d, h1, h2, (⟨-, h⟩ | ⟨-, q, c, h, h3⟩)⟩)⟩ := h
  · exact ⟨none, 0, 0, 1, h, hc, .inr (.inl rfl), fun e => absurd e (by decide)⟩
  · exact ⟨none, 0, 0, 13, h, hc, .inr (.inr rfl), fun e => absurd e (by decide)⟩
  · obtain ⟨kb, hk⟩ := GapS.of_row h3 rfl (chain_wf h1)
    exact ⟨q, d.length, c, 0, h, hc, .inl rfl, fun _ => ⟨d, kb, rfl, hk, h2⟩⟩
theorem has_eq {d : List GapL} {p : Int → Bool} {N : Int} (h : ∀ n, 0 ≤ n → n < allG → inG d n = p n) (hN : N ≤ 999999999) : (decide (0 ≤ N) && inG d N) = (decide (0 ≤ N) && p N) := by
  by_cases h0 : 0 ≤ N
  · rw [h N h0 (by unfold allG; omega)]
  · rw [decide_eq_false h0]; rfl
theorem g_yes {x y z : Int} (r1 : 0 ≤ x) (r2 : x ≤ 999) (r3 : 0 ≤ y) (r4 : y ≤ 999) (r5 : 0 ≤ z) (r6 : z ≤ 999) : Ver.goodB x y z = true := decide_eq_true ⟨r1, r2, r3, r4, r5, r6⟩
theorem g_no1 {x y z : Int} (h : ¬ 0 ≤ x) : Ver.goodB x y z = false := decide_eq_false fun k => h k.1
theorem g_no2 {x y z : Int} (h : ¬ x ≤ 999) : Ver.goodB x y z = false := decide_eq_false fun k => h k.2.1
theorem g_no3 {x y z : Int} (h : ¬ 0 ≤ y) : Ver.goodB x y z = false := decide_eq_false fun k => h k.2.2.1
theorem g_no4 {x y z : Int} (h : ¬ y ≤ 999) : Ver.goodB x y z = false := decide_eq_false fun k => h k.2.2.2.1
theorem g_no5 {x y z : Int} (h : ¬ 0 ≤ z) : Ver.goodB x y z = false := decide_eq_false fun k => h k.2.2.2.2.1
theorem g_no6 {x y z : Int} (h : ¬ z ≤ 999) : Ver.goodB x y z = false := decide_eq_false fun k => h k.2.2.2.2.2
set_option maxHeartbeats 16000000 in
set_option maxRecDepth 100000 in
theorem spanHas_all (l0 : List GapL) (v0 : Value) (kb0 ko0 : Nat) (l1 : List GapL) (v1 : Value) (kb1 ko1 : Nat) (x y z : Int) (W : World) (h0 : GapS W (OldB W) v0 l0 kb0 ko0) (h1 : GapS W (OldB W) v1 l1 kb1 ko1) (wx : In64 x) (wy : In64 y) (wz : In64 z) (hpw : Pw W.heap.size W) :
    Calls Tryz.prog 4 #[v0, v1, .agg #[.int .i64 x, .int .i64 y, .int .i64 z]] W fun e w' => e = .returned (.bool true) ∧ Chg NoB W w' := by
  have HHa := Lib.hid (fun (W' : World) (h : Chg NoB W W') => has_any l0 x y z (OldB W) v0 kb0 ko0 W' (h0.keep h fun _ _ => id))
  have HHb := Lib.hid (fun (W' : World) (h : Chg NoB W W') => has_any l1 x y z (OldB W) v1 kb1 ko1 W' (h1.keep h fun _ _ => id))
  have HRa := Lib.hid (fun (W' : World) (h : Chg NoB W W') => rhas_any l0 x y z (OldB W) v0 kb0 ko0 W' (h0.keep h fun _ _ => id))
  have HRb := Lib.hid (fun (W' : World) (h : Chg NoB W W') => rhas_any l1 x y z (OldB W) v1 kb1 ko1 W' (h1.keep h fun _ _ => id))
  have HOr := Lib.hid (fun (W' : World) (h : Chg NoB W W') => or_any l0 l1 (OldB W) (OldB W) v0 v1 kb0 ko0 kb1 ko1 W' (h0.keep h fun _ _ => id) (h1.keep h fun _ _ => id))
  have HAnd := Lib.hid (fun (W' : World) (h : Chg NoB W W') => and_any l0 l1 (OldB W) (OldB W) v0 v1 kb0 ko0 kb1 ko1 W' (h0.keep h fun _ _ => id) (h1.keep h fun _ _ => id))
  have HNot := Lib.hid (fun (W' : World) (h : Chg NoB W W') => not_any l0 (OldB W) v0 kb0 ko0 W' (h0.keep h fun _ _ => id))
  obtain ⟨⟨q0, c0, rfl, a1, a2, -⟩, -, -⟩ := h0
  obtain ⟨⟨q1, c1, rfl, b1, b2, -⟩, -, -⟩ := h1
  obtain ⟨n0, hn0⟩ : ∃ n, n = l0.length := ⟨_, rfl⟩
  obtain ⟨n1, hn1⟩ : ∃ n, n = l1.length := ⟨_, rfl⟩
  rw [← hn0] at HHa HRa HOr HAnd HNot a1 ⊢
  rw [← hn1] at HHb HRb HOr HAnd b1 ⊢
  obtain ⟨-, hNb⟩ := num_bound x y z
  have hgd : Ver.goodB x y z = decide (0 ≤ Ver.numI x y z) := by
    cases hg : Ver.goodB x y z
    · rw [Ver.num_no hg]; rfl
    · rw [Ver.num_yes hg, eq_comm, decide_eq_true_iff]
      unfold Ver.goodB at hg
      simp at hg
      omega
  have Hgd := Lib.hid hgd
  obtain ⟨N, hNN⟩ : ∃ N, N = Ver.numI x y z := ⟨_, rfl⟩
  rw [← hNN] at HHa HHb HRa HRb hNb hgd Hgd
  have HNN := Lib.hid hNN
  obtain ⟨g, hg⟩ : ∃ g, g = decide (0 ≤ N) := ⟨_, rfl⟩
  obtain ⟨p, hp⟩ : ∃ p, p = (decide (0 ≤ N) && inG l0 N) := ⟨_, rfl⟩
  obtain ⟨q, hq⟩ : ∃ q, q = (decide (0 ≤ N) && inG l1 N) := ⟨_, rfl⟩
  have Hvo := Lib.hid (show (decide (0 ≤ N) && (inG l0 N || inG l1 N)) = (p || q) by rw [hp, hq]; cases decide (0 ≤ N) <;> rfl)
  have Hva := Lib.hid (show (decide (0 ≤ N) && (inG l0 N && inG l1 N)) = (p && q) by rw [hp, hq]; cases decide (0 ≤ N) <;> cases inG l0 N <;> cases inG l1 N <;> rfl)
  have Hvn := Lib.hid (show (decide (0 ≤ N) && !inG l0 N) = (g && !p) by rw [hp, hg]; cases decide (0 ≤ N) <;> cases inG l0 N <;> rfl)
  rw [← hp] at HHa HRa
  rw [← hq] at HHb HRb
  rw [← hg] at Hgd
  have hal_ := (Chg.refl NoB W).alloc (.cells #[.int .i64 x, .int .i64 y, .int .i64 z] 31)
  have hb_ := heap_alloc_new W (.cells #[.int .i64 x, .int .i64 y, .int .i64 z] 31)
  obtain ⟨vb, hxb_⟩ : ∃ b, b = W.heap.size := ⟨_, rfl⟩
  obtain ⟨w1, hw_⟩ : ∃ w_, W.alloc (.cells #[.int .i64 x, .int .i64 y, .int .i64 z] 31) = w_ := ⟨_, rfl⟩
  have hz_ : w1.heap.size = vb + 1 := by rw [← hw_, hxb_]; exact alloc_size _ _
  rw [hw_] at hal_ hb_
  rw [← hxb_] at hb_
  have Hw5 := Lib.hid hw_
  have Hx5 := Lib.hid hxb_
  have Ha5 := Lib.hid hal_
  have Hb5 := Lib.hid hb_
  have Hz5 := Lib.hid hz_
  clear hal_ hb_ hxb_ hw_ hz_
  have HAL := Lib.hid (alive_any W.heap.size w1 (hpw.keep Ha5.out fun k h => h.elim))
  unfold maxLen at a2 b2
  clear hn0 hn1 hp hq hg hgd hpw hNN
  go_enter Tryz.func4, Tryz.ntmps4
  go_upto_region 1 with fail
  rw [Hw5.out, ← Hx5.out]
  go_wp2_with fail
  refine HAL.out.mono ?_
  rintro e w2 ⟨rfl, hc2⟩
  have Hc2 := Lib.hid (Ha5.out.trans hc2)
  have Hvb := Lib.hid (row_kept hc2 Hb5.out id)
  clear hc2 HAL
  go_wp2_with fail
  refine (great_any n0 c0 q0 w2).mono ?_
  rintro e w2' ⟨rfl, hw⟩
  rw [hw]
  clear hw w2'
  by_cases hg0 : 200 < n0
  · rw [decide_eq_true hg0]
    go_wp2_with fail
    go_ret
    exact ⟨rfl, Hc2.out⟩
  rw [decide_eq_false hg0]
  clear hg0
  go_wp2_with fail
  refine (great_any n1 c1 q1 w2).mono ?_
  rintro e w2' ⟨rfl, hw⟩
  rw [hw]
  clear hw w2'
  by_cases hg1 : 200 < n1
  · rw [decide_eq_true hg1]
    go_wp2_with fail
    go_ret
    exact ⟨rfl, Hc2.out⟩
  rw [decide_eq_false hg1]
  clear hg1
  obtain ⟨d0, d1, d2⟩ := var3 Hvb.out
  go_upto_region 5 with fail
  refine wp_cutP (fun a a' w' => ∃ x20 x21 x22 x23 x24 x25 x7 x8, a' = ((((((((a.put (some 20) x20).put (some 21) x21).put (some 22) x22).put (some 23) x23).put (some 24) x24).put (some 25) x25).put (some 7) x7).put (some 8) x8) ∧ x7 = .bool p ∧ x8 = .bool q ∧ Chg NoB w2 w') ?_ ?_
  · have hA := And.intro d0 (And.intro d1 d2)
    go_region_held3 (fun w' => w'.cell? ⟨vb, 0, none⟩ = some (.int .i64 x) ∧ w'.cell? ⟨vb, 1, none⟩ = some (.int .i64 y) ∧ w'.cell? ⟨vb, 2, none⟩ = some (.int .i64 z))
      (first | exact hC | exact hB | exact hA)
      (first
        | (have h' := hcb; go_at_call_of 14 (Value.slice q0 n0 c0); refine (HHa.out wb (Hc2.out.trans hcb)).mono ?_; rintro e wf ⟨rfl, hcf'⟩; have hcf : Chg NoB w2 wf := hcb.trans hcf'; have hC := And.intro (hcf.keep d0) (And.intro (hcf.keep d1) (hcf.keep d2)))
        | (have h' := hca; go_at_call_of 14 (Value.slice q1 n1 c1); refine (HHb.out wa (Hc2.out.trans hca)).mono ?_; rintro e wf ⟨rfl, hcf'⟩; have hcf : Chg NoB w2 wf := hca.trans hcf'; have hC := And.intro (hcf.keep d0) (And.intro (hcf.keep d1) (hcf.keep d2)))
        | (go_at_call_of 14 (Value.slice q0 n0 c0); refine (HHa.out w2.drew (Hc2.out.trans (Chg.refl NoB w2).drew)).mono ?_; rintro e wa ⟨rfl, hca'⟩; have hca : Chg NoB w2 wa := (Chg.refl NoB w2).drew.trans hca'; have hB := And.intro (hca.keep d0) (And.intro (hca.keep d1) (hca.keep d2)))
        | (go_at_call_of 14 (Value.slice q1 n1 c1); refine (HHb.out w2.drew (Hc2.out.trans (Chg.refl NoB w2).drew)).mono ?_; rintro e wb ⟨rfl, hcb'⟩; have hcb : Chg NoB w2 wb := (Chg.refl NoB w2).drew.trans hcb'; have hB := And.intro (hcb.keep d0) (And.intro (hcb.keep d1) (hcb.keep d2))))
    all_goals exact ⟨rfl, _, _, _, _, _, _, _, _, rfl, rfl, rfl, hcf⟩
  rintro a' w3 ⟨x20, x21, x22, x23, x24, x25, x7, x8, rfl, rfl, rfl, hc3⟩
  have Hc3 := Lib.hid (Hc2.out.trans hc3)
  have Hvb3 := Lib.hid (row_kept hc3 Hvb.out id)
  clear hc3 d0 d1 d2
  obtain ⟨d0, d1, d2⟩ := var3 Hvb3.out
  simp only [Act.put, List.setIfInBounds_toArray, List.set_cons_succ, List.set_cons_zero]
  go_wp2_with fail
  refine (HRa.out w3 Hc3.out).mono ?_
  rintro e w4 ⟨rfl, hc4⟩
  have Hc4 := Lib.hid (Hc3.out.trans hc4)
  have Hvb4 := Lib.hid (row_kept hc4 Hvb3.out id)
  clear hc4 d0 d1 d2
  obtain ⟨d0, d1, d2⟩ := var3 Hvb4.out
  go_wp2_with fail
  refine (HRb.out w4 Hc4.out).mono ?_
  rintro e w5 ⟨rfl, hc5⟩
  have Hc5 := Lib.hid (Hc4.out.trans hc5)
  have Hvb5 := Lib.hid (row_kept hc5 Hvb4.out id)
  clear hc5 d0 d1 d2
  obtain ⟨d0, d1, d2⟩ := var3 Hvb5.out
  go_wp2_with fail
  refine (HOr.out w5 Hc5.out).mono ?_
  rintro e w9 hop9
  obtain ⟨q9, m9, c9, k9, rfl, hc9, -, hd9⟩ := op_shape hop9
  have Hc9 := Lib.hid (Hc5.out.trans hc9)
  have Hd9 := Lib.hid hd9
  have Hvb9 := Lib.hid (row_kept hc9 Hvb5.out id)
  clear hop9 hc9 hd9 d0 d1 d2
  obtain ⟨d0, d1, d2⟩ := var3 Hvb9.out
  go_upto_region 9 with fail
  refine wp_cutP (fun a a' w' => ∃ x44 x45 x46 x47 x48 x49 x50 x51 x52 x53 x54 x55, a' = ((((((((((((a.put (some 44) x44).put (some 45) x45).put (some 46) x46).put (some 47) x47).put (some 48) x48).put (some 49) x49).put (some 50) x50).put (some 51) x51).put (some 52) x52).put (some 53) x53).put (some 54) x54).put (some 55) x55) ∧ x55 = .bool false ∧ Chg NoB w9 w') ?_ ?_
  · by_cases hk : k9 = 0
    · subst hk
      obtain ⟨d, kb, hm, hg, hin⟩ := Hd9.out rfl
      have HV := Lib.hid (has_any d x y z _ _ kb 0 w9 hg)
      rw [← HNN.out, has_eq hin hNb, Hvo.out] at HV
      clear hm hg hin
      cases p <;> cases q
      all_goals
        go_wp2_with fail
        refine HV.out.mono ?_
        rintro e w20 ⟨rfl, hc20⟩
        have Hc20 := Lib.hid hc20
        clear hc20
        go_wp2_with fail
        exact ⟨_, _, _, _, _, _, _, _, _, _, _, _, ⟨rfl, rfl, rfl, rfl, rfl, rfl, rfl, rfl, rfl, rfl, rfl, rfl⟩, rfl, Hc20.out⟩
    · have hk0 : (k9 == 0) = false := by rw [beq_eq_false_iff_ne]; exact hk
      clear hk
      go_wp2_with fail
      exact ⟨_, _, _, _, _, _, _, _, _, _, _, _, ⟨rfl, rfl, rfl, rfl, rfl, rfl, rfl, rfl, rfl, rfl, rfl, rfl⟩, rfl, Chg.refl _ _⟩
  rintro a' w9x ⟨x44, x45, x46, x47, x48, x49, x50, x51, x52, x53, x54, x55, rfl, rfl, hcx⟩
  have Hcx9 := Lib.hid (Hc9.out.trans hcx)
  have Hvx9 := Lib.hid (row_kept hcx Hvb9.out id)
  clear hcx d0 d1 d2
  obtain ⟨d0, d1, d2⟩ := var3 Hvx9.out
  simp only [Act.put, List.setIfInBounds_toArray, List.set_cons_succ, List.set_cons_zero]
  go_wp2_with fail
  refine (HAnd.out w9x Hcx9.out).mono ?_
  rintro e w12 hop12
  obtain ⟨q12, m12, c12, k12, rfl, hc12, -, hd12⟩ := op_shape hop12
  have Hc12 := Lib.hid (Hcx9.out.trans hc12)
  have Hd12 := Lib.hid hd12
  have Hvb12 := Lib.hid (row_kept hc12 Hvx9.out id)
  clear hop12 hc12 hd12 d0 d1 d2
  obtain ⟨d0, d1, d2⟩ := var3 Hvb12.out
  go_upto_region 12 with fail
  refine wp_cutP (fun a a' w' => ∃ x62 x63 x64 x65 x66 x67 x68 x69 x70 x71 x72 x73, a' = ((((((((((((a.put (some 62) x62).put (some 63) x63).put (some 64) x64).put (some 65) x65).put (some 66) x66).put (some 67) x67).put (some 68) x68).put (some 69) x69).put (some 70) x70).put (some 71) x71).put (some 72) x72).put (some 73) x73) ∧ x73 = .bool false ∧ Chg NoB w12 w') ?_ ?_
  · by_cases hk : k12 = 0
    · subst hk
      obtain ⟨d, kb, hm, hg, hin⟩ := Hd12.out rfl
      have HV := Lib.hid (has_any d x y z _ _ kb 0 w12 hg)
      rw [← HNN.out, has_eq hin hNb, Hva.out] at HV
      clear hm hg hin
      cases p <;> cases q
      all_goals
        go_wp2_with fail
        refine HV.out.mono ?_
        rintro e w20 ⟨rfl, hc20⟩
        have Hc20 := Lib.hid hc20
        clear hc20
        go_wp2_with fail
        exact ⟨_, _, _, _, _, _, _, _, _, _, _, _, ⟨rfl, rfl, rfl, rfl, rfl, rfl, rfl, rfl, rfl, rfl, rfl, rfl⟩, rfl, Hc20.out⟩
    · have hk0 : (k12 == 0) = false := by rw [beq_eq_false_iff_ne]; exact hk
      clear hk
      go_wp2_with fail
      exact ⟨_, _, _, _, _, _, _, _, _, _, _, _, ⟨rfl, rfl, rfl, rfl, rfl, rfl, rfl, rfl, rfl, rfl, rfl, rfl⟩, rfl, Chg.refl _ _⟩
  rintro a' w12x ⟨x62, x63, x64, x65, x66, x67, x68, x69, x70, x71, x72, x73, rfl, rfl, hcx⟩
  have Hcx12 := Lib.hid (Hc12.out.trans hcx)
  have Hvx12 := Lib.hid (row_kept hcx Hvb12.out id)
  clear hcx d0 d1 d2
  obtain ⟨d0, d1, d2⟩ := var3 Hvx12.out
  simp only [Act.put, List.setIfInBounds_toArray, List.set_cons_succ, List.set_cons_zero]
  go_wp2_with fail
  refine (HNot.out w12x Hcx12.out).mono ?_
  rintro e w14 hop
  obtain ⟨q14, m14, c14, k14, rfl, hc14, hk14, hd14⟩ := op_shape hop
  have Hk14 := Lib.hid hk14
  clear hk14
  have Hc14 := Lib.hid (Hcx12.out.trans hc14)
  have Hd14 := Lib.hid hd14
  have Hvb14 := Lib.hid (row_kept hc14 Hvx12.out id)
  clear hop hc14 hd14 d0 d1 d2
  obtain ⟨d0, d1, d2⟩ := var3 Hvb14.out
  go_upto_region 15 with fail
  refine wp_cutP (fun a a' w' => ∃ x79 x80 x81 x82 x83 x84 x85 x86 x87 x88 x89 x90 x91 x92 x93 x94 x95 x96 x97 x98 x99 x100 x101 x102 x103 x104 x105 x106 x11, a' = (((((((((((((((((((((((((((((a.put (some 79) x79).put (some 80) x80).put (some 81) x81).put (some 82) x82).put (some 83) x83).put (some 84) x84).put (some 85) x85).put (some 86) x86).put (some 87) x87).put (some 88) x88).put (some 89) x89).put (some 90) x90).put (some 91) x91).put (some 92) x92).put (some 93) x93).put (some 94) x94).put (some 95) x95).put (some 96) x96).put (some 97) x97).put (some 98) x98).put (some 99) x99).put (some 100) x100).put (some 101) x101).put (some 102) x102).put (some 103) x103).put (some 104) x104).put (some 105) x105).put (some 106) x106).put (some 11) x11) ∧ x11 = .bool g ∧ w' = w14) ?_ ?_
  · by_cases r1 : 0 ≤ x
    · have f1 := decide_eq_true r1
      by_cases r2 : x ≤ 999
      · have f2 := decide_eq_true r2
        by_cases r3 : 0 ≤ y
        · have f3 := decide_eq_true r3
          by_cases r4 : y ≤ 999
          · have f4 := decide_eq_true r4
            by_cases r5 : 0 ≤ z
            · have f5 := decide_eq_true r5
              by_cases r6 : z ≤ 999
              · have f6 := decide_eq_true r6
                have hgg : g = true := by rw [← Hgd.out]; exact g_yes r1 r2 r3 r4 r5 r6
                clear Hd14 HHa HHb HRa HRb HOr HAnd HNot Hvo Hva Hvn
                go_wp2_with fail
              · have f6 := decide_eq_false r6
                have hgg : g = false := by rw [← Hgd.out]; exact g_no6 r6
                clear Hd14 HHa HHb HRa HRb HOr HAnd HNot Hvo Hva Hvn
                go_wp2_with fail
            · have f5 := decide_eq_false r5
              have hgg : g = false := by rw [← Hgd.out]; exact g_no5 r5
              clear Hd14 HHa HHb HRa HRb HOr HAnd HNot Hvo Hva Hvn
              go_wp2_with fail
          · have f4 := decide_eq_false r4
            have hgg : g = false := by rw [← Hgd.out]; exact g_no4 r4
            clear Hd14 HHa HHb HRa HRb HOr HAnd HNot Hvo Hva Hvn
            go_wp2_with fail
        · have f3 := decide_eq_false r3
          have hgg : g = false := by rw [← Hgd.out]; exact g_no3 r3
          clear Hd14 HHa HHb HRa HRb HOr HAnd HNot Hvo Hva Hvn
          go_wp2_with fail
      · have f2 := decide_eq_false r2
        have hgg : g = false := by rw [← Hgd.out]; exact g_no2 r2
        clear Hd14 HHa HHb HRa HRb HOr HAnd HNot Hvo Hva Hvn
        go_wp2_with fail
    · have f1 := decide_eq_false r1
      have hgg : g = false := by rw [← Hgd.out]; exact g_no1 r1
      clear Hd14 HHa HHb HRa HRb HOr HAnd HNot Hvo Hva Hvn
      go_wp2_with fail
  rintro a' w15 ⟨x79, x80, x81, x82, x83, x84, x85, x86, x87, x88, x89, x90, x91, x92, x93, x94, x95, x96, x97, x98, x99, x100, x101, x102, x103, x104, x105, x106, x11, rfl, rfl, rfl⟩
  simp only [Act.put, List.setIfInBounds_toArray, List.set_cons_succ, List.set_cons_zero]
  by_cases hk : k14 = 0
  · subst hk
    obtain ⟨d, kb, hm, hg, hin⟩ := Hd14.out rfl
    have HV := Lib.hid (has_any d x y z _ _ kb 0 w15 hg)
    rw [← HNN.out, has_eq hin hNb, Hvn.out] at HV
    clear hm hg hin HHa HHb HRa HRb HOr HAnd HNot Hvo Hva Hvn Hd14
    cases g <;> cases p
    all_goals
      go_wp2_with fail
      refine HV.out.mono ?_
      rintro e w20 ⟨rfl, hc20⟩
      have Hc20 := Lib.hid (Hc14.out.trans hc20)
      clear hc20
      go_wp2_with fail
      go_ret
      exact ⟨rfl, Hc20.out⟩
  · rcases Hk14.out with rfl | rfl | rfl
    · exact absurd rfl hk
    all_goals
      clear hk
      go_wp2_with fail
      go_ret
      exact ⟨rfl, Hc14.out⟩
/-FRAME-/
set_option maxRecDepth 100000 in
theorem spanHas_lifted (os : Os) (started : os.Started) (H : Type) (enc : TypeId × Value → H) :
    ReturnsInHanded {} Tryz.checked os 4 .any (fun w args => (Rows.spanHasSpec.pre enc Tryz.prog Tryz.f4 [] false w args ∧ laidMetH Tryz.prog Rows.spanHasRow.laid w) ∧ sizedMet enc Tryz.prog Tryz.f4 (OpenSpec.ofChange Rows.spanHasSpec) false w args)
      (Rows.spanHasSpec.post enc Tryz.prog Tryz.f4 false true false false) := by
  refine returns_both (C := Tryz.checked) (X := fun w _ => laidMetH Tryz.prog Rows.spanHasRow.laid w) (fun _ _ _ hh h => h.of_heap hh) Tryz.own started (by kernel_rfl) Tryz.func4
    (ChangeSpec.witness_shaped (enc := enc) (C := Tryz.checked) (os := os) (X := fun w _ => laidMetH Tryz.prog Rows.spanHasRow.laid w) false (World.laidAll Tryz.prog os Rows.spanHasRow.laid) #[.slice none 0 0, .slice none 0 0, .agg #[.int .i64 0, .int .i64 0, .int .i64 0]] 8 (World.laidAll_os _ _ _)
      (World.shaped_of_ZipB (by kernel_rfl) (by kernel_rfl)) (by kernel_rfl) (by kernel_rfl) (by kernel_rfl)
      (by rw [MakeChecks.laidMetH_plain _ _ _ (by kernel_rfl)]; exact laidMet_laidAll _ (by kernel_rfl) (by kernel_rfl))) ?_
  intro W base args ds gs before hval0 hW _ hsz hL hsh _
  have hval : ∀ (j : Nat) t v, Tryz.f4.params[j]? = some t → args[j]? = some v → Value.okWide Tryz.prog W .any base t v := hval0
  have hW' := hW
  obtain ⟨p, q, hA0, hV, rfl, _, _⟩ := hW
  have hA : DataW.TrodAll enc Tryz.prog W 0 (fun _ => true) true Tryz.f4.params.toList args.toList ds p := hA0
  have hsz1 : (DataW.weightsEach Tryz.prog (Tryz.f4.params.toList ++ Rows.spanHasSpec.plain.varTypes Tryz.prog) (ds ++ gs)).all (· ≤ reachBytes) = true := hsz
  rw [Tryz.params4] at hA hval hsz1
  obtain ⟨v0, v1, v2, d0, d1, d2, p0, p1, p2, rfl, rfl, rfl, h0, h1, h2⟩ := trodAll_three hA
  obtain ⟨rfl, rfl⟩ := trodVars_none hV
  obtain ⟨l0, kb0, ko0, hn0⟩ := open_gaps (hval 0 23 v0 rfl rfl) h0 (fun m hm => of_decide_eq_true (List.all_eq_true.1 hsz1 m (DataW.weights_mem_each (j := 0) (t := 23) (d := d0) rfl rfl m hm)))
  obtain ⟨l1, kb1, ko1, hn1⟩ := open_gaps (hval 1 23 v1 rfl rfl) h1 (fun m hm => of_decide_eq_true (List.all_eq_true.1 hsz1 m (DataW.weights_mem_each (j := 1) (t := 23) (d := d1) rfl rfl m hm)))
  obtain ⟨x2, y2, z2, rfl, wx2, wy2, wz2⟩ := open_version (hval 2 31 v2 rfl rfl) h2
  simp only [List.append_nil] at hW'
  rw [MakeChecks.laidMetH_plain _ _ _ (by kernel_rfl)] at hL
  have hpw : Pw W.heap.size W := pw_of hL hsh
  clear hA0 hval0
  refine (spanHas_all l0 _ kb0 ko0 l1 _ kb1 ko1 x2 y2 z2 W hn0 hn1 wx2 wy2 wz2 hpw).mono fun e W' ⟨he, hb⟩ => ?_
  subst he
  exact ⟨_, rfl, _, _, _, [], _, [], hW', trodAll_mk1 (shut_bool Tryz.underlying4 _), (trodAll_cons_mk (gaps_stay h0 hb.below) (trodAll_cons_mk (gaps_stay h1 hb.below) (trodAll_cons_mk (version_stays h2 hb.below) trodAll_mk0))), rfl, hb.below.frame _, fun h => by cases h⟩
theorem spanHas_holds : Rows.SpanHasSaid :=
  OpenClaim.holds_of_wide 4 Tryz.f4 rfl rfl rfl rfl rfl rfl rfl ⟨rfl, rfl, rfl, rfl, rfl⟩ rfl rfl rfl rfl rfl (by kernel_rfl) Tryz.func4 (by kernel_rfl)
    (of_decide_eq_true (by kernel_rfl)) (by unfold Func.isWrapper; first | (rw [if_pos (by decide +kernel)]; kernel_rfl) | (rw [if_neg (by decide +kernel)]; exact ⟨rfl, rfl⟩))
    (fun os started H enc _ => spanHas_lifted os started H enc)
theorem spanHas_card : Rows.SpanHasCardSaid :=
  Claim7.holds_tied_plain_at .later [] [.data, .data, .data, .data, .sentinel, .sentinel, .pinned] true (true, "08b08e35c6dc5aaa2b28500e9004efc212e1807fe65932fcd6fc137e44494a1d") true spanHas_holds (fun _ h => by cases h) (by kernel_rfl) (fun _ h => by cases h) spanHas_row_tie rfl ⟨rfl, rfl⟩ (by kernel_rfl) rfl
    (fun f fn hf hfn => by
      obtain rfl : f = 4 := Option.some.inj ((show Tryz.prog.funcNamed "sapling/saplinglaw07.SpanHas" = some 4 by kernel_rfl).symm.trans hf) |>.symm
      obtain rfl : fn = Tryz.f4 := (Option.some.inj (Tryz.func4.symm.trans hfn)).symm
      exact ⟨by kernel_rfl, fun j t ht => by
        rw [Tryz.params4] at ht
        have hm : t ∈ [23, 23, 31] := by simpa using Array.mem_of_getElem? ht
        have hall : ([23, 23, 31].all fun u => !Tryz.prog.wantsStandIn u) = true := by kernel_rfl
        exact (show Tryz.prog.wantsStandIn t = false by simpa using List.all_eq_true.1 hall t hm)⟩)
    (by kernel_rfl)
#print axioms spanHas_card
end Go.Proofs.YtaijhebjjbcdfaaGreatDoor
