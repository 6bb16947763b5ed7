/- How much a node has; how tall it is: the statements' own bound. Condition: none beyond the lengths' reach. -/
import Derived.Test.YtodcbagjmbdafaaDoorNdMem
import Derived.WalkSpells
namespace Go.Proofs.YtodcbagjmbdafaaDoor
set_option linter.unusedVariables false
open Go.ChangeShapes Go.WideShapes Go.ChangeAt Go.RowKit
mutual
def cntN : Nd → Int → Int
  | .mk _ a ks, l => cntL ks (l - 1 - (a.size : Int))
def cntL : List Nd → Int → Int
  | [], l => l
  | k :: r, l => if l < 0 then l else cntL r (cntN k l)
end
theorem cntL_neg (ks : List Nd) (l : Int) (h : l < 0) : cntL ks l = l := by
  cases ks with
  | nil => rfl
  | cons k r => rw [cntL, if_pos h]
mutual
theorem cntN_bound (n : Nd) (l : Int) (h0 : 0 ≤ l) (ha : ∀ m : Nat, True) : cntN n l ≤ l - 1 := by
  obtain ⟨x, a, ks⟩ := n
  rw [cntN]
  have := cntL_bound ks (l - 1 - (a.size : Int))
  omega
theorem cntL_bound (ks : List Nd) (l : Int) : cntL ks l ≤ l := by
  match ks with
  | [] => rw [cntL]; exact Int.le_refl _
  | k :: r =>
    rw [cntL]
    by_cases h : l < 0
    · rw [if_pos h]; exact Int.le_refl _
    · rw [if_neg h]
      have h1 := cntN_bound k l (by omega) (fun _ => trivial)
      have h2 := cntL_bound r (cntN k l)
      omega
end
theorem drop_get (ks : List Nd) (k : Nat) (h : k < ks.length) : ks.drop k = ks[k] :: ks.drop (k + 1) := List.drop_eq_getElem_cons h
set_option maxHeartbeats 1000000 in
theorem count_any (N : Nat) : ∀ (n : Nd), n.count ≤ N → ∀ (S : Nat → Prop) (v : Value) (l : Int) (w : World), NdV w S v n → 0 ≤ l → l ≤ 131072 →
    Calls Tryd.prog 25 #[v, .int .i64 l] w fun e w' => e = .returned (.int .i64 (cntN n l)) ∧ Chg NoB w w' := by
  induction N with
  | zero => intro n hn; have := n.count_pos; omega
  | succ N ih =>
    intro n hn S v l w hv h0 h1
    have IH := Lib.hid ih
    clear ih
    obtain ⟨lf, at', ks⟩ := n
    obtain ⟨ha, s, kb, ko, rfl, hs⟩ := hv
    obtain ⟨⟨q, c, hsq, hkc, hcm, hqq⟩, hk⟩ := hs
    simp only [Nd.leaf, Nd.atom, Nd.kids] at *
    subst hsq
    have Hk := Lib.hid hk
    have Hq := Lib.hid hqq
    have Hn := Lib.hid hn
    unfold maxLen at ha hcm
    clear hk hqq hn
    go_enter Tryd.func25, Tryd.ntmps25
    go_wp2_with fail
    have hal : Chg NoB w (w.alloc (.cells #[.bool lf, .string at', .slice q ks.length c] 24)) := (Chg.refl _ w).alloc _
    have hrow := heap_alloc_new w (.cells #[.bool lf, .string at', .slice q ks.length c] 24)
    have f2 : (w.alloc (.cells #[.bool lf, .string at', .slice q ks.length c] 24)).cell? ⟨w.heap.size, 2, none⟩ = some (.slice q ks.length c) := by
      rw [cell_of_row _ w.heap.size 2 _ 24 (0, 0) hrow]; rfl
    clear hrow
    generalize w.alloc (.cells #[.bool lf, .string at', .slice q ks.length c] 24) = w1 at *
    generalize w.heap.size = g at *
    have Hal := Lib.hid hal
    have F2 := Lib.hid f2
    obtain ⟨x0, hx0⟩ : ∃ x0 : Int, x0 = l - 1 - (at'.size : Int) := ⟨_, rfl⟩
    have Hx0 := Lib.hid hx0
    have hx0b : x0 ≤ 131072 := by omega
    clear hal f2
    rw [← hx0]
    clear hx0
    go_loopw [1, 5] (fun lv i wr => ∃ (k : Nat) (x : Int), k ≤ ks.length ∧ i = .int .i64 k ∧ lv = .int .i64 x ∧ x ≤ 131072 ∧ cntL (ks.drop k) x = cntL ks x0 ∧ Chg NoB w1 wr) (fun _ i _ => ks.length - (intOf i).toNat)
    case atStart => exact ⟨0, x0, Nat.zero_le _, rfl, rfl, hx0b, rfl, Chg.refl _ _⟩
    case round =>
      obtain ⟨k, x, hk, rfl, rfl, hxb, hinv, hc⟩ := hrel
      have f2 := hc.keep F2.out
      have Hc := Lib.hid hc
      have Hinv := Lib.hid hinv
      clear hc hinv
      by_cases hlt : k < ks.length
      · by_cases hx : x < 0
        · go_wp2_with fail
          go_ret
          refine ⟨?_, Hal.out.trans Hc.out⟩
          have h1 := Hinv.out
          rw [cntL_neg _ _ hx] at h1
          rw [cntN, ← Hx0.out, ← h1]; rfl
        · obtain ⟨_, hca, s', kb', ko', c0, c1, c2, hs'⟩ := (Hk.out k hlt).cells
          obtain ⟨⟨q', c', hsq', h5, h6, h7⟩, h8⟩ := hs'
          subst hsq'
          have hw := Hal.out.trans Hc.out
          have c0' := hw.keep c0
          have c1' := hw.keep c1
          have c2' := hw.keep c2
          have hqe := Hq.out (by intro e; rw [e] at hlt; simp at hlt)
          subst hqe
          have hv : NdV w S (.agg #[.bool ks[k].leaf, .string ks[k].atom, .slice q' ks[k].kids.length c']) ks[k] := ⟨hca, _, kb', ko', rfl, ⟨⟨q', c', rfl, h5, h6, h7⟩, h8⟩⟩
          have Hv := Lib.hid (hv.keep hw fun _ _ => id)
          have hcnt : ks[k].count ≤ N := by
            have h1 := Nd.counts_get ks k hlt
            have h2 := Hn.out
            rw [Nd.count] at h2
            omega
          have Hcnt := Lib.hid hcnt
          have hstep : cntL (ks.drop (k + 1)) (cntN ks[k] x) = cntL ks x0 := by
            rw [← Hinv.out, drop_get ks k hlt, cntL, if_neg hx]
          have hbd := cntN_bound ks[k] x (by omega) (fun _ => trivial)
          have Hstep := Lib.hid hstep
          have Hbd := Lib.hid hbd
          clear c0 c1 c2 hw hv hcnt hstep hbd h5 h6 h7 h8 hca
          generalize ks[k] = kd at *
          go_wp2_with fail
          refine (IH.out kd Hcnt.out S _ x _ Hv.out (by omega) hxb).mono ?_
          rintro e w5 ⟨rfl, hc5⟩
          have Hc5 := Lib.hid hc5
          clear hc5
          go_wp2_with fail
          go_roundw
          case rel => exact ⟨k + 1, cntN kd x, by omega, by go_num, rfl, by have := Hbd.out; omega, Hstep.out, Hc.out.trans Hc5.out⟩
          case measure => simp [intOf]; omega
      · obtain rfl : k = ks.length := by omega
        go_wp2_with fail
        go_ret
        refine ⟨?_, Hal.out.trans Hc.out⟩
        have h1 := Hinv.out
        rw [List.drop_length, cntL] at h1
        rw [cntN, ← Hx0.out, ← h1]; rfl
/- tall -/
mutual
def talN : Nd → Nat → Bool
  | .mk _ _ ks, d => match d with
    | 0 => true
    | e + 1 => talL ks e
def talL : List Nd → Nat → Bool
  | [], _ => false
  | k :: r, e => talN k e || talL r e
end
set_option maxHeartbeats 1000000 in
theorem tall_any (N : Nat) : ∀ (n : Nd), n.count ≤ N → ∀ (S : Nat → Prop) (v : Value) (d : Nat) (w : World), NdV w S v n → d ≤ 131072 →
    Calls Tryd.prog 26 #[v, .int .i64 d] w fun e w' => e = .returned (.bool (talN n d)) ∧ Chg NoB w w' := by
  induction N with
  | zero => intro n hn; have := n.count_pos; omega
  | succ N ih =>
    intro n hn S v d w hv h1
    have IH := Lib.hid ih
    clear ih
    obtain ⟨lf, at', ks⟩ := n
    obtain ⟨ha, s, kb, ko, rfl, hs⟩ := hv
    obtain ⟨⟨q, c, hsq, hkc, hcm, hqq⟩, hk⟩ := hs
    simp only [Nd.leaf, Nd.atom, Nd.kids] at *
    subst hsq
    have Hk := Lib.hid hk
    have Hq := Lib.hid hqq
    have Hn := Lib.hid hn
    unfold maxLen at hcm
    have hal : Chg NoB w (w.alloc (.cells #[.bool lf, .string at', .slice q ks.length c] 24)) := (Chg.refl _ w).alloc _
    have Hal := Lib.hid hal
    clear hk hqq hn hal ha
    cases d with
    | zero =>
      go_enter Tryd.func26, Tryd.ntmps26
      go_wp2_with fail
      go_ret
      exact ⟨rfl, Hal.out⟩
    | succ d =>
      obtain ⟨x, hx⟩ : ∃ x : Int, x = ((d + 1 : Nat) : Int) := ⟨_, rfl⟩
      rw [← hx]
      have hd1 : (x == 0) = false := by simp; omega
      have hd2 : x - 1 = (d : Int) := by omega
      have hd3 : 1 ≤ x := by omega
      have hd4 : x ≤ 131072 := by omega
      clear hx
      go_enter Tryd.func26, Tryd.ntmps26
      go_wp2_with fail
      generalize w.alloc (.cells #[.bool lf, .string at', .slice q ks.length c] 24) = w1 at *
      generalize w.heap.size = g at *
      go_loopw [6, 12] (fun p i wr => ∃ (k : Nat), k ≤ ks.length ∧ i = .int .i64 k ∧ talL (ks.drop k) d = talL ks d ∧ Chg NoB w1 wr) (fun _ i _ => ks.length - (intOf i).toNat)
      case atStart => exact ⟨0, Nat.zero_le _, rfl, rfl, Chg.refl _ _⟩
      case round =>
        obtain ⟨k, hk, rfl, hinv, hc⟩ := hrel
        have Hc := Lib.hid hc
        have Hinv := Lib.hid hinv
        clear hc hinv
        by_cases hlt : k < ks.length
        · obtain ⟨_, hca, s', kb', ko', c0, c1, c2, hs'⟩ := (Hk.out k hlt).cells
          obtain ⟨⟨q', c', hsq', h5, h6, h7⟩, h8⟩ := hs'
          subst hsq'
          have hw := Hal.out.trans Hc.out
          have c0' := hw.keep c0
          have c1' := hw.keep c1
          have c2' := hw.keep c2
          have hqe := Hq.out (by intro e; rw [e] at hlt; simp at hlt)
          subst hqe
          have hv : NdV w S (.agg #[.bool ks[k].leaf, .string ks[k].atom, .slice q' ks[k].kids.length c']) ks[k] := ⟨hca, _, kb', ko', rfl, ⟨⟨q', c', rfl, h5, h6, h7⟩, h8⟩⟩
          have Hv := Lib.hid ((hv.keep hw fun _ _ => id).keep ((Chg.refl NoB wr).alloc (.cells #[.bool ks[k].leaf, .string ks[k].atom, .slice q' ks[k].kids.length c'] 24)) fun _ _ => id)
          have Hal2 := Lib.hid ((Chg.refl NoB wr).alloc (.cells #[.bool ks[k].leaf, .string ks[k].atom, .slice q' ks[k].kids.length c'] 24))
          have hcnt : ks[k].count ≤ N := by
            have h1 := Nd.counts_get ks k hlt
            have h2 := Hn.out
            rw [Nd.count] at h2
            omega
          have Hcnt := Lib.hid hcnt
          have hstep : (talN ks[k] d || talL (ks.drop (k + 1)) d) = talL ks d := by
            rw [← Hinv.out, drop_get ks k hlt, talL]
          have Hstep := Lib.hid hstep
          clear c0 c1 c2 hw hv hcnt hstep h5 h6 h7 h8 hca
          generalize ks[k] = kd at *
          go_wp2_with fail
          refine (IH.out kd Hcnt.out S _ d _ Hv.out (by omega)).mono ?_
          rintro e w5 ⟨rfl, hc5⟩
          have Hc5 := Lib.hid (Hal2.out.trans hc5)
          clear hc5
          cases ht : talN kd d
          · go_wp2_with fail
            go_roundw
            case rel => exact ⟨k + 1, by omega, by go_num, by have h := Hstep.out; rw [ht, Bool.false_or] at h; exact h, Hc.out.trans Hc5.out⟩
            case measure => simp [intOf]; omega
          · have hres : talL ks d = true := by have h := Hstep.out; rw [ht, Bool.true_or] at h; exact h.symm
            have Hres := Lib.hid hres
            clear hres
            go_wp2_with fail
            go_ret
            exact ⟨by rw [talN, Hres.out]; rfl, Hal.out.trans (Hc.out.trans Hc5.out)⟩
        · obtain rfl : k = ks.length := by omega
          have hres : talL ks d = false := by have h := Hinv.out; rw [List.drop_length, talL] at h; exact h.symm
          have Hres := Lib.hid hres
          clear hres
          go_wp2_with fail
          go_ret
          exact ⟨by rw [talN, Hres.out]; rfl, Hal.out.trans Hc.out⟩
end Go.Proofs.YtodcbagjmbdafaaDoor
