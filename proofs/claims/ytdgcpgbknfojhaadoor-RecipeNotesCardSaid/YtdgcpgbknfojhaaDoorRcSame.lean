/- The contract of the document's Same. Condition: at most 2^20 parts. -/
import Derived.Test.YtdgcpgbknfojhaaDoorRcGoodM
import Derived.Test.YtdgcpgbknfojhaaDoorRcExpr
import Derived.StillTailTactics

namespace Go.Proofs.YtdgcpgbknfojhaaDoor
set_option linter.unusedVariables false
open Go.ChangeShapes Go.WideShapes Go.ChangeAt Go.RowKit
mutual
def sameE : ExL → ExL → Bool
  | .mk l a ks, .mk l' a' ks' => (l == l') && (a == a') && sameL ks ks'
def sameL : List ExL → List ExL → Bool
  | [], [] => true
  | k :: r, k' :: r' => sameE k k' && sameL r r'
  | _, _ => false
end
mutual
theorem sameE_iff (n m : ExL) : sameE n m = true ↔ n = m := by
  obtain ⟨l, a, ks⟩ := n
  obtain ⟨l', a', ks'⟩ := m
  rw [sameE]
  simp only [Bool.and_eq_true, beq_iff_eq, sameL_iff ks ks', ExL.mk.injEq, and_assoc]
theorem sameL_iff (ks js : List ExL) : sameL ks js = true ↔ ks = js := by
  match ks, js with
  | [], [] => simp [sameL]
  | k :: r, k' :: r' => rw [sameL]; simp only [Bool.and_eq_true, sameE_iff k k', sameL_iff r r', List.cons.injEq]
  | [], _ :: _ => simp [sameL]
  | _ :: _, [] => simp [sameL]
end
theorem sameL_len {ks js : List ExL} (h : ks.length ≠ js.length) : sameL ks js = false := by
  cases hx : sameL ks js with
  | false => rfl
  | true => exact absurd (congrArg List.length ((sameL_iff ks js).1 hx)) h
theorem sameL_drop {ks js : List ExL} {k : Nat} (h1 : k < ks.length) (h2 : k < js.length) : sameL (ks.drop k) (js.drop k) = (sameE ks[k] js[k] && sameL (ks.drop (k + 1)) (js.drop (k + 1))) := by
  rw [List.drop_eq_getElem_cons h1, List.drop_eq_getElem_cons h2, sameL]
theorem ExL.nodes_pos (n : ExL) : 0 < n.nodes := by
  obtain ⟨l, a, ks⟩ := n
  rw [ExL.nodes]; omega
theorem ExL.nodes_get : ∀ (ks : List ExL) (i : Nat) (h : i < ks.length), (ks[i]).nodes ≤ ExL.nodesL ks
  | [], i, h => by simp at h
  | k :: r, 0, h => by rw [ExL.nodesL]; simp
  | k :: r, i + 1, h => by
    have := ExL.nodes_get r i (by simpa using h)
    rw [ExL.nodesL]
    simp only [List.getElem_cons_succ]
    omega
theorem ExL.len_nodes : ∀ (ks : List ExL), ks.length ≤ ExL.nodesL ks
  | [] => by simp
  | k :: r => by
    have := ExL.len_nodes r
    have := k.nodes_pos
    rw [ExL.nodesL]
    simp only [List.length_cons]
    omega
set_option maxHeartbeats 4000000 in
set_option maxRecDepth 20000 in
theorem same_any (N : Nat) : ∀ (n m : ExL), n.nodes ≤ N → N ≤ 1048576 → ∀ (S T : Nat → Prop) (v u : Value) (w : World), ExV w S v n → ExV w T u m →
    Calls Tryd.prog 34 #[v, u] w fun e w' => e = .returned (.bool (sameE n m)) ∧ Chg NoB w w' := by
  induction N with
  | zero => intro n m hn; have := n.nodes_pos; omega
  | succ N ih =>
    intro n m hn hN S T v u w hv hu
    have IH := Lib.hid ih
    clear ih
    obtain ⟨l, a, ks⟩ := n
    obtain ⟨l', a', js⟩ := m
    obtain ⟨ha, s, kb, ko, rfl, hs⟩ := hv
    obtain ⟨ha', s', kb', ko', rfl, hs'⟩ := hu
    obtain ⟨⟨q, c, hsq, hkc, hcm, hqq⟩, hk⟩ := hs
    obtain ⟨⟨q', c', hsq', hkc', hcm', hqq'⟩, hk'⟩ := hs'
    simp only [ExL.kind, ExL.s, ExL.kids] at *
    subst hsq hsq'
    rw [ExL.nodes] at hn
    have hkl := ExL.len_nodes ks
    have Hk := Lib.hid hk
    have Hq := Lib.hid hqq
    have Hk' := Lib.hid hk'
    have Hq' := Lib.hid hqq'
    have Hn := Lib.hid hn
    obtain ⟨la, hla⟩ : ∃ x, x = ks.length := ⟨_, rfl⟩
    obtain ⟨lb, hlb⟩ : ∃ x, x = js.length := ⟨_, rfl⟩
    have hlab : la ≤ 1048576 := by omega
    rw [← hla] at hkc ⊢
    rw [← hlb] at hkc' ⊢
    have Hla := Lib.hid hla
    have Hlb := Lib.hid hlb
    have hal := (Chg.refl NoB w).alloc (.cells #[.int .i64 l, .string (tx a), .slice q la c] 26)
    have hal2 := hal.alloc (.cells #[.int .i64 l', .string (tx a'), .slice q' lb c'] 26)
    have hblk := row_kept ((Chg.refl NoB (w.alloc (.cells #[.int .i64 l, .string (tx a), .slice q la c] 26))).alloc (.cells #[.int .i64 l', .string (tx a'), .slice q' lb c'] 26)) (heap_alloc_new w _) id
    have hblk2 := heap_alloc_new (w.alloc (.cells #[.int .i64 l, .string (tx a), .slice q la c] 26)) (.cells #[.int .i64 l', .string (tx a'), .slice q' lb c'] 26)
    rw [alloc_size] at hblk2
    obtain ⟨vb, hvb⟩ : ∃ vb, vb = w.heap.size := ⟨_, rfl⟩
    rw [← hvb] at hblk hblk2
    obtain ⟨v0, v1, v2⟩ := var3 hblk
    obtain ⟨u0, u1, u2⟩ := var3 hblk2
    have Hvb := Lib.hid hvb
    have Hal := Lib.hid hal2
    have Hb1 := Lib.hid hblk
    have Hb2 := Lib.hid hblk2
    clear hk hqq hk' hqq' hn hla hlb hal hal2 hblk hblk2 hvb hkl
    have en1 := txQ a
    have en2 := txQ a'
    by_cases hl : l = l'
    · by_cases hat : a = a'
      · by_cases hlen : la = lb
        · subst hl hat hlen
          have hres : sameE (.mk l a ks) (.mk l a js) = sameL ks js := by rw [sameE]; simp
          have Hres := Lib.hid hres
          clear hres
          unfold maxLen at hcm hcm'
          go_enter Tryd.func34, Tryd.ntmps34
          go_upto_region 1 with fail
          rw [← Hvb.out]
          generalize (w.alloc (.cells #[.int .i64 l, .string (tx a), .slice q la c] 26)).alloc (.cells #[.int .i64 l, .string (tx a), .slice q' la c'] 26) = w1 at *
          go_wp2_with fail
          clear v0 v1 u0 u1
          go_loopw [5, 30] (fun iv i wr => ∃ k : Nat, k ≤ la ∧ i = .int .i64 k ∧ sameL (ks.drop k) (js.drop k) = sameL ks js ∧ Chg NoB w1 wr) (fun _ i _ => la - (intOf i).toNat)
          case atStart => exact ⟨0, Nat.zero_le _, rfl, rfl, Chg.refl _ _⟩
          case round =>
            obtain ⟨k, hk, rfl, hinv, hch⟩ := hrel
            have Hch := Lib.hid hch
            have Hinv := Lib.hid hinv
            have v2' := hch.keep v2
            have u2' := hch.keep u2
            clear hch hinv
            by_cases hlt : k < la
            · have h1 : k < ks.length := by have := Hla.out; omega
              have h2 : k < js.length := by have := Hlb.out; omega
              have hw := Hal.out.trans Hch.out
              obtain ⟨_, hca, s1, kb1, ko1, c0, c1, c2, hs1⟩ := ((Hk.out k h1).keep hw fun _ _ => id).cells
              obtain ⟨_, hca2, s2, kb2, ko2, d0, d1, d2, hs2⟩ := ((Hk'.out k h2).keep hw fun _ _ => id).cells
              have hs1' := hs1
              have hs2' := hs2
              obtain ⟨⟨q1, cc1, rfl, _⟩, _⟩ := hs1
              obtain ⟨⟨q2, cc2, rfl, _⟩, _⟩ := hs2
              have hqe := Hq.out (by rintro rfl; simp at h1)
              have hqe' := Hq'.out (by rintro rfl; simp at h2)
              subst hqe hqe'
              have hcnt : ks[k].nodes ≤ N := by have := ExL.nodes_get ks k h1; have := Hn.out; omega
              have hV : ExV wr S (.agg #[.int .i64 ks[k].kind, .string (tx ks[k].s), .slice q1 ks[k].kids.length cc1]) ks[k] := ⟨hca, _, kb1, ko1, rfl, hs1'⟩
              have hU : ExV wr T (.agg #[.int .i64 js[k].kind, .string (tx js[k].s), .slice q2 js[k].kids.length cc2]) js[k] := ⟨hca2, _, kb2, ko2, rfl, hs2'⟩
              have Hcall := Lib.hid (IH.out ks[k] js[k] hcnt (by omega) S T _ _ wr.drew (hV.keep (Chg.drew (Chg.refl NoB _)) fun _ _ => id) (hU.keep (Chg.drew (Chg.refl NoB _)) fun _ _ => id))
              have hstep : (sameE ks[k] js[k] && sameL (ks.drop (k + 1)) (js.drop (k + 1))) = sameL ks js := by rw [← Hinv.out, sameL_drop h1 h2]
              have Hstep := Lib.hid hstep
              have hi0 : (0 : Int) ≤ (k : Int) := Int.natCast_nonneg _
              have hi1 : (k : Int) < (la : Int) := by omega
              clear hs1' hs2' hV hU hcnt hstep hca hca2 hw
              generalize ks[k] = kd at *
              generalize js[k] = jd at *
              go_upto_region 6 with fail
              go_still_tail 10, (by kernel_rfl)
              change wpList _ _ _ _ _ wr.drew
              have hdr : Chg NoB wr wr.drew := (Chg.refl NoB wr).drew
              have Hdr := Lib.hid hdr
              clear hdr
              generalize wr.drew = w2 at *
              go_wp2_with fail
              refine Hcall.out.mono ?_
              rintro e w5 ⟨rfl, hc5⟩
              have Hc5 := Lib.hid (Hch.out.trans (Hdr.out.trans hc5))
              clear hc5
              cases hb : sameE kd jd with
              | true =>
                rw [hb, Bool.true_and] at Hstep
                go_wp2_with fail
                go_roundw
                case rel => exact ⟨k + 1, by omega, by go_num, Hstep.out, Hc5.out⟩
                case measure => simp [intOf]; omega
              | false =>
                rw [hb, Bool.false_and] at Hstep
                go_wp2_with fail
                go_ret
                refine ⟨?_, Hal.out.trans Hc5.out⟩
                rw [Hres.out, ← Hstep.out]
                rfl
            · obtain rfl : k = la := by omega
              have hfin : sameL ks js = true := by
                have h1 := Hinv.out
                rw [List.drop_of_length_le (by have := Hla.out; omega), List.drop_of_length_le (by have := Hlb.out; omega), sameL] at h1
                exact h1.symm
              have Hfin := Lib.hid hfin
              clear hfin
              go_wp2_with fail
              go_ret
              refine ⟨?_, Hal.out.trans Hch.out⟩
              rw [Hres.out, Hfin.out]
              rfl
        · have hres : sameE (.mk l a ks) (.mk l' a' js) = false := by rw [sameE, sameL_len (by rw [← Hla.out, ← Hlb.out]; exact hlen)]; simp
          have Hres := Lib.hid hres
          subst hl hat
          have hlb' : ((la : Int) == (lb : Int)) = false := by rw [beq_eq_false_iff_ne]; omega
          clear hres
          go_enter Tryd.func34, Tryd.ntmps34
          go_upto_region 1 with fail
          rw [← Hvb.out]
          generalize (w.alloc (.cells #[.int .i64 l, .string (tx a), .slice q la c] 26)).alloc (.cells #[.int .i64 l, .string (tx a), .slice q' lb c'] 26) = w1 at *
          go_wp2_with fail
          go_ret
          refine ⟨?_, Hal.out⟩
          rw [Hres.out]
          rfl
      · have hx : (a == a') = false := by rw [beq_eq_false_iff_ne]; exact hat
        have hres : sameE (.mk l a ks) (.mk l' a' js) = false := by rw [sameE, hx]; simp
        have Hres := Lib.hid hres
        subst hl
        clear hres
        go_enter Tryd.func34, Tryd.ntmps34
        go_upto_region 1 with fail
        rw [← Hvb.out]
        generalize (w.alloc (.cells #[.int .i64 l, .string (tx a), .slice q la c] 26)).alloc (.cells #[.int .i64 l, .string (tx a'), .slice q' lb c'] 26) = w1 at *
        go_wp2_with fail
        go_ret
        refine ⟨?_, Hal.out⟩
        rw [Hres.out]
        rfl
    · have hres : sameE (.mk l a ks) (.mk l' a' js) = false := by rw [sameE]; simp [hl]
      have Hres := Lib.hid hres
      clear hres
      have hx : (l == l') = false := by rw [beq_eq_false_iff_ne]; exact hl
      go_enter Tryd.func34, Tryd.ntmps34
      go_upto_region 1 with fail
      rw [← Hvb.out]
      generalize (w.alloc (.cells #[.int .i64 l, .string (tx a), .slice q la c] 26)).alloc (.cells #[.int .i64 l', .string (tx a'), .slice q' lb c'] 26) = w1 at *
      go_wp2_with fail
      go_ret
      refine ⟨?_, Hal.out⟩
      rw [Hres.out]
      rfl
end Go.Proofs.YtdgcpgbknfojhaaDoor
