/- The contract of the document's SameSource. Condition: at most 2^20 parts in each expression. -/
import Derived.Test.YtdgcpgbknfojhaaDoorRcSame
import Derived.Test.YtdgcpgbknfojhaaDoorRcFld
import Derived.Test.YtdgcpgbknfojhaaDoorRcSrc

namespace Go.Proofs.YtdgcpgbknfojhaaDoor
set_option linter.unusedVariables false
open Go.ChangeShapes Go.WideShapes Go.ChangeAt Go.RowKit
def sameFl (f g : FldL) : Bool := (f.kind == g.kind) && sameE f.name g.name && sameE f.range g.range
def sameFs : List FldL → List FldL → Bool
  | [], [] => true
  | k :: r, k' :: r' => sameFl k k' && sameFs r r'
  | _, _ => false
def sameR (r s : RcpL) : Bool := sameE r.name s.name && sameE r.version s.version && sameFs r.fields s.fields
theorem sameFl_iff (f g : FldL) : sameFl f g = true ↔ f = g := by
  obtain ⟨a, b, c⟩ := f
  obtain ⟨a', b', c'⟩ := g
  unfold sameFl
  simp only [Bool.and_eq_true, beq_iff_eq, sameE_iff, FldL.mk.injEq, and_assoc]
theorem sameFs_iff : ∀ (ks js : List FldL), sameFs ks js = true ↔ ks = js
  | [], [] => by simp [sameFs]
  | k :: r, k' :: r' => by rw [sameFs]; simp only [Bool.and_eq_true, sameFl_iff k k', sameFs_iff r r', List.cons.injEq]
  | [], _ :: _ => by simp [sameFs]
  | _ :: _, [] => by simp [sameFs]
theorem sameR_iff (r s : RcpL) : sameR r s = true ↔ r = s := by
  obtain ⟨a, b, c⟩ := r
  obtain ⟨a', b', c'⟩ := s
  unfold sameR
  simp only [Bool.and_eq_true, sameE_iff, sameFs_iff, RcpL.mk.injEq, and_assoc]
theorem sameFs_len {ks js : List FldL} (h : ks.length ≠ js.length) : sameFs ks js = false := by
  cases hx : sameFs ks js with
  | false => rfl
  | true => exact absurd (congrArg List.length ((sameFs_iff ks js).1 hx)) h
theorem sameFs_drop {ks js : List FldL} {k : Nat} (h1 : k < ks.length) (h2 : k < js.length) : sameFs (ks.drop k) (js.drop k) = (sameFl ks[k] js[k] && sameFs (ks.drop (k + 1)) (js.drop (k + 1))) := by
  rw [List.drop_eq_getElem_cons h1, List.drop_eq_getElem_cons h2, sameFs]
def SmallE (x : ExL) : Prop := x.nodes ≤ 1048576
def SmallR (r : RcpL) : Prop := SmallE r.name ∧ SmallE r.version ∧ (∀ f ∈ r.fields, SmallE f.name ∧ SmallE f.range) ∧ r.fields.length ≤ 1048576
set_option maxHeartbeats 4000000 in
set_option maxRecDepth 20000 in
theorem sameR_any {r s : RcpL} {S T : Nat → Prop} {v u : Value} {w : World} (hr : SmallR r) (hv : SrcV w S v r) (hu : SrcV w T u s) :
    Calls Tryd.prog 14 #[v, u] w fun e w' => e = .returned (.bool (sameR r s)) ∧ Chg NoB w w' := by
  obtain ⟨d, h, f, kb, ko, kb2, ko2, fb, fo, rfl, ⟨hl1, hs1⟩, ⟨hl2, hs2⟩, hf⟩ := hv
  obtain ⟨d', h', f', kb', ko', kb2', ko2', fb', fo', rfl, ⟨hl1', hs1'⟩, ⟨hl2', hs2'⟩, hf'⟩ := hu
  have V1 := Lib.hid (show ExV w S (.agg #[.int .i64 r.name.kind, .string (tx r.name.s), d]) r.name from ⟨hl1, d, kb, ko, rfl, hs1⟩)
  have V2 := Lib.hid (show ExV w S (.agg #[.int .i64 r.version.kind, .string (tx r.version.s), h]) r.version from ⟨hl2, h, kb2, ko2, rfl, hs2⟩)
  have U1 := Lib.hid (show ExV w T (.agg #[.int .i64 s.name.kind, .string (tx s.name.s), d']) s.name from ⟨hl1', d', kb', ko', rfl, hs1'⟩)
  have U2 := Lib.hid (show ExV w T (.agg #[.int .i64 s.version.kind, .string (tx s.version.s), h']) s.version from ⟨hl2', h', kb2', ko2', rfl, hs2'⟩)
  obtain ⟨⟨q, c, rfl, hkc, hcm, hqq⟩, hk⟩ := hf
  obtain ⟨⟨q', c', rfl, hkc', hcm', hqq'⟩, hk'⟩ := hf'
  obtain ⟨b1, b2, b3, b4⟩ := hr
  have HC1 := Lib.hid (fun W (hc : Chg NoB w W) => same_any 1048576 r.name s.name b1 (Nat.le_refl _) S T _ _ W (V1.out.keep hc fun _ _ => id) (U1.out.keep hc fun _ _ => id))
  have HC2 := Lib.hid (fun W (hc : Chg NoB w W) => same_any 1048576 r.version s.version b2 (Nat.le_refl _) S T _ _ W (V2.out.keep hc fun _ _ => id) (U2.out.keep hc fun _ _ => id))
  obtain ⟨qd, cd, rfl, -⟩ := hs1.sh
  obtain ⟨qh, ch, rfl, -⟩ := hs2.sh
  obtain ⟨qd', cd', rfl, -⟩ := hs1'.sh
  obtain ⟨qh', ch', rfl, -⟩ := hs2'.sh
  have B3 := Lib.hid b3
  have Hk := Lib.hid hk
  have Hq := Lib.hid hqq
  have Hk' := Lib.hid hk'
  have Hq' := Lib.hid hqq'
  obtain ⟨la, hla⟩ : ∃ x, x = r.fields.length := ⟨_, rfl⟩
  obtain ⟨lb, hlb⟩ : ∃ x, x = s.fields.length := ⟨_, rfl⟩
  rw [← hla] at hkc b4 ⊢
  rw [← hlb] at hkc' ⊢
  have Hla := Lib.hid hla
  have Hlb := Lib.hid hlb
  obtain ⟨X, hX⟩ : ∃ X, X = sameR r s := ⟨_, rfl⟩
  rw [← hX]
  have HX := Lib.hid (hX.trans (show sameR r s = (sameE r.name s.name && sameE r.version s.version && sameFs r.fields s.fields) from rfl))
  clear hX
  have hal_ := (Chg.refl NoB w).alloc (.cells #[.int .i64 r.name.kind, .string (tx r.name.s), .slice qd r.name.kids.length cd, .int .i64 r.version.kind, .string (tx r.version.s), .slice qh r.version.kids.length ch, .slice q la c] 29)
  have hb_ := heap_alloc_new w (.cells #[.int .i64 r.name.kind, .string (tx r.name.s), .slice qd r.name.kids.length cd, .int .i64 r.version.kind, .string (tx r.version.s), .slice qh r.version.kids.length ch, .slice q la c] 29)
  obtain ⟨e2, hxb_⟩ : ∃ b, b = w.heap.size := ⟨_, rfl⟩
  obtain ⟨w1, hw_⟩ : ∃ w_, w.alloc (.cells #[.int .i64 r.name.kind, .string (tx r.name.s), .slice qd r.name.kids.length cd, .int .i64 r.version.kind, .string (tx r.version.s), .slice qh r.version.kids.length ch, .slice q la c] 29) = w_ := ⟨_, rfl⟩
  have hz_ : w1.heap.size = e2 + 1 := by rw [← hw_, hxb_]; exact alloc_size _ _
  rw [hw_] at hal_ hb_
  rw [← hxb_] at hb_
  have Hw2 := Lib.hid hw_
  have Hx2 := Lib.hid hxb_
  have Ha2 := Lib.hid hal_
  have Hb2 := Lib.hid hb_
  have Hz2 := Lib.hid hz_
  clear hal_ hb_ hxb_ hw_ hz_
  have hal_ := (Chg.refl NoB w1).alloc (.cells #[.int .i64 s.name.kind, .string (tx s.name.s), .slice qd' s.name.kids.length cd', .int .i64 s.version.kind, .string (tx s.version.s), .slice qh' s.version.kids.length ch', .slice q' lb c'] 29)
  have hb_ := heap_alloc_new w1 (.cells #[.int .i64 s.name.kind, .string (tx s.name.s), .slice qd' s.name.kids.length cd', .int .i64 s.version.kind, .string (tx s.version.s), .slice qh' s.version.kids.length ch', .slice q' lb c'] 29)
  obtain ⟨e3, hxb_⟩ : ∃ b, b = w1.heap.size := ⟨_, rfl⟩
  obtain ⟨w2, hw_⟩ : ∃ w_, w1.alloc (.cells #[.int .i64 s.name.kind, .string (tx s.name.s), .slice qd' s.name.kids.length cd', .int .i64 s.version.kind, .string (tx s.version.s), .slice qh' s.version.kids.length ch', .slice q' lb c'] 29) = w_ := ⟨_, rfl⟩
  have hz_ : w2.heap.size = e3 + 1 := by rw [← hw_, hxb_]; exact alloc_size _ _
  rw [hw_] at hal_ hb_
  rw [← hxb_] at hb_
  have Hw3 := Lib.hid hw_
  have Hx3 := Lib.hid hxb_
  have Ha3 := Lib.hid hal_
  have Hb3 := Lib.hid hb_
  have Hz3 := Lib.hid hz_
  clear hal_ hb_ hxb_ hw_ hz_
  have he3 : e3 = e2 + 1 := by rw [Hx3.out, Hz2.out]
  obtain ⟨v0, v1, v2, v3, v4, v5, v6⟩ := var7 (row_kept Ha3.out Hb2.out id)
  obtain ⟨u0, u1, u2, u3, u4, u5, u6⟩ := var7 Hb3.out
  have Hal := Lib.hid (Ha2.out.trans Ha3.out)
  have HD1 := Lib.hid (HC1.out w2 Hal.out)
  clear hk hqq hk' hqq' hla hlb hs1 hs2 hs1' hs2' V1 V2 U1 U2 b1 b2 b3 HC1
  go_enter Tryd.func14, Tryd.ntmps14
  go_upto_region 1 with fail
  rw [Hw2.out, ← Hx2.out, ← he3, Hw3.out]
  clear he3
  cases h1 : sameE r.name s.name with
  | false =>
    rw [h1] at HD1 HX
    go_wp2_with fail
    refine HD1.out.mono ?_
    rintro e w3 ⟨rfl, hc3⟩
    have Hc3 := Lib.hid (Hal.out.trans hc3)
    clear hc3
    go_wp2_with fail
    go_ret
    exact ⟨by rw [HX.out]; rfl, Hc3.out⟩
  | true =>
    rw [h1] at HD1 HX
    rw [Bool.true_and] at HX
    go_wp2_with fail
    refine HD1.out.mono ?_
    rintro e w3 ⟨rfl, hc3⟩
    have Hc3 := Lib.hid (Hal.out.trans hc3)
    obtain ⟨v0, v1, v2, v3, v4, v5, v6⟩ := And.intro (hc3.keep v0) (And.intro (hc3.keep v1) (And.intro (hc3.keep v2) (And.intro (hc3.keep v3) (And.intro (hc3.keep v4) (And.intro (hc3.keep v5) (hc3.keep v6))))))
    obtain ⟨u0, u1, u2, u3, u4, u5, u6⟩ := And.intro (hc3.keep u0) (And.intro (hc3.keep u1) (And.intro (hc3.keep u2) (And.intro (hc3.keep u3) (And.intro (hc3.keep u4) (And.intro (hc3.keep u5) (hc3.keep u6))))))
    have HD2 := Lib.hid (HC2.out w3 Hc3.out)
    clear hc3 HD1 HC2
    cases h2 : sameE r.version s.version with
    | false =>
      rw [h2] at HD2 HX
      go_wp2_with fail
      refine HD2.out.mono ?_
      rintro e w4 ⟨rfl, hc4⟩
      have Hc4 := Lib.hid (Hc3.out.trans hc4)
      clear hc4
      go_wp2_with fail
      go_ret
      exact ⟨by rw [HX.out]; rfl, Hc4.out⟩
    | true =>
      rw [h2] at HD2 HX
      rw [Bool.true_and] at HX
      go_wp2_with fail
      refine HD2.out.mono ?_
      rintro e w4 ⟨rfl, hc4⟩
      have Hc4 := Lib.hid (Hc3.out.trans hc4)
      have v6' := hc4.keep v6
      have u6' := hc4.keep u6
      clear hc4 v0 v1 v2 v3 v4 v5 v6 u0 u1 u2 u3 u4 u5 u6 h1 h2 HD2
      by_cases hlen : la = lb
      · subst hlen
        have hab : ((la : Int) != (la : Int)) = false := by simp
        unfold maxLen at hcm hcm'
        go_wp2_with fail
        go_loopw [5, 34] (fun iv i wr => ∃ k : Nat, k ≤ la ∧ i = .int .i64 k ∧ sameFs (r.fields.drop k) (s.fields.drop k) = X ∧ Chg NoB w4 wr) (fun _ i _ => la - (intOf i).toNat)
        case atStart => exact ⟨0, Nat.zero_le _, rfl, HX.out.symm, Chg.refl _ _⟩
        case round =>
          obtain ⟨k, hk, rfl, hinv, hch⟩ := hrel
          have Hch := Lib.hid hch
          have Hinv := Lib.hid hinv
          have v6 := hch.keep v6'
          have u6 := hch.keep u6'
          clear hch hinv
          by_cases hlt : k < la
          · have h1 : k < r.fields.length := by have := Hla.out; omega
            have h2 : k < s.fields.length := by have := Hlb.out; omega
            have hw := Hc4.out.trans Hch.out
            obtain ⟨_, hk0, hkn, hkr⟩ := (Hk.out k h1).keep hw fun _ _ => id
            obtain ⟨_, hj0, hjn, hjr⟩ := (Hk'.out k h2).keep hw fun _ _ => id
            obtain ⟨_, z1, s1, ka, kb, c1, c2, c3, t1⟩ := hkn.cells
            obtain ⟨_, z2, s2, kc, kd, c4, c5, c6, t2⟩ := hkr.cells
            obtain ⟨_, z3, s3, ke, kg, d1, d2, d3, t3⟩ := hjn.cells
            obtain ⟨_, z4, s4, kh, ki, d4, d5, d6, t4⟩ := hjr.cells
            have hqe := Hq.out (by intro e; rw [e] at h1; simp at h1)
            have hqe' := Hq'.out (by intro e; rw [e] at h2; simp at h2)
            subst hqe hqe'
            have t1' := t1
            have t2' := t2
            have t3' := t3
            have t4' := t4
            obtain ⟨⟨q1, cc1, rfl, _⟩, _⟩ := t1
            obtain ⟨⟨q2, cc2, rfl, _⟩, _⟩ := t2
            obtain ⟨⟨q3, cc3, rfl, _⟩, _⟩ := t3
            obtain ⟨⟨q4, cc4, rfl, _⟩, _⟩ := t4
            have hsm := B3.out r.fields[k] (List.getElem_mem h1)
            have HN := Lib.hid (fun W (hc : Chg NoB wr W) => same_any 1048576 r.fields[k].name s.fields[k].name hsm.1 (Nat.le_refl _) S T _ _ W ((show ExV wr S (.agg #[.int .i64 r.fields[k].name.kind, .string (tx r.fields[k].name.s), .slice q1 r.fields[k].name.kids.length cc1]) r.fields[k].name from ⟨z1, _, ka, kb, rfl, t1'⟩).keep hc fun _ _ => id) ((show ExV wr T (.agg #[.int .i64 s.fields[k].name.kind, .string (tx s.fields[k].name.s), .slice q3 s.fields[k].name.kids.length cc3]) s.fields[k].name from ⟨z3, _, ke, kg, rfl, t3'⟩).keep hc fun _ _ => id))
            have HR := Lib.hid (fun W (hc : Chg NoB wr W) => same_any 1048576 r.fields[k].range s.fields[k].range hsm.2 (Nat.le_refl _) S T _ _ W ((show ExV wr S (.agg #[.int .i64 r.fields[k].range.kind, .string (tx r.fields[k].range.s), .slice q2 r.fields[k].range.kids.length cc2]) r.fields[k].range from ⟨z2, _, kc, kd, rfl, t2'⟩).keep hc fun _ _ => id) ((show ExV wr T (.agg #[.int .i64 s.fields[k].range.kind, .string (tx s.fields[k].range.s), .slice q4 s.fields[k].range.kids.length cc4]) s.fields[k].range from ⟨z4, _, kh, ki, rfl, t4'⟩).keep hc fun _ _ => id))
            have Hstep := Lib.hid (show (((r.fields[k].kind == s.fields[k].kind) && sameE r.fields[k].name s.fields[k].name && sameE r.fields[k].range s.fields[k].range) && sameFs (r.fields.drop (k + 1)) (s.fields.drop (k + 1))) = X by rw [← Hinv.out, sameFs_drop h1 h2]; rfl)
            have hi0 : (0 : Int) ≤ (k : Int) := Int.natCast_nonneg _
            have hi1 : (k : Int) < (la : Int) := by omega
            clear t1' t2' t3' t4' hsm hw hkn hkr hjn hjr z1 z2 z3 z4
            generalize r.fields[k] = fr at *
            generalize s.fields[k] = fs at *
            have HP := Lib.hid (show ∀ w', Chg NoB wr w' → w'.cell? ⟨e2, 6, none⟩ = some (.slice (some ⟨fb, fo, none⟩) la c) ∧ w'.cell? ⟨e3, 6, none⟩ = some (.slice (some ⟨fb', fo', none⟩) la c') ∧ w'.cell? ⟨fb, fo + k * 7, none⟩ = some (.int .i64 fr.kind) ∧ w'.cell? ⟨fb, fo + k * 7 + 1, none⟩ = some (.int .i64 fr.name.kind) ∧ w'.cell? ⟨fb, fo + k * 7 + 1 + 1, none⟩ = some (.string (tx fr.name.s)) ∧ w'.cell? ⟨fb, fo + k * 7 + 1 + 2, none⟩ = some (.slice q1 fr.name.kids.length cc1) ∧ w'.cell? ⟨fb, fo + k * 7 + 4, none⟩ = some (.int .i64 fr.range.kind) ∧ w'.cell? ⟨fb, fo + k * 7 + 4 + 1, none⟩ = some (.string (tx fr.range.s)) ∧ w'.cell? ⟨fb, fo + k * 7 + 4 + 2, none⟩ = some (.slice q2 fr.range.kids.length cc2) ∧ w'.cell? ⟨fb', fo' + k * 7, none⟩ = some (.int .i64 fs.kind) ∧ w'.cell? ⟨fb', fo' + k * 7 + 1, none⟩ = some (.int .i64 fs.name.kind) ∧ w'.cell? ⟨fb', fo' + k * 7 + 1 + 1, none⟩ = some (.string (tx fs.name.s)) ∧ w'.cell? ⟨fb', fo' + k * 7 + 1 + 2, none⟩ = some (.slice q3 fs.name.kids.length cc3) ∧ w'.cell? ⟨fb', fo' + k * 7 + 4, none⟩ = some (.int .i64 fs.range.kind) ∧ w'.cell? ⟨fb', fo' + k * 7 + 4 + 1, none⟩ = some (.string (tx fs.range.s)) ∧ w'.cell? ⟨fb', fo' + k * 7 + 4 + 2, none⟩ = some (.slice q4 fs.range.kids.length cc4) from fun w' h => ⟨h.keep v6, h.keep u6, h.keep hk0, h.keep c1, h.keep c2, h.keep c3, h.keep c4, h.keep c5, h.keep c6, h.keep hj0, h.keep d1, h.keep d2, h.keep d3, h.keep d4, h.keep d5, h.keep d6⟩)
            go_upto_region 6 with fail
            go_region_held3 (fun w' => w'.cell? ⟨e2, 6, none⟩ = some (.slice (some ⟨fb, fo, none⟩) la c) ∧ w'.cell? ⟨e3, 6, none⟩ = some (.slice (some ⟨fb', fo', none⟩) la c') ∧ w'.cell? ⟨fb, fo + k * 7, none⟩ = some (.int .i64 fr.kind) ∧ w'.cell? ⟨fb, fo + k * 7 + 1, none⟩ = some (.int .i64 fr.name.kind) ∧ w'.cell? ⟨fb, fo + k * 7 + 1 + 1, none⟩ = some (.string (tx fr.name.s)) ∧ w'.cell? ⟨fb, fo + k * 7 + 1 + 2, none⟩ = some (.slice q1 fr.name.kids.length cc1) ∧ w'.cell? ⟨fb, fo + k * 7 + 4, none⟩ = some (.int .i64 fr.range.kind) ∧ w'.cell? ⟨fb, fo + k * 7 + 4 + 1, none⟩ = some (.string (tx fr.range.s)) ∧ w'.cell? ⟨fb, fo + k * 7 + 4 + 2, none⟩ = some (.slice q2 fr.range.kids.length cc2) ∧ w'.cell? ⟨fb', fo' + k * 7, none⟩ = some (.int .i64 fs.kind) ∧ w'.cell? ⟨fb', fo' + k * 7 + 1, none⟩ = some (.int .i64 fs.name.kind) ∧ w'.cell? ⟨fb', fo' + k * 7 + 1 + 1, none⟩ = some (.string (tx fs.name.s)) ∧ w'.cell? ⟨fb', fo' + k * 7 + 1 + 2, none⟩ = some (.slice q3 fs.name.kids.length cc3) ∧ w'.cell? ⟨fb', fo' + k * 7 + 4, none⟩ = some (.int .i64 fs.range.kind) ∧ w'.cell? ⟨fb', fo' + k * 7 + 4 + 1, none⟩ = some (.string (tx fs.range.s)) ∧ w'.cell? ⟨fb', fo' + k * 7 + 4 + 2, none⟩ = some (.slice q4 fs.range.kids.length cc4)) (first | (refine HP.out _ ?_; repeat (first | with_reducible exact Chg.refl NoB _ | refine Chg.drew ?_ | refine Chg.alloc ?_ _ | refine Chg.setCell ?_ (.inr ?_) _ | (dsimp only; omega)))) (fail)
            · skip
              go_simp
              have h1 := row_kept ((Chg.refl NoB _).alloc (.cells #[.int .i64 fs.kind, .int .i64 fs.name.kind, .string (tx fs.name.s), .slice q3 fs.name.kids.length cc3, .int .i64 fs.range.kind, .string (tx fs.range.s), .slice q4 fs.range.kids.length cc4] 47)).drew (heap_alloc_new wr (.cells #[.int .i64 fr.kind, .int .i64 fr.name.kind, .string (tx fr.name.s), .slice q1 fr.name.kids.length cc1, .int .i64 fr.range.kind, .string (tx fr.range.s), .slice q2 fr.range.kids.length cc2] 47)) id
              have h2 := row_kept (Chg.refl NoB _).drew (heap_alloc_new (wr.alloc (.cells #[.int .i64 fr.kind, .int .i64 fr.name.kind, .string (tx fr.name.s), .slice q1 fr.name.kids.length cc1, .int .i64 fr.range.kind, .string (tx fr.range.s), .slice q2 fr.range.kids.length cc2] 47)) (.cells #[.int .i64 fs.kind, .int .i64 fs.name.kind, .string (tx fs.name.s), .slice q3 fs.name.kids.length cc3, .int .i64 fs.range.kind, .string (tx fs.range.s), .slice q4 fs.range.kids.length cc4] 47)) id
              rw [alloc_size] at h2
              have hcW := (((Chg.refl NoB wr).alloc (.cells #[.int .i64 fr.kind, .int .i64 fr.name.kind, .string (tx fr.name.s), .slice q1 fr.name.kids.length cc1, .int .i64 fr.range.kind, .string (tx fr.range.s), .slice q2 fr.range.kids.length cc2] 47)).alloc (.cells #[.int .i64 fs.kind, .int .i64 fs.name.kind, .string (tx fs.name.s), .slice q3 fs.name.kids.length cc3, .int .i64 fs.range.kind, .string (tx fs.range.s), .slice q4 fs.range.kids.length cc4] 47)).drew
              generalize ((wr.alloc (.cells #[.int .i64 fr.kind, .int .i64 fr.name.kind, .string (tx fr.name.s), .slice q1 fr.name.kids.length cc1, .int .i64 fr.range.kind, .string (tx fr.range.s), .slice q2 fr.range.kids.length cc2] 47)).alloc (.cells #[.int .i64 fs.kind, .int .i64 fs.name.kind, .string (tx fs.name.s), .slice q3 fs.name.kids.length cc3, .int .i64 fs.range.kind, .string (tx fs.range.s), .slice q4 fs.range.kids.length cc4] 47)).drew = w6 at *
              obtain ⟨x0, x1, x2, x3, x4, x5, x6⟩ := var7 h1
              obtain ⟨y0, y1, y2, y3, y4, y5, y6⟩ := var7 h2
              have HcW := Lib.hid hcW
              have HN6 := Lib.hid (HN.out w6 hcW)
              clear HP HN h1 h2 hcW
              clear hk0 hj0 c1 c2 c3 c4 c5 c6 d1 d2 d3 d4 d5 d6 v6 u6
              cases hkk : fr.kind == fs.kind with
              | false =>
                rw [hkk] at Hstep
                have hkn : (fr.kind != fs.kind) = true := by rw [bne, hkk]; rfl
                go_wp2_with fail
                go_ret
                exact ⟨by rw [← Hstep.out]; rfl, (Hc4.out.trans Hch.out).trans (HcW.out)⟩
              | true =>
                rw [hkk] at Hstep
                have hkn : (fr.kind != fs.kind) = false := by rw [bne, hkk]; rfl
                rw [Bool.true_and] at Hstep
                cases hs1 : sameE fr.name fs.name with
                | false =>
                  rw [hs1] at Hstep HN6
                  go_wp2_with fail
                  refine HN6.out.mono ?_
                  rintro e w7 ⟨rfl, hc7⟩
                  have Hc7 := Lib.hid (HcW.out.trans hc7)
                  clear hc7
                  go_wp2_with fail
                  go_ret
                  exact ⟨by rw [← Hstep.out]; rfl, (Hc4.out.trans Hch.out).trans (Hc7.out)⟩
                | true =>
                  rw [hs1] at Hstep HN6
                  rw [Bool.true_and] at Hstep
                  go_wp2_with fail
                  refine HN6.out.mono ?_
                  rintro e w7 ⟨rfl, hc7⟩
                  have Hc7 := Lib.hid (HcW.out.trans hc7)
                  have HR7 := Lib.hid (HR.out w7 Hc7.out)
                  obtain ⟨x4, x5, x6⟩ := And.intro (hc7.keep x4) (And.intro (hc7.keep x5) (hc7.keep x6))
                  obtain ⟨y4, y5, y6⟩ := And.intro (hc7.keep y4) (And.intro (hc7.keep y5) (hc7.keep y6))
                  clear hc7 HR HN6
                  cases hs2 : sameE fr.range fs.range with
                  | false =>
                    rw [hs2] at Hstep HR7
                    go_wp2_with fail
                    refine HR7.out.mono ?_
                    rintro e w8 ⟨rfl, hc8⟩
                    have Hc8 := Lib.hid (Hc7.out.trans hc8)
                    clear hc8
                    go_wp2_with fail
                    go_ret
                    exact ⟨by rw [← Hstep.out]; rfl, (Hc4.out.trans Hch.out).trans (Hc8.out)⟩
                  | true =>
                    rw [hs2] at Hstep HR7
                    rw [Bool.true_and] at Hstep
                    go_wp2_with fail
                    refine HR7.out.mono ?_
                    rintro e w8 ⟨rfl, hc8⟩
                    have Hc8 := Lib.hid (Hc7.out.trans hc8)
                    clear hc8
                    go_wp2_with fail
                    go_roundw
                    case rel => exact ⟨k + 1, by omega, by go_num, Hstep.out, Hch.out.trans Hc8.out⟩
                    case measure => simp [intOf]; omega
            · skip
              go_simp
              have h1 := row_kept ((Chg.refl NoB _).alloc (.cells #[.int .i64 fr.kind, .int .i64 fr.name.kind, .string (tx fr.name.s), .slice q1 fr.name.kids.length cc1, .int .i64 fr.range.kind, .string (tx fr.range.s), .slice q2 fr.range.kids.length cc2] 47)).drew (heap_alloc_new wr (.cells #[.int .i64 fs.kind, .int .i64 fs.name.kind, .string (tx fs.name.s), .slice q3 fs.name.kids.length cc3, .int .i64 fs.range.kind, .string (tx fs.range.s), .slice q4 fs.range.kids.length cc4] 47)) id
              have h2 := row_kept (Chg.refl NoB _).drew (heap_alloc_new (wr.alloc (.cells #[.int .i64 fs.kind, .int .i64 fs.name.kind, .string (tx fs.name.s), .slice q3 fs.name.kids.length cc3, .int .i64 fs.range.kind, .string (tx fs.range.s), .slice q4 fs.range.kids.length cc4] 47)) (.cells #[.int .i64 fr.kind, .int .i64 fr.name.kind, .string (tx fr.name.s), .slice q1 fr.name.kids.length cc1, .int .i64 fr.range.kind, .string (tx fr.range.s), .slice q2 fr.range.kids.length cc2] 47)) id
              rw [alloc_size] at h2
              have hcW := (((Chg.refl NoB wr).alloc (.cells #[.int .i64 fs.kind, .int .i64 fs.name.kind, .string (tx fs.name.s), .slice q3 fs.name.kids.length cc3, .int .i64 fs.range.kind, .string (tx fs.range.s), .slice q4 fs.range.kids.length cc4] 47)).alloc (.cells #[.int .i64 fr.kind, .int .i64 fr.name.kind, .string (tx fr.name.s), .slice q1 fr.name.kids.length cc1, .int .i64 fr.range.kind, .string (tx fr.range.s), .slice q2 fr.range.kids.length cc2] 47)).drew
              generalize ((wr.alloc (.cells #[.int .i64 fs.kind, .int .i64 fs.name.kind, .string (tx fs.name.s), .slice q3 fs.name.kids.length cc3, .int .i64 fs.range.kind, .string (tx fs.range.s), .slice q4 fs.range.kids.length cc4] 47)).alloc (.cells #[.int .i64 fr.kind, .int .i64 fr.name.kind, .string (tx fr.name.s), .slice q1 fr.name.kids.length cc1, .int .i64 fr.range.kind, .string (tx fr.range.s), .slice q2 fr.range.kids.length cc2] 47)).drew = w6 at *
              obtain ⟨x0, x1, x2, x3, x4, x5, x6⟩ := var7 h1
              obtain ⟨y0, y1, y2, y3, y4, y5, y6⟩ := var7 h2
              have HcW := Lib.hid hcW
              have HN6 := Lib.hid (HN.out w6 hcW)
              clear HP HN h1 h2 hcW
              clear hk0 hj0 c1 c2 c3 c4 c5 c6 d1 d2 d3 d4 d5 d6 v6 u6
              cases hkk : fr.kind == fs.kind with
              | false =>
                rw [hkk] at Hstep
                have hkn : (fr.kind != fs.kind) = true := by rw [bne, hkk]; rfl
                go_wp2_with fail
                go_ret
                exact ⟨by rw [← Hstep.out]; rfl, (Hc4.out.trans Hch.out).trans (HcW.out)⟩
              | true =>
                rw [hkk] at Hstep
                have hkn : (fr.kind != fs.kind) = false := by rw [bne, hkk]; rfl
                rw [Bool.true_and] at Hstep
                cases hs1 : sameE fr.name fs.name with
                | false =>
                  rw [hs1] at Hstep HN6
                  go_wp2_with fail
                  refine HN6.out.mono ?_
                  rintro e w7 ⟨rfl, hc7⟩
                  have Hc7 := Lib.hid (HcW.out.trans hc7)
                  clear hc7
                  go_wp2_with fail
                  go_ret
                  exact ⟨by rw [← Hstep.out]; rfl, (Hc4.out.trans Hch.out).trans (Hc7.out)⟩
                | true =>
                  rw [hs1] at Hstep HN6
                  rw [Bool.true_and] at Hstep
                  go_wp2_with fail
                  refine HN6.out.mono ?_
                  rintro e w7 ⟨rfl, hc7⟩
                  have Hc7 := Lib.hid (HcW.out.trans hc7)
                  have HR7 := Lib.hid (HR.out w7 Hc7.out)
                  obtain ⟨x4, x5, x6⟩ := And.intro (hc7.keep x4) (And.intro (hc7.keep x5) (hc7.keep x6))
                  obtain ⟨y4, y5, y6⟩ := And.intro (hc7.keep y4) (And.intro (hc7.keep y5) (hc7.keep y6))
                  clear hc7 HR HN6
                  cases hs2 : sameE fr.range fs.range with
                  | false =>
                    rw [hs2] at Hstep HR7
                    go_wp2_with fail
                    refine HR7.out.mono ?_
                    rintro e w8 ⟨rfl, hc8⟩
                    have Hc8 := Lib.hid (Hc7.out.trans hc8)
                    clear hc8
                    go_wp2_with fail
                    go_ret
                    exact ⟨by rw [← Hstep.out]; rfl, (Hc4.out.trans Hch.out).trans (Hc8.out)⟩
                  | true =>
                    rw [hs2] at Hstep HR7
                    rw [Bool.true_and] at Hstep
                    go_wp2_with fail
                    refine HR7.out.mono ?_
                    rintro e w8 ⟨rfl, hc8⟩
                    have Hc8 := Lib.hid (Hc7.out.trans hc8)
                    clear hc8
                    go_wp2_with fail
                    go_roundw
                    case rel => exact ⟨k + 1, by omega, by go_num, Hstep.out, Hch.out.trans Hc8.out⟩
                    case measure => simp [intOf]; omega
          · obtain rfl : k = la := by omega
            have Hfin := Lib.hid (show X = true by
              have h1 := Hinv.out
              rw [List.drop_of_length_le (by have := Hla.out; omega), List.drop_of_length_le (by have := Hlb.out; omega), sameFs] at h1
              exact h1.symm)
            go_wp2_with fail
            go_ret
            exact ⟨by rw [Hfin.out]; rfl, Hc4.out.trans Hch.out⟩
      · have hab : ((la : Int) != (lb : Int)) = true := by rw [bne_iff_ne]; omega
        have hab2 : ((la : Int) == (lb : Int)) = false := by rw [beq_eq_false_iff_ne]; omega
        rw [sameFs_len (by rw [← Hla.out, ← Hlb.out]; exact hlen)] at HX
        go_wp2_with fail
        go_ret
        exact ⟨by rw [HX.out]; rfl, Hc4.out⟩
end Go.Proofs.YtdgcpgbknfojhaaDoor
