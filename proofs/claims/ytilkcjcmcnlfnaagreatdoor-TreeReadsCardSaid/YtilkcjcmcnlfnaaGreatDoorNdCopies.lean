/- copies: the same nodes in new memory. Condition: at most 2^20 nodes and bytes. -/
import Derived.Test.YtilkcjcmcnlfnaaGreatDoorNdCount
import Derived.Laws.MakeOwn
import Derived.Deep.RegionHeld3
import Derived.Deep.CutRange
namespace Go.Proofs.YtilkcjcmcnlfnaaGreatDoor
set_option linter.unusedVariables false
open Go.ChangeShapes Go.WideShapes Go.ChangeAt Go.RowKit
theorem nodeInfo : (Tryz.prog.info? 71).map (fun i => (i.zero, i.size, i.bytes)) = some (some (.agg #[.bool false, .string ⟨#[]⟩, .slice none 0 0]), 3, 48) := by kernel_rfl
theorem make_nodes (n : Nat) (hn : n ≤ 1048576) (w : World) : (Instr.makeSlice 69 (.int .i64 (n : Int)) (.int .i64 (n : Int))).run Tryz.prog w =
    .ok (.slice (some ⟨w.heap.size, 0, none⟩) n n) (w.alloc (.cells (madeCells #[.bool false, .string ⟨#[]⟩, .slice none 0 0] (n * 3)) 71)) := by
  obtain ⟨i, hi, hz, hs, hb⟩ := info_parts nodeInfo
  have hr := run_make (P := Tryz.prog) w 69 71 i _ Tryz.underlying69 hi hz .i64 .i64 n n (by omega) (by omega) (by rw [hb]; omega) (by omega)
  simp only [Int.toNat_natCast, hs] at hr
  exact hr
theorem Nd.len_counts (ks : List Nd) : ks.length ≤ Nd.counts ks := by
  induction ks with
  | nil => exact Nat.zero_le _
  | cons k r ih =>
    rw [Nd.counts]
    have := k.count_pos
    simp only [List.length_cons]; omega
def Copied (ks : List Nd) (w : World) (e : Ending) (w' : World) : Prop := ∃ v kb ko, e = .returned v ∧ NdS w' (fun x => w.heap.size ≤ x ∧ x < w'.heap.size) v ks kb ko ∧ Chg NoB w w'
theorem st3 (w : World) {g : Nat} (k : Nat) (a b c : Value) : Chg (fun x => x = g) w (((w.setCell ⟨g, k, none⟩ a).setCell ⟨g, k + 1, none⟩ b).setCell ⟨g, k + 2, none⟩ c) := by
  have h1 : Chg (fun x => x = g) w (w.setCell ⟨g, k, none⟩ a) := (Chg.refl (fun x => x = g) w).setCell (p := ⟨g, k, none⟩) (.inl rfl) a
  have h2 := h1.setCell (p := ⟨g, k + 1, none⟩) (.inl rfl) b
  exact h2.setCell (p := ⟨g, k + 2, none⟩) (.inl rfl) c
theorem Laid.step {w0 wr w6 : World} {g : Nat} {t : TypeId} {ks : List Nd} {k : Nat} (h : Laid w0 wr g t ks k) (hlt : k < ks.length) (hc : Chg NoB wr w6) (lo : Nat) (hlo : wr.heap.size ≤ lo) {s : Value} {kb ko : Nat} {kd : Nd} (hkd : kd = ks[k])
    (hN : NdS w6 (fun x => lo ≤ x ∧ x < w6.heap.size) s kd.kids kb ko) (ha : kd.atom.size ≤ maxLen) :
    Laid w0 (((w6.setCell ⟨g, k * 3, none⟩ (.bool kd.leaf)).setCell ⟨g, k * 3 + 1, none⟩ (.string kd.atom)).setCell ⟨g, k * 3 + 2, none⟩ s) g t ks (k + 1) := by
  have hs := st3 w6 (g := g) (k * 3) (.bool kd.leaf) (.string kd.atom) s
  obtain ⟨cur, hcur, hsz⟩ := h.row
  have hcur6 := row_kept hc hcur id
  have hf := heap_set (heap_set (heap_set hcur6 (i := k * 3) (.bool kd.leaf)) (i := k * 3 + 1) (.string kd.atom)) (i := k * 3 + 2) s
  have hz : (((w6.setCell ⟨g, k * 3, none⟩ (.bool kd.leaf)).setCell ⟨g, k * 3 + 1, none⟩ (.string kd.atom)).setCell ⟨g, k * 3 + 2, none⟩ s).heap.size = w6.heap.size := by simp [World.setCell]
  have z6 := hc.size
  have hgl := h.lt
  have hle := h.le
  have z0 := h.chg.size
  generalize ((w6.setCell ⟨g, k * 3, none⟩ (.bool kd.leaf)).setCell ⟨g, k * 3 + 1, none⟩ (.string kd.atom)).setCell ⟨g, k * 3 + 2, none⟩ s = wf at *
  have cf := fun j => cell_of_row wf g j _ t (0, 0) hf
  have c6 := fun j => cell_of_row w6 g j _ t (0, 0) hcur6
  refine ⟨Chg.above (h.chg.trans hc) hs fun x hx => by rw [hx]; exact h.le, h.le, by omega, ⟨_, hf, by simp [hsz]⟩, fun i hi hik => ?_⟩
  by_cases e : i = k
  · subst e
    rw [← hkd]
    refine ⟨ha, s, kb, ko, ?_, ?_, ?_, (hN.mono fun x hx => ?_).keep hs fun x hx => ?_⟩
    · rw [cf]; simp [Array.getElem?_setIfInBounds]; omega
    · rw [cf]; simp [Array.getElem?_setIfInBounds]; omega
    · rw [cf]; simp [Array.getElem?_setIfInBounds]; omega
    · exact (⟨⟨by omega, by rw [hz]; exact hx.2⟩, by have := hx.1; omega⟩ : (w0.heap.size ≤ x ∧ x < wf.heap.size) ∧ x ≠ g)
    · exact hx.2
  · obtain ⟨hai, si, kbi, koi, d0, d1, d2, hsi⟩ := h.done i hi (by omega)
    have d0' := hc.keep d0
    have d1' := hc.keep d1
    have d2' := hc.keep d2
    rw [c6] at d0' d1' d2'
    refine ⟨hai, si, kbi, koi, ?_, ?_, ?_, ((hsi.keep hc fun _ _ => id).keep hs fun x hx => hx.2).mono fun x hx => ⟨⟨hx.1.1, by have := hx.1.2; omega⟩, hx.2⟩⟩
    · rw [cf, ← d0']; simp only [Array.getElem?_setIfInBounds]; rw [if_neg (by omega), if_neg (by omega), if_neg (by omega)]
    · rw [cf, ← d1']; simp only [Array.getElem?_setIfInBounds]; rw [if_neg (by omega), if_neg (by omega), if_neg (by omega)]
    · rw [cf, ← d2']; simp only [Array.getElem?_setIfInBounds]; rw [if_neg (by omega), if_neg (by omega), if_neg (by omega)]
theorem row_three {w : World} {b : Nat} {cur : Array Value} {t : TypeId} (h : w.heap[b]? = some (.cells cur t (0, 0))) (i : Nat) (hi : i + 2 < cur.size) :
    ∃ y0 y1 y2, w.cell? ⟨b, i, none⟩ = some y0 ∧ w.cell? ⟨b, i + 1, none⟩ = some y1 ∧ w.cell? ⟨b, i + 2, none⟩ = some y2 ∧ ∀ j, w.frozen? ⟨b, j, none⟩ = false := by
  have c := fun i => cell_of_row w b i _ t (0, 0) h
  refine ⟨cur[i], cur[i + 1], cur[i + 2], by rw [c i]; exact Array.getElem?_eq_getElem _, by rw [c (i + 1)]; exact Array.getElem?_eq_getElem _, by rw [c (i + 2)]; exact Array.getElem?_eq_getElem _, fun j => ?_⟩
  simp [World.frozen?, h]
theorem var3 {w : World} {b : Nat} {x0 x1 x2 : Value} {t : TypeId} (h : w.heap[b]? = some (.cells #[x0, x1, x2] t (0, 0))) : w.cell? ⟨b, 0, none⟩ = some x0 ∧ w.cell? ⟨b, 1, none⟩ = some x1 ∧ w.cell? ⟨b, 2, none⟩ = some x2 := by
  have c := fun i => cell_of_row w b i _ t (0, 0) h
  exact ⟨by rw [c 0]; rfl, by rw [c 1]; rfl, by rw [c 2]; rfl⟩
set_option maxHeartbeats 2000000 in
theorem copies_any (N : Nat) (hN : N ≤ 1048576) : ∀ (ks : List Nd), Nd.counts ks ≤ N → ∀ (S : Nat → Prop) (v : Value) (kb ko : Nat) (w : World), NdS w S v ks kb ko →
    Calls Tryz.prog 80 #[v] w (Copied ks w) := by
  induction N with
  | zero =>
    intro ks hn S v kb ko w hs
    have hl := Nd.len_counts ks
    obtain rfl : ks = [] := List.eq_nil_of_length_eq_zero (by omega)
    obtain ⟨⟨q, c, rfl, _, _, _⟩, _⟩ := hs
    go_enter Tryz.func80, Tryz.ntmps80
    go_wp2_with fail
    go_ret
    exact ⟨_, 0, 0, rfl, NdS.nil _ _, Chg.refl _ _⟩
  | succ N ih =>
    intro ks hn S v kb ko w hs
    have IH := Lib.hid (ih (by omega))
    clear ih
    obtain ⟨⟨q, c, rfl, hkc, hcm, hqq⟩, hk⟩ := hs
    have hl := Nd.len_counts ks
    by_cases hz : ks.length = 0
    · obtain rfl : ks = [] := List.eq_nil_of_length_eq_zero hz
      clear hk hqq
      go_enter Tryz.func80, Tryz.ntmps80
      go_wp2_with fail
      go_ret
      exact ⟨_, 0, 0, rfl, NdS.nil _ _, Chg.refl _ _⟩
    · have hqe := hqq (by intro e; rw [e] at hz; simp at hz)
      subst hqe
      have Hk := Lib.hid hk
      have Hn := Lib.hid hn
      have hzb : ((ks.length : Int) == 0) = false := beq_eq_false_iff_ne.mpr (by omega)
      have hmk := make_nodes ks.length (by omega)
      have hlb : ks.length ≤ 1048576 := by omega
      unfold maxLen at hcm
      clear hk hqq hn hl hz
      go_enter Tryz.func80, Tryz.ntmps80
      go_wp2_with fail
      have hld : Laid w (w.alloc (.cells (madeCells #[.bool false, .string ⟨#[]⟩, .slice none 0 0] (ks.length * 3)) 71)) w.heap.size 71 ks 0 :=
        ⟨(Chg.refl _ w).alloc _, Nat.le_refl _, by show _ < (w.heap.push _).size; simp, ⟨_, heap_alloc_new w _, size_madeCells _ _⟩, fun i hi h0 => absurd h0 (Nat.not_lt_zero _)⟩
      have Hld := Lib.hid hld
      clear hld hmk
      generalize w.alloc (.cells (madeCells #[.bool false, .string ⟨#[]⟩, .slice none 0 0] (ks.length * 3)) 71) = w1 at *
      obtain ⟨g, hg⟩ : ∃ g, g = w.heap.size := ⟨_, rfl⟩
      rw [← hg] at Hld ⊢
      have Hg := Lib.hid hg
      clear hg
      go_loopw [4, 5, 14] (fun i p j wr => ∃ k : Nat, k ≤ ks.length ∧ j = .int .i64 k ∧ Laid w wr g 71 ks k) (fun _ _ j _ => ks.length - (intOf j).toNat)
      case atStart => exact ⟨0, Nat.zero_le _, rfl, Hld.out⟩
      case round =>
        obtain ⟨k, hk, rfl, hlaid⟩ := hrel
        have Hlaid := Lib.hid hlaid
        clear hlaid
        by_cases hlt : k < ks.length
        · obtain ⟨_, hca, s', kb', ko', c0, c1, c2, hs'⟩ := (Hk.out k hlt).cells
          have hs2 := hs'
          obtain ⟨⟨q', c', hsq', h5, h6, h7⟩, h8⟩ := hs'
          subst hsq'
          have hw := Hlaid.out.chg
          have c0' := hw.keep c0
          have c1' := hw.keep c1
          have c2' := hw.keep c2
          have hcnt : Nd.counts ks[k].kids ≤ N := by
            have h1 := Nd.counts_get ks k hlt
            have h2 := Hn.out
            have h3 : Nd.counts ks[k].kids < ks[k].count := by
              cases ks[k] with
              | mk x y z => rw [Nd.count]; show Nd.counts z < _; omega
            omega
          have Hcnt := Lib.hid hcnt
          have Hs2 := Lib.hid (hs2.keep hw fun _ _ => id)
          have Hca := Lib.hid hca
          clear c0 c1 c2 hw hcnt h5 h6 h7 h8 hca hs2
          obtain ⟨kd, hkd⟩ : ∃ kd, kd = ks[k] := ⟨_, rfl⟩
          have Hkd := Lib.hid hkd
          rw [← hkd] at c0' c1' c2' Hcnt Hs2 Hca
          clear hkd
          obtain ⟨vb, hvb⟩ : ∃ vb, vb = wr.heap.size := ⟨_, rfl⟩
          have hrow := heap_alloc_new wr (.cells #[.bool kd.leaf, .string kd.atom, .slice q' kd.kids.length c'] 71)
          have hal := (Chg.refl NoB wr).alloc (.cells #[.bool kd.leaf, .string kd.atom, .slice q' kd.kids.length c'] 71)
          obtain ⟨v0, v1, v2⟩ := var3 hrow
          rw [← hvb] at v0 v1 v2
          have Hal := Lib.hid hal
          have Hvb := Lib.hid hvb
          clear hrow hal hvb
          obtain ⟨cur, hcur, hcsz⟩ := Hlaid.out.row
          have hvg : ¬ vb = g := by have := Hlaid.out.lt; have := Hvb.out; omega
          go_upto_region 7 with fail
          generalize wr.alloc (.cells #[.bool kd.leaf, .string kd.atom, .slice q' kd.kids.length c'] 71) = w5 at *
          rw [← Hvb.out]
          clear c0' c1' c2'
          have hk0 : (0 : Int) ≤ (k : Int) := Int.natCast_nonneg _
          have hk1 : (k : Int) < (ks.length : Int) := by omega
          go_region_held3 (fun w' => w'.cell? ⟨vb, 0, none⟩ = some (.bool kd.leaf) ∧ w'.cell? ⟨vb, 1, none⟩ = some (.string kd.atom) ∧ w'.cell? ⟨vb, 2, none⟩ = some (.slice q' kd.kids.length c'))
            (first | (refine ⟨?_, ?_, ?_⟩ <;> assumption) | exact ⟨(st3 _ _ _ _ _).cell u0 hvg, (st3 _ _ _ _ _).cell u1 hvg, (st3 _ _ _ _ _).cell u2 hvg⟩ | (refine ⟨?_, ?_, ?_⟩ <;> go_keep))
            (first
              | (go_at_call 80; refine (IH.out kd.kids Hcnt.out S _ kb' ko' _ ((Hs2.out.keep Hal.out fun _ _ => id).keep (Chg.drew (Chg.refl NoB _)) fun _ _ => id)).mono ?_; rintro e w6 ⟨_, kb2, ko2, rfl, ⟨⟨q2, cc2, rfl, p1, p2, p3⟩, hN6⟩, hc6⟩; obtain ⟨y0, y1, y2, r0, r1, r2, r3⟩ := row_three (row_kept hc6 (row_kept (Chg.drew (Chg.refl NoB _)) (row_kept Hal.out hcur id) id) id) (k * 3) (by omega); have u0 := hc6.keep (p := ⟨vb, 0, none⟩) (u := .bool kd.leaf) (by assumption); have u1 := hc6.keep (p := ⟨vb, 1, none⟩) (u := .string kd.atom) (by assumption); have u2 := hc6.keep (p := ⟨vb, 2, none⟩) (u := .slice q' kd.kids.length c') (by assumption)))
          go_wp2_with fail
          go_roundw
          case rel =>
            refine ⟨k + 1, by omega, by go_num, ?_⟩
            exact Hlaid.out.step hlt (Hal.out.trans (Chg.trans (Chg.drew (Chg.refl _ _)) hc6)) _ Hal.out.size Hkd.out ⟨⟨q2, cc2, rfl, p1, p2, p3⟩, hN6⟩ Hca.out
          case measure => simp [intOf]; omega
        · obtain rfl : k = ks.length := by omega
          go_wp2_with fail
          go_ret
          have hwh := Hlaid.out.whole (by unfold maxLen; omega)
          exact ⟨_, g, 0, rfl, hwh, Hlaid.out.chg⟩
end Go.Proofs.YtilkcjcmcnlfnaaGreatDoor
