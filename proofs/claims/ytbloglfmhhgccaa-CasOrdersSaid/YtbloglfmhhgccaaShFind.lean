/- The search in a shelf: the contracts of cmp.Compare, slices.BinarySearchFunc and find. Condition: at most 2^20 pairs. -/
import Derived.Test.YtbloglfmhhgccaaShMath
import Derived.Laws.Cover1

namespace Go.Proofs.Ytbloglfmhhgccaa
set_option linter.unusedVariables false
open Go.ChangeShapes Go.WideShapes Go.ChangeAt Go.RowKit
theorem InpS.of_row {w : World} {lo n : Nat} {v : Value} {ps : List FileL} {t : TypeId} (h : w.ownsRow lo t 2 v n (flatP ps)) (hn : n = ps.length) : ∃ kb, InpS w (fun k => lo ≤ k ∧ k < w.heap.size) v ps kb 0 := by
  subst hn
  have hlt := World.ownsRow.lt h
  have hcl := fun g hg => World.ownsRow.cells (g := g) h hg
  rcases h.2 with ⟨rfl, h0⟩ | ⟨g, cap, cur, rfl, hb, hh, h3, h4, _⟩
  · have : ps = [] := List.eq_nil_of_length_eq_zero h0
    subst this
    exact ⟨0, InpS.nil _ _⟩
  · refine ⟨g, ⟨⟨_, cap, rfl, h3, h4, fun _ => ⟨rfl, hlt g rfl⟩⟩, fun i hi => ?_⟩⟩
    obtain ⟨g0, g1⟩ := flatP_at ps i hi
    rw [Nat.zero_add]
    refine ⟨?_, ?_⟩
    · have := hcl g rfl _ _ g0; rwa [add_zero_off] at this
    · have := hcl g rfl _ _ g1; rwa [add_zero_off] at this
theorem nan_any (a : List UInt8) (w : World) : Calls Try.prog 47 #[.string (tx a)] w fun e w' => e = .returned (.bool false) ∧ w = w' := by
  go_enter Try.func47, Try.ntmps47
  go_wp2_with fail
  go_ret
  exact ⟨by simp, rfl⟩
theorem txL (a : List UInt8) : (tx a).toList = a := by rw [Lib.toList_data, tx_list]
theorem compare_any (a b : List UInt8) (w : World) : Calls Try.prog 42 #[.string (tx a), .string (tx b)] w fun e w' => e = .returned (.int .i64 (cmpK a b)) ∧ w = w' := by
  have h1 := fun W => nan_any a W
  have h2 := fun W => nan_any b W
  obtain ⟨r, hr⟩ : ∃ r, r = cmpK a b := ⟨_, rfl⟩
  rw [← hr]
  have Hr := Lib.hid hr
  have hl : Op.bytesLess (tx a).toList (tx b).toList = bl a b := by rw [txL, txL]; rfl
  have he : ((tx a).toList == (tx b).toList) = decide (a = b) := tx_beq a b
  clear hr
  cases hb : bl a b with
  | true =>
    rw [hb] at hl
    have Hb := Lib.hid hb
    clear hb he
    go_enter Try.func42, Try.ntmps42
    go_wp2_with fail
    refine (h1 _).mono ?_
    rintro e w' ⟨rfl, rfl⟩
    go_wp2_with fail
    refine (h2 _).mono ?_
    rintro e w' ⟨rfl, rfl⟩
    go_wp2_with fail
    go_ret
    exact ⟨by rw [Hr.out]; unfold cmpK; rw [if_pos Hb.out]; rfl, rfl⟩
  | false =>
    rw [hb] at hl
    have Hb := Lib.hid hb
    clear hb
    by_cases hab : a = b
    · rw [decide_eq_true hab] at he
      have Hab := Lib.hid hab
      clear hab
      go_enter Try.func42, Try.ntmps42
      go_wp2_with fail
      refine (h1 _).mono ?_
      rintro e w' ⟨rfl, rfl⟩
      go_wp2_with fail
      refine (h2 _).mono ?_
      rintro e w' ⟨rfl, rfl⟩
      go_wp2_with fail
      go_ret
      exact ⟨by rw [Hr.out, Hab.out]; unfold cmpK; rw [if_neg (by rw [bl_irr]; decide), if_neg (by rw [bl_irr]; decide)]; rfl, rfl⟩
    · rw [decide_eq_false hab] at he
      have Hab := Lib.hid hab
      clear hab
      go_enter Try.func42, Try.ntmps42
      go_wp2_with fail
      refine (h1 _).mono ?_
      rintro e w' ⟨rfl, rfl⟩
      go_wp2_with fail
      refine (h2 _).mono ?_
      rintro e w' ⟨rfl, rfl⟩
      go_wp2_with fail
      go_ret
      refine ⟨?_, rfl⟩
      have hba : bl b a = true := by
        cases hc : bl b a with
        | true => rfl
        | false => exact absurd (bl_tri Hb.out hc) Hab.out
      rw [Hr.out]; unfold cmpK; rw [if_neg (by rw [Hb.out]; decide), if_pos hba]; rfl
theorem cmp1_any (x : FileL) (k : List UInt8) (w : World) : Calls Try.prog 41 #[.agg #[.string (tx x.1), .string (tx x.2)], .string (tx k)] w fun e w' => e = .returned (.int .i64 (cmpK x.1 k)) ∧ Chg NoB w w' := by
  obtain ⟨x1, x2⟩ := x
  show Calls _ _ #[.agg #[.string (tx x1), .string (tx x2)], _] _ _
  have hal_ := (Chg.refl NoB w).alloc (.cells #[.string (tx x1), .string (tx x2)] 61)
  have hb_ := heap_alloc_new w (.cells #[.string (tx x1), .string (tx x2)] 61)
  obtain ⟨b, hxb_⟩ : ∃ b, b = w.heap.size := ⟨_, rfl⟩
  obtain ⟨w1, hw_⟩ : ∃ w_, w.alloc (.cells #[.string (tx x1), .string (tx x2)] 61) = w_ := ⟨_, rfl⟩
  have hz_ : w1.heap.size = b + 1 := by rw [← hw_, hxb_]; exact alloc_size _ _
  rw [hw_] at hal_ hb_
  rw [← hxb_] at hb_
  have Hw1 := Lib.hid hw_
  have Hx1 := Lib.hid hxb_
  have Ha1 := Lib.hid hal_
  have Hb1 := Lib.hid hb_
  have Hz1 := Lib.hid hz_
  clear hal_ hb_ hxb_ hw_ hz_
  have h := fun W => compare_any x1 k W
  obtain ⟨b0, b1⟩ := var2 Hb1.out
  obtain ⟨r, hr⟩ : ∃ r, r = cmpK x1 k := ⟨_, rfl⟩
  show Calls _ _ _ _ fun e w' => e = .returned (.int .i64 (cmpK x1 k)) ∧ _
  rw [← hr] at h ⊢
  clear hr
  go_enter Try.func41, Try.ntmps41
  go_upto_region 1 with fail
  rw [Hw1.out, ← Hx1.out]
  go_wp2_with fail
  refine (h _).mono ?_
  rintro e w' ⟨rfl, rfl⟩
  go_wp2_with fail
  go_ret
  exact ⟨rfl, Ha1.out⟩
def BsP (ps : List FileL) (k : List UInt8) (w : World) (e : Ending) (w' : World) : Prop := Chg NoB w w' ∧ ∃ i : Nat, Place ps k i ∧ e = .returned (.tuple #[.int .i64 i, .bool (foundAt ps k i)])
theorem bl_mono {ps : List FileL} (ha : Asc ps) {k : List UInt8} {a b : Nat} (hab : a ≤ b) (hb : b < ps.length) (h : bl (ps[b]'hb).1 k = true) : bl (ps[a]'(by omega)).1 k = true := by
  rcases Nat.lt_or_ge a b with hl | hl
  · exact bl_trans (List.pairwise_iff_getElem.1 ha a b (by omega) hb hl) h
  · obtain rfl : a = b := by omega
    exact h
set_option maxHeartbeats 2000000 in
set_option maxRecDepth 20000 in
theorem bsearch_any (ps : List FileL) (ha : Asc ps) (hl : ps.length ≤ 1048576) (k : List UInt8) (S : Nat → Prop) (v : Value) (kb ko : Nat) (w : World) (hs : InpS w S v ps kb ko) :
    Calls Try.prog 40 #[v, .string (tx k), .func (.func 41) #[] #[]] w (BsP ps k w) := by
  have eg := enters_of Try.func41 (by kernel_rfl) rfl
  have Hs := Lib.hid hs
  obtain ⟨⟨q, c, rfl, h1, h2, h3⟩, -⟩ := hs
  have H3 := Lib.hid h3
  obtain ⟨n, hn⟩ : ∃ n, n = ps.length := ⟨_, rfl⟩
  rw [← hn] at h1 hl Hs ⊢
  have Hn := Lib.hid hn
  have Ha := Lib.hid ha
  unfold maxLen at h2
  clear hn h3 ha
  go_enter Try.func40, Try.ntmps40
  go_wp2_with fail
  go_loopw [9, 10] (fun a b wr => ∃ lo hi : Nat, lo ≤ hi ∧ hi ≤ n ∧ a = .int .i64 lo ∧ b = .int .i64 hi ∧ (∀ t (h : t < ps.length), t < lo → bl ps[t].1 k = true) ∧ (∀ t (h : t < ps.length), hi ≤ t → bl ps[t].1 k = false) ∧ Chg NoB w wr) (fun a b _ => (intOf b).toNat - (intOf a).toNat)
  case atStart => exact ⟨0, n, Nat.zero_le _, Nat.le_refl _, rfl, rfl, fun t h h' => absurd h' (Nat.not_lt_zero _), fun t h h' => absurd h' (by rw [Hn.out]; omega), Chg.refl _ _⟩
  case round =>
    obtain ⟨lo, hi, hlh, hin, rfl, rfl, hlo, hhi, hch⟩ := hrel
    have Hlo := Lib.hid hlo
    have Hhi := Lib.hid hhi
    have Hch := Lib.hid hch
    clear hlo hhi hch
    by_cases hlt : lo < hi
    · obtain ⟨m, hm⟩ : ∃ m, m = (lo + hi) / 2 := ⟨_, rfl⟩
      have hmn : m < ps.length := by rw [← Hn.out]; omega
      obtain ⟨rfl, -⟩ := H3.out (by intro e; rw [e] at hmn; simp at hmn)
      have c0 := Hch.out.keep (Hs.out.at' m hmn).1
      have c1 := Hch.out.keep (Hs.out.at' m hmn).2
      have Hc := Lib.hid (cmp1_any ps[m] k wr)
      have Hlt := Lib.hid (show bl ps[m].1 k = true → ∀ t (ht : t < ps.length), t < m + 1 → bl ps[t].1 k = true from fun h t ht h' => bl_mono Ha.out (show t ≤ m by omega) hmn h)
      have Hge := Lib.hid (show bl ps[m].1 k = false → ∀ t (ht : t < ps.length), m ≤ t → bl ps[t].1 k = false from fun h t ht h' => by
        cases hc : bl ps[t].1 k with
        | false => rfl
        | true => have := bl_mono Ha.out h' ht hc; rw [h] at this; cases this)
      have hk := cmpK_lt ps[m].1 k
      generalize hz : cmpK ps[m].1 k = z at *
      obtain ⟨x1, hx1⟩ : ∃ x, x = ps[m].1 := ⟨_, rfl⟩
      obtain ⟨x2, hx2⟩ : ∃ x, x = ps[m].2 := ⟨_, rfl⟩
      rw [← hx1] at c0 Hc Hlt Hge hk
      rw [← hx2] at c1 Hc
      subst hm
      clear hx1 hx2 hz hmn
      obtain ⟨bb, hbb⟩ : ∃ bb, bb = bl x1 k := ⟨_, rfl⟩
      rw [← hbb] at hk Hlt Hge
      clear hbb
      cases bb with
      | true =>
        have hz : z < 0 := of_decide_eq_true hk
        clear hk
        go_wp2_with fail
        refine Hc.out.mono ?_
        rintro e w2 ⟨rfl, hc2⟩
        have Hc2 := Lib.hid (Hch.out.trans hc2)
        clear hc2 c0 c1
        go_wp2_with fail
        go_roundw
        case rel => exact ⟨(lo + hi) / 2 + 1, hi, by omega, hin, by rw [show ((lo : Int) + (hi : Int)) / 2 + 1 = (((lo + hi) / 2 + 1 : Nat) : Int) by omega], rfl, Hlt.out (by first | rfl | trivial), Hhi.out, Hc2.out⟩
        case measure => simp [intOf]; omega
      | false =>
        have hz : ¬ z < 0 := of_decide_eq_false hk
        clear hk
        go_wp2_with fail
        refine Hc.out.mono ?_
        rintro e w2 ⟨rfl, hc2⟩
        have Hc2 := Lib.hid (Hch.out.trans hc2)
        clear hc2 c0 c1
        go_wp2_with fail
        go_roundw
        case rel => exact ⟨lo, (lo + hi) / 2, by omega, by omega, rfl, by rw [show ((lo : Int) + (hi : Int)) / 2 = (((lo + hi) / 2 : Nat) : Int) by omega], Hlo.out, Hge.out (by first | rfl | trivial), Hc2.out⟩
        case measure => simp [intOf]; omega
    · obtain rfl : lo = hi := by omega
      have hpl : Place ps k lo := ⟨by rw [← Hn.out]; exact hin, Hlo.out, Hhi.out⟩
      have Hpl := Lib.hid hpl
      obtain ⟨ff, hff⟩ : ∃ f, f = foundAt ps k lo := ⟨_, rfl⟩
      have Hff := Lib.hid hff
      clear hlt hpl hff
      by_cases hln : lo < n
      · have hlt' : lo < ps.length := by rw [← Hn.out]; exact hln
        obtain ⟨rfl, -⟩ := H3.out (by intro e; rw [e] at hlt'; simp at hlt')
        have c0 := Hch.out.keep (Hs.out.at' lo hlt').1
        have c1 := Hch.out.keep (Hs.out.at' lo hlt').2
        have Hc := Lib.hid (cmp1_any ps[lo] k wr)
        have Hfk := Lib.hid (show foundAt ps k lo = decide (cmpK ps[lo].1 k = 0) by
          rw [cmpK_eq]; unfold foundAt; rw [List.getElem?_eq_getElem hlt']
          rw [Bool.eq_iff_iff]; simp)
        generalize hz : cmpK ps[lo].1 k = z at *
        obtain ⟨x1, hx1⟩ : ∃ x, x = ps[lo].1 := ⟨_, rfl⟩
        obtain ⟨x2, hx2⟩ : ∃ x, x = ps[lo].2 := ⟨_, rfl⟩
        rw [← hx1] at c0 Hc
        rw [← hx2] at c1 Hc
        clear hx1 hx2 hz hlt'
        go_wp2_with fail
        refine Hc.out.mono ?_
        rintro e w2 ⟨rfl, hc2⟩
        have Hc2 := Lib.hid (Hch.out.trans hc2)
        clear hc2 c0 c1
        go_wp2_with fail
        go_ret2
        exact ⟨Hc2.out, lo, Hpl.out, by rw [Hfk.out]; rfl⟩
      · obtain rfl : lo = n := by omega
        go_wp2_with fail
        go_ret2
        refine ⟨Hch.out, lo, Hpl.out, ?_⟩
        have e : foundAt ps k lo = false := by unfold foundAt; rw [Hn.out, List.getElem?_eq_none (Nat.le_refl _)]; rfl
        rw [e]; rfl
/- a shelf: its object, its row -/
structure ShO (w : World) (lo ob : Nat) (ps : List FileL) : Prop where
  asc : Asc ps
  row : ∃ q c, w.heap[ob]? = some (.cells #[.slice q ps.length c] 57 (0, 0)) ∧ w.ownsRow lo 61 2 (.slice q ps.length c) ps.length (flatP ps) ∧ ∀ g, (Value.slice q ps.length c).ownBlock = some g → g ≠ ob
theorem ShO.keep {w w' : World} {lo ob : Nat} {ps : List FileL} (h : ShO w lo ob ps) (hc : Chg NoB w w') : ShO w' lo ob ps := by
  obtain ⟨q, c, h1, h2, h3⟩ := h.row
  exact ⟨h.asc, q, c, row_kept hc h1 id, ownsRow_chg h2 hc fun _ _ => id, h3⟩
theorem find_any (ps : List FileL) (hl : ps.length ≤ 1048576) (lo ob : Nat) (k : List UInt8) (w : World) (h : ShO w lo ob ps) :
    Calls Try.prog 32 #[.pointer (some ⟨ob, 0, none⟩), .string (tx k)] w (BsP ps k w) := by
  obtain ⟨q, c, h1, h2, h3⟩ := h.row
  obtain ⟨kb, hs⟩ := InpS.of_row h2 rfl
  have HB := Lib.hid (bsearch_any ps h.asc hl k _ _ kb 0 w hs)
  have o0 := var1 h1
  obtain ⟨n, hn⟩ : ∃ n, n = ps.length := ⟨_, rfl⟩
  rw [← hn] at HB o0
  clear h h1 h2 h3 hs hn hl
  go_enter Try.func32, Try.ntmps32
  go_wp2_with fail
  refine HB.out.mono ?_
  rintro e w2 ⟨hc2, i, hp, rfl⟩
  have Hc2 := Lib.hid hc2
  have Hp := Lib.hid hp
  generalize hf : foundAt ps k i = f at *
  have Hf := Lib.hid hf
  clear hc2 hp hf o0
  go_wp2_with fail
  go_ret2
  exact ⟨Hc2.out, i, Hp.out, by rw [Hf.out]; rfl⟩
theorem find_nil (k : ByteArray) (w : World) : Calls Try.prog 32 #[.pointer none, .string k] w fun e w' => e = .returned (.tuple #[.int .i64 0, .bool false]) ∧ w = w' := by
  go_enter Try.func32, Try.ntmps32
  go_wp2_with fail
  go_ret2
  exact ⟨rfl, rfl⟩
theorem slen_any (ps : List FileL) (lo ob : Nat) (w : World) (h : ShO w lo ob ps) : Calls Try.prog 29 #[.pointer (some ⟨ob, 0, none⟩)] w fun e w' => e = .returned (.int .i64 (ps.length : Nat)) ∧ w = w' := by
  obtain ⟨q, c, h1, h2, h3⟩ := h.row
  have o0 := var1 h1
  generalize ps.length = n at *
  clear h h1 h2 h3
  go_enter Try.func29, Try.ntmps29
  go_wp2_with fail
  go_ret
  exact ⟨rfl, rfl⟩
theorem slen_nil (w : World) : Calls Try.prog 29 #[.pointer none] w fun e w' => e = .returned (.int .i64 0) ∧ w = w' := by
  go_enter Try.func29, Try.ntmps29
  go_wp2_with fail
  go_ret
  exact ⟨rfl, rfl⟩
theorem sget_any (ps : List FileL) (hl : ps.length ≤ 1048576) (lo ob : Nat) (k : List UInt8) (w : World) (h : ShO w lo ob ps) :
    Calls Try.prog 30 #[.pointer (some ⟨ob, 0, none⟩), .string (tx k)] w fun e w' => Chg NoB w w' ∧ e = .returned (.tuple #[.string (tx (getS ps k).1), .bool (getS ps k).2]) := by
  have HF := Lib.hid (find_any ps hl lo ob k w h)
  obtain ⟨q, c, h1, h2, h3⟩ := h.row
  obtain ⟨kb, hs⟩ := InpS.of_row h2 rfl
  have Hasc := Lib.hid h.asc
  have Hs := Lib.hid hs
  have H1 := Lib.hid h1
  obtain ⟨n, hn⟩ : ∃ n, n = ps.length := ⟨_, rfl⟩
  rw [← hn] at Hs H1 hl
  have Hn := Lib.hid hn
  obtain ⟨G, hG⟩ : ∃ G, G = getS ps k := ⟨_, rfl⟩
  rw [← hG]
  have HG := Lib.hid hG
  clear h h1 h2 h3 hs hn hG
  go_enter Try.func30, Try.ntmps30
  go_wp2_with fail
  refine HF.out.mono ?_
  rintro e w2 ⟨hc2, i, hp, rfl⟩
  have Hc2 := Lib.hid hc2
  have Hib := Lib.hid hp.1
  have o0 := var1 (row_kept hc2 H1.out id)
  rcases place_get Hasc.out hp with ⟨hf, hi, hk, hg⟩ | ⟨hf, hg, -⟩
  · obtain ⟨q', c', he, -, -, hq⟩ := Hs.out.sh
    cases he
    obtain ⟨rfl, -⟩ := hq (by intro e; rw [e] at hi; simp at hi)
    have c1 := hc2.keep (Hs.out.at' i hi).2
    rw [Nat.zero_add] at c1
    rw [hf]
    have Hg := Lib.hid hg
    have hin : i < ps.length := hi
    generalize ps[i].2 = v at *
    clear hc2 hp hf hk hg hq
    go_wp2_with fail
    go_ret2
    exact ⟨Hc2.out, by rw [HG.out, Hg.out]; rfl⟩
  · rw [hf]
    have Hg := Lib.hid hg
    clear hc2 hp hf hg o0
    go_wp2_with fail
    go_ret2
    exact ⟨Hc2.out, by rw [HG.out, Hg.out]; rfl⟩
theorem sget_nil (k : ByteArray) (w : World) : Calls Try.prog 30 #[.pointer none, .string k] w fun e w' => e = .returned (.tuple #[.string ⟨#[]⟩, .bool false]) ∧ w = w' := by
  have h := find_nil k w
  go_enter Try.func30, Try.ntmps30
  go_wp2_with fail
  refine h.mono ?_
  rintro e w' ⟨rfl, rfl⟩
  go_wp2_with fail
  go_ret2
  exact ⟨rfl, rfl⟩
def NewS (w : World) (e : Ending) (w' : World) : Prop := Chg NoB w w' ∧ e = .returned (.pointer (some ⟨w.heap.size, 0, none⟩)) ∧ w'.heap.size = w.heap.size + 1 ∧ w'.heap[w.heap.size]? = some (.cells #[.slice none 0 0] 57 (0, 0))
theorem snew_any (w : World) : Calls Try.prog 19 #[] w (NewS w) := by
  have h1 := (Chg.refl NoB w).alloc (.cells #[.slice none 0 0] 57)
  have h2 := aSize w (.cells #[.slice none 0 0] 57)
  have h3 := heap_alloc_new w (.cells #[.slice none 0 0] 57)
  have H1 := Lib.hid h1
  have H2 := Lib.hid h2
  have H3 := Lib.hid h3
  clear h1 h2 h3
  go_enter Try.func19, Try.ntmps19
  go_wp2_with fail
  go_ret
  exact ⟨H1.out, rfl, H2.out, H3.out⟩
end Go.Proofs.Ytbloglfmhhgccaa
