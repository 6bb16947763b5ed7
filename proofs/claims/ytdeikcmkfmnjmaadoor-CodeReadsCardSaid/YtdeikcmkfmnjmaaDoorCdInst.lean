/- One instruction out of a node: the contract of code.instruction. Conditions: the list of words and the library's variables read as the program's text lays them. -/
import Derived.Test.YtdeikcmkfmnjmaaDoorCdLeaf
import Derived.Test.YtdeikcmkfmnjmaaDoorCdCheck
import Derived.Test.YtdeikcmkfmnjmaaDoorNdLib
import Derived.Deep.RegionHeld3
namespace Go.Proofs.YtdeikcmkfmnjmaaDoor
set_option linter.unusedVariables false
open Go.ChangeShapes Go.WideShapes Go.ChangeAt Go.RowKit
def insZ : InsL := ⟨0, 0, []⟩
def atL (n : Nd) : List UInt8 := n.atom.data.toList
def instF (n : Nd) : InsL × Bool := match n.kids with
  | [] => (insZ, false)
  | k :: r => if nlF (k :: r) ≠ none then (insZ, false)
    else if takesF (opF (atL k)) = 0 then (⟨opF (atL k), 0, []⟩, decide (r = []))
    else match r with
      | [y] => if takesF (opF (atL k)) = 2 then (⟨opF (atL k), 0, atL y⟩, true) else match digP (atL y) with
        | some m => (⟨opF (atL k), m, []⟩, true)
        | none => (⟨opF (atL k), 0, []⟩, false)
      | _ => (insZ, false)
def InstP (n : Nd) (w : World) (e : Ending) (w' : World) : Prop := Chg NoB w w' ∧ e = .returned (.tuple #[(instF n).1.val, .bool (instF n).2])
theorem nl_dec (ks : List Nd) : decide (0 ≤ nlI (nlF ks)) = (nlF ks).isSome := by
  cases nlF ks with
  | none => rfl
  | some k => simp [nlI]
theorem inst_nil {n : Nd} (h : n.kids = []) : instF n = (insZ, false) := by unfold instF; rw [h]
theorem inst_nl {n : Nd} (h : n.kids ≠ []) (h2 : (nlF n.kids).isSome = true) : instF n = (insZ, false) := by
  unfold instF
  cases hk : n.kids with
  | nil => exact absurd hk h
  | cons k r =>
    rw [hk] at h2
    simp only
    rw [if_pos (by intro e; rw [e] at h2; simp at h2)]
theorem inst_zero {n k : Nd} {r : List Nd} (h : n.kids = k :: r) (h2 : (nlF n.kids).isSome = false) (h3 : takesF (opF (atL k)) = 0) : instF n = (⟨opF (atL k), 0, []⟩, decide (r = [])) := by
  unfold instF
  rw [h] at h2 ⊢
  simp only
  rw [if_neg (by simpa using h2), if_pos h3]
theorem inst_many {n k : Nd} {r : List Nd} (h : n.kids = k :: r) (h2 : (nlF n.kids).isSome = false) (h3 : takesF (opF (atL k)) ≠ 0) (h4 : r.length ≠ 1) : instF n = (insZ, false) := by
  unfold instF
  rw [h] at h2 ⊢
  simp only
  rw [if_neg (by simpa using h2), if_neg h3]
  match r, h4 with
  | [], _ => rfl
  | [y], h => exact absurd rfl h
  | _ :: _ :: _, _ => rfl
theorem inst_text {n k y : Nd} (h : n.kids = [k, y]) (h2 : (nlF n.kids).isSome = false) (h3 : takesF (opF (atL k)) = 2) : instF n = (⟨opF (atL k), 0, atL y⟩, true) := by
  unfold instF
  rw [h] at h2 ⊢
  simp only
  rw [if_neg (by simpa using h2), if_neg (by omega), if_pos h3]
theorem inst_num {n k y : Nd} {m : Int} (h : n.kids = [k, y]) (h2 : (nlF n.kids).isSome = false) (h3 : takesF (opF (atL k)) ≠ 0) (h4 : takesF (opF (atL k)) ≠ 2) (h5 : digP (atL y) = some m) : instF n = (⟨opF (atL k), m, []⟩, true) := by
  unfold instF
  rw [h] at h2 ⊢
  simp only
  rw [if_neg (by simpa using h2), if_neg h3, if_neg h4, h5]
theorem inst_bad {n k y : Nd} (h : n.kids = [k, y]) (h2 : (nlF n.kids).isSome = false) (h3 : takesF (opF (atL k)) ≠ 0) (h4 : takesF (opF (atL k)) ≠ 2) (h5 : digP (atL y) = none) : instF n = (⟨opF (atL k), 0, []⟩, false) := by
  unfold instF
  rw [h] at h2 ⊢
  simp only
  rw [if_neg (by simpa using h2), if_neg h3, if_neg h4, h5]
theorem insbox3 {w : World} {g : Nat} {u v t : Value} (h : w.heap[g]? = some (.cells #[u, v, t] 39 (0, 0))) (a b c : Value) :
    (((w.setCell ⟨g, 0, none⟩ a).setCell ⟨g, 1, none⟩ b).setCell ⟨g, 2, none⟩ c).heap[g]? = some (.cells #[a, b, c] 39 (0, 0)) := by
  have h1 := heap_set h (i := 0) a
  have h2 := heap_set h1 (i := 1) b
  exact heap_set h2 (i := 2) c
set_option maxHeartbeats 2000000 in
set_option maxRecDepth 20000 in
theorem inst_any (n : Nd) (S : Nat → Prop) (v : Value) (base : Nat) (w : World) (hl : Lb base w) (hw : Wd base w) (hv : NdV w S v n) (hk : n.kids.length ≤ 1048576) (hat : ∀ y ∈ n.kids, y.atom.size ≤ 281474976710656) :
    Calls Tryd.prog 34 #[v] w (InstP n w) := by
  obtain ⟨ha, s, kb, ko, rfl, hs⟩ := hv
  have hs' := hs
  obtain ⟨⟨q, c, rfl, h1, h2, h3⟩, hc⟩ := hs
  obtain ⟨len, hlen⟩ : ∃ len, len = n.kids.length := ⟨_, rfl⟩
  rw [← hlen] at h1 hs' hk ⊢
  have Hs := Lib.hid hs'
  have H3 := Lib.hid h3
  have Hc := Lib.hid hc
  have Hlen := Lib.hid hlen
  have Hat := Lib.hid hat
  have Hl := Lib.hid hl
  have Hw := Lib.hid hw
  unfold maxLen at h2
  have hal1 := (Chg.refl NoB w).alloc (.cells #[.bool n.leaf, .string n.atom, .slice q len c] 49)
  have hb1 := heap_alloc_new w (.cells #[.bool n.leaf, .string n.atom, .slice q len c] 49)
  obtain ⟨w1, hw1⟩ : ∃ w1, w.alloc (.cells #[.bool n.leaf, .string n.atom, .slice q len c] 49) = w1 := ⟨_, rfl⟩
  obtain ⟨vb, hvb⟩ : ∃ vb, w.heap.size = vb := ⟨_, rfl⟩
  have hz1 : w1.heap.size = vb + 1 := by rw [← hw1, ← hvb]; exact alloc_size _ _
  rw [hw1] at hal1 hb1
  rw [hvb] at hb1
  have hal2 := (Chg.refl NoB w1).alloc (.cells #[.int .i64 0, .int .i64 0, .string ⟨#[]⟩] 39)
  have hb2 := heap_alloc_new w1 (.cells #[.int .i64 0, .int .i64 0, .string ⟨#[]⟩] 39)
  rw [hz1] at hb2
  obtain ⟨w2, hw2⟩ : ∃ w2, w1.alloc (.cells #[.int .i64 0, .int .i64 0, .string ⟨#[]⟩] 39) = w2 := ⟨_, rfl⟩
  obtain ⟨rb, hrb⟩ : ∃ rb, rb = vb + 1 := ⟨_, rfl⟩
  rw [hw2] at hal2 hb2
  rw [← hrb] at hb2
  have HW1 := Lib.hid hw1
  have HW2 := Lib.hid hw2
  have Hvb := Lib.hid hvb
  have Hrb := Lib.hid hrb
  have Hz1 := Lib.hid hz1
  have Hc2 := Lib.hid (hal1.trans hal2)
  have Hv2 := Lib.hid (row_kept hal2 hb1 id)
  have Hr2 := Lib.hid hb2
  clear hs' h3 hc hlen hat hl hw hw1 hw2 hvb hrb hz1 hal1 hal2 hb1 hb2 ha
  go_enter Tryd.func34, Tryd.ntmps34
  go_upto_region 1 with fail
  rw [HW1.out, HW2.out, Hvb.out, ← Hrb.out]
  obtain ⟨v0, v1, v2⟩ := var3 Hv2.out
  obtain ⟨r0, r1, r2⟩ := var3 Hr2.out
  have rf := row_free Hr2.out
  have hwr : w.heap.size ≤ rb := by have := Hvb.out; have := Hrb.out; omega
  have Hwr := Lib.hid hwr
  clear hwr
  have finZ : ∀ (w' : World), Chg NoB w w' → w'.heap[rb]? = some (.cells #[.int .i64 0, .int .i64 0, .string ⟨#[]⟩] 39 (0, 0)) → instF n = (insZ, false) → True := fun _ _ _ _ => trivial
  by_cases hk0 : n.kids = []
  · have hres := inst_nil hk0
    have hl0 : len = 0 := by rw [Hlen.out, hk0]; rfl
    have Hres := Lib.hid hres
    subst hl0
    clear hres hk0 finZ
    go_wp2_with fail
    obtain ⟨e0, e1, e2⟩ := var3 (insbox3 Hr2.out (.int .i64 0) (.int .i64 0) (.string ⟨#[]⟩))
    have hfin := box3_chg (b := rb) Hc2.out Hwr.out (.int .i64 0) (.int .i64 0) (.string ⟨#[]⟩)
    generalize ((w2.setCell ⟨rb, 0, none⟩ (.int .i64 0)).setCell ⟨rb, 1, none⟩ (.int .i64 0)).setCell ⟨rb, 2, none⟩ (.string ⟨#[]⟩) = wf at *
    refine bodyPost_ret (v := .tuple #[insZ.val, .bool false]) (by simp [results, Tryd.results34, go_sem, e0, e1, e2, insZ, InsL.val, tx]) rfl ⟨hfin, ?_⟩
    rw [Hres.out]
  · obtain rfl := H3.out hk0
    have hlz : ((len : Int) == 0) = false := by
      rw [beq_eq_false_iff_ne]
      have := List.length_pos_iff.2 hk0
      rw [← Hlen.out] at this
      omega
    have Hk0 := Lib.hid hk0
    have Hcn := Lib.hid (contains_any n.kids S _ kb ko w2 (by rw [← Hlen.out]; exact hk) (Hs.out.keep Hc2.out fun _ _ => id))
    rw [nl_dec] at Hcn
    obtain ⟨nl, hnl⟩ : ∃ nl, (nlF n.kids).isSome = nl := ⟨_, rfl⟩
    rw [hnl] at Hcn
    have Hnl := Lib.hid hnl
    clear hk0 hnl finZ
    go_wp2_with fail
    refine Hcn.out.mono ?_
    rintro e w3 ⟨rfl, hc3⟩
    have Hc3 := Lib.hid (Hc2.out.trans hc3)
    have Hv3 := Lib.hid (row_kept hc3 Hv2.out id)
    have Hr3 := Lib.hid (row_kept hc3 Hr2.out id)
    clear hc3 Hcn v0 v1 v2 r0 r1 r2 rf Hv2 Hr2 HW1 HW2
    obtain ⟨v0, v1, v2⟩ := var3 Hv3.out
    obtain ⟨r0, r1, r2⟩ := var3 Hr3.out
    have rf := row_free Hr3.out
    cases nl with
    | true =>
      have Hres := Lib.hid (inst_nl Hk0.out Hnl.out)
      go_wp2_with fail
      obtain ⟨e0, e1, e2⟩ := var3 (insbox3 Hr3.out (.int .i64 0) (.int .i64 0) (.string ⟨#[]⟩))
      have hfin := box3_chg (b := rb) Hc3.out Hwr.out (.int .i64 0) (.int .i64 0) (.string ⟨#[]⟩)
      generalize ((w3.setCell ⟨rb, 0, none⟩ (.int .i64 0)).setCell ⟨rb, 1, none⟩ (.int .i64 0)).setCell ⟨rb, 2, none⟩ (.string ⟨#[]⟩) = wf at *
      refine bodyPost_ret (v := .tuple #[insZ.val, .bool false]) (by simp [results, Tryd.results34, go_sem, e0, e1, e2, insZ, InsL.val, tx]) rfl ⟨hfin, ?_⟩
      rw [Hres.out]
    | false =>
      obtain ⟨k, r, hkr⟩ : ∃ k r, n.kids = k :: r := by
        cases h : n.kids with
        | nil => exact absurd h Hk0.out
        | cons k r => exact ⟨k, r, rfl⟩
      have hc0 := Hc.out 0 (by rw [hkr]; simp)
      have hn0 : n.kids[0]'(by rw [hkr]; simp) = k := by simp [hkr]
      rw [hn0] at hc0
      obtain ⟨-, -, s0, kb0, ko0, -, ck, -, -⟩ := hc0.cells
      have ck : w.cell? ⟨kb, ko + 1, none⟩ = some (.string k.atom) := by simpa using ck
      have Hck := Lib.hid (Hc3.out.keep ck)
      have hop := fun w' (hw' : Chg NoB w w') => op_any (atL k) base w' (Hw.out.keep hw')
      have hak : tx (atL k) = k.atom := tx_back k.atom
      rw [hak] at hop
      obtain ⟨op, hopq⟩ : ∃ o, o = opF (atL k) := ⟨_, rfl⟩
      rw [← hopq] at hop
      have Hopq := Lib.hid hopq
      have Hop := Lib.hid hop
      have Hkr := Lib.hid hkr
      have hlr : len = r.length + 1 := by rw [Hlen.out, hkr]; rfl
      have Hlr := Lib.hid hlr
      have hlc : 1 ≤ c := by omega
      have hll : 1 ≤ len := by omega
      clear hkr hc0 hn0 s0 kb0 ko0 ck hop hak hlr hopq
      have a2 := v2
      have ak := Hck.out
      have hdr3 : Chg NoB w3 w3.drew := (Chg.refl NoB w3).drew
      have hA := And.intro a2 ak
      have hI1 : (0 : Int) < (len : Int) := by omega
      have hI2 : (1 : Int) ≤ (len : Int) := by omega
      have hI3 : (len : Int) ≤ (c : Int) := by omega
      have hI4 : 0 < len := by omega
      have hI5 : ¬ len = 0 := by omega
      go_upto_region 3 with fail
      have hbz0 := heap_alloc_new w3 (.cells #[.int .i64 0, .int .i64 0, .string ⟨#[]⟩] 39)
      have halZ : Chg NoB w3 (w3.alloc (.cells #[.int .i64 0, .int .i64 0, .string ⟨#[]⟩] 39)).drew := ((Chg.refl NoB w3).alloc _).drew
      have hA2 := And.intro (halZ.keep a2) (halZ.keep ak)
      have Hbz0 := Lib.hid hbz0
      have hone : c = 1 ∨ 1 < c := by omega
      clear hbz0
      rcases hone with hc1 | hc1
      · obtain rfl : len = 1 := by omega
        subst hc1
        go_region_held3 (fun w' => w'.cell? ⟨vb, 2, none⟩ = some (.slice (some ⟨kb, ko, none⟩) 1 1) ∧ w'.cell? ⟨kb, ko + 1, none⟩ = some (.string k.atom))
          (first | exact hA | exact hA2 | exact hB | exact hZ | exact hC | exact hE)
          ((go_at_call 11; (first
            | (refine (Hop.out w3.drew (Hc3.out.trans hdr3)).mono ?_; rintro e w4 ⟨rfl, hc4'⟩; have hc4 : Chg NoB w3 w4 := hdr3.trans hc4'; have hB := And.intro (hc4.keep a2) (hc4.keep ak); have hcz := hc4.alloc (.cells #[.int .i64 0, .int .i64 0, .string ⟨#[]⟩] 39); have hZ := And.intro (hcz.keep a2) (hcz.keep ak); have hc5 := hc4.alloc (.cells #[.int .i64 op, .int .i64 0, .string ⟨#[]⟩] 39); have hC := And.intro (hc5.keep a2) (hc5.keep ak); have hE := hC; have hbz := heap_alloc_new w4 (.cells #[.int .i64 0, .int .i64 0, .string ⟨#[]⟩] 39); obtain ⟨z0, z1, z2⟩ := var3 hbz; have zf := row_free hbz; have hW1 := Lib.hid hc5; have hX1 := Lib.hid (heap_alloc_new w4 (.cells #[.int .i64 op, .int .i64 0, .string ⟨#[]⟩] 39)); have hS1 := Lib.hid hc4.size)
            | (refine (Hop.out _ (Hc3.out.trans halZ)).mono ?_; rintro e w4 ⟨rfl, hc4'⟩; have hc4 : Chg NoB w3 w4 := halZ.trans hc4'; have hB := And.intro (hc4.keep a2) (hc4.keep ak); have hZ := hB; have hC := hB; have hcz := hc4; have hc5 := hc4; have hbz := row_kept hc4' Hbz0.out id; obtain ⟨z0, z1, z2⟩ := var3 hbz; have zf := row_free hbz; have hcs := box3_chg (b := w3.heap.size) hc4 (Nat.le_refl _) (.int .i64 op) (.int .i64 0) (.string ⟨#[]⟩); have hE := And.intro (hcs.keep a2) (hcs.keep ak); have hW2 := Lib.hid hcs; have hX2 := Lib.hid (insbox3 hbz (.int .i64 op) (.int .i64 0) (.string ⟨#[]⟩)); have hS2 := Lib.hid (Nat.le_refl w3.heap.size); clear hcs))))
        all_goals
          have Hrl : Hid (1 - 1 = 0) := Lib.hid rfl
          clear hA hA2 hB hZ hC hE z0 z1 z2 zf hbz hc5 hcz hc4 hc4' a2 ak v0 v1 v2 r0 r1 r2 rf halZ hdr3 Hbz0
          try clear hHeld
          first
            | (have hc35 := hW1.out; have hx5 := hX1.out; have hxr : rb < w4.heap.size := Nat.lt_of_lt_of_le (lt_of_block Hr3.out) hS1.out; have hxw : w.heap.size ≤ w4.heap.size := Nat.le_trans Hc3.out.size hS1.out; clear hW1 hX1 hS1; generalize w4.alloc (.cells #[.int .i64 op, .int .i64 0, .string ⟨#[]⟩] 39) = w5 at hc35 hx5 ⊢; generalize w4.heap.size = xb at hx5 hxr hxw ⊢)
            | (have hc35 := hW2.out; have hx5 := hX2.out; have hxr : rb < w3.heap.size := lt_of_block Hr3.out; have hxw : w.heap.size ≤ w3.heap.size := Hc3.out.size; clear hW2 hX2 hS2; generalize ((((w4.setCell ⟨w3.heap.size, 0, none⟩ (.int .i64 op)).setCell ⟨w3.heap.size, 1, none⟩ (.int .i64 0)).setCell ⟨w3.heap.size, 2, none⟩ (.string ⟨#[]⟩))) = w5 at hc35 hx5 ⊢; generalize w3.heap.size = xb at hx5 hxr hxw ⊢)
          have Hr5 := Lib.hid (row_kept hc35 Hr3.out id)
          have Hc5 := Lib.hid (Hc3.out.trans hc35)
          have Hx5 := Lib.hid hx5
          have Hxs := Lib.hid hxw
          have Hxr := Lib.hid (show ¬ rb = xb by omega)
          clear hc35 hx5 hxw hxr Hr3 Hc3 Hv3 Hck
          obtain ⟨tk, htk⟩ : ∃ t, t = takesF (op : Int) := ⟨_, rfl⟩
          have Ht := Lib.hid (takes_any op w5)
          rw [← htk] at Ht
          have Htk := Lib.hid htk
          clear htk
          obtain ⟨x0, x1, x2⟩ := var3 Hx5.out
          go_wp2_with fail
          refine Ht.out.mono ?_
          rintro e w6 ⟨rfl, hc6⟩
          have Hc6 := Lib.hid (Hc5.out.trans hc6)
          have Hr6 := Lib.hid (row_kept hc6 Hr5.out id)
          have Hx6 := Lib.hid (row_kept hc6 Hx5.out id)
          clear hc6 Ht x0 x1 x2 Hr5 Hx5
          obtain ⟨x0, x1, x2⟩ := var3 Hx6.out
          obtain ⟨r0, r1, r2⟩ := var3 Hr6.out
          have rf := row_free Hr6.out
          have xf := row_free Hx6.out
          by_cases ht0 : tk = 0
          · have hb : (tk == 0) = true := by rw [beq_iff_eq]; exact ht0
            have Hres : Hid (instF n = (⟨op, 0, []⟩, true)) := Lib.hid (by
              have h := inst_zero Hkr.out Hnl.out (by rw [← Hopq.out, ← Htk.out]; exact ht0)
              rw [← Hopq.out] at h
              rw [h]
              have hr : r = [] := List.eq_nil_of_length_eq_zero (by have := Hlr.out; have := Hrl.out; omega)
              rw [hr]; rfl)
            clear ht0
            go_wp2_with fail
            obtain ⟨e0, e1, e2⟩ := var3 (insbox3 Hr6.out (.int .i64 op) (.int .i64 0) (.string ⟨#[]⟩))
            have hfin := box3_chg (b := rb) Hc6.out Hwr.out (.int .i64 op) (.int .i64 0) (.string ⟨#[]⟩)
            generalize ((w6.setCell ⟨rb, 0, none⟩ (.int .i64 op)).setCell ⟨rb, 1, none⟩ (.int .i64 0)).setCell ⟨rb, 2, none⟩ (.string ⟨#[]⟩) = wf at *
            refine bodyPost_ret (v := .tuple #[InsL.val ⟨op, 0, []⟩, .bool true]) (by simp [results, Tryd.results34, go_sem, e0, e1, e2, InsL.val, tx]) rfl ⟨hfin, ?_⟩
            rw [Hres.out]
          · have hb : (tk == 0) = false := by rw [beq_eq_false_iff_ne]; exact ht0
            have Hres := Lib.hid (inst_many Hkr.out Hnl.out (by rw [← Hopq.out, ← Htk.out]; exact ht0) (by have := Hlr.out; have := Hrl.out; omega))
            clear ht0
            go_wp2_with fail
            obtain ⟨e0, e1, e2⟩ := var3 (insbox3 Hr6.out (.int .i64 0) (.int .i64 0) (.string ⟨#[]⟩))
            have hfin := box3_chg (b := rb) Hc6.out Hwr.out (.int .i64 0) (.int .i64 0) (.string ⟨#[]⟩)
            generalize ((w6.setCell ⟨rb, 0, none⟩ (.int .i64 0)).setCell ⟨rb, 1, none⟩ (.int .i64 0)).setCell ⟨rb, 2, none⟩ (.string ⟨#[]⟩) = wf at *
            refine bodyPost_ret (v := .tuple #[InsL.val insZ, .bool false]) (by simp [results, Tryd.results34, go_sem, e0, e1, e2, insZ, InsL.val, tx]) rfl ⟨hfin, ?_⟩
            rw [Hres.out]
      · have hc1' : ¬ c = 1 := by omega
        go_region_held3 (fun w' => w'.cell? ⟨vb, 2, none⟩ = some (.slice (some ⟨kb, ko, none⟩) len c) ∧ w'.cell? ⟨kb, ko + 1, none⟩ = some (.string k.atom))
          (first | exact hA | exact hA2 | exact hB | exact hZ | exact hC | exact hE)
          ((go_at_call 11; (first
            | (refine (Hop.out w3.drew (Hc3.out.trans hdr3)).mono ?_; rintro e w4 ⟨rfl, hc4'⟩; have hc4 : Chg NoB w3 w4 := hdr3.trans hc4'; have hB := And.intro (hc4.keep a2) (hc4.keep ak); have hcz := hc4.alloc (.cells #[.int .i64 0, .int .i64 0, .string ⟨#[]⟩] 39); have hZ := And.intro (hcz.keep a2) (hcz.keep ak); have hc5 := hc4.alloc (.cells #[.int .i64 op, .int .i64 0, .string ⟨#[]⟩] 39); have hC := And.intro (hc5.keep a2) (hc5.keep ak); have hE := hC; have hbz := heap_alloc_new w4 (.cells #[.int .i64 0, .int .i64 0, .string ⟨#[]⟩] 39); obtain ⟨z0, z1, z2⟩ := var3 hbz; have zf := row_free hbz; have hW1 := Lib.hid hc5; have hX1 := Lib.hid (heap_alloc_new w4 (.cells #[.int .i64 op, .int .i64 0, .string ⟨#[]⟩] 39)); have hS1 := Lib.hid hc4.size)
            | (refine (Hop.out _ (Hc3.out.trans halZ)).mono ?_; rintro e w4 ⟨rfl, hc4'⟩; have hc4 : Chg NoB w3 w4 := halZ.trans hc4'; have hB := And.intro (hc4.keep a2) (hc4.keep ak); have hZ := hB; have hC := hB; have hcz := hc4; have hc5 := hc4; have hbz := row_kept hc4' Hbz0.out id; obtain ⟨z0, z1, z2⟩ := var3 hbz; have zf := row_free hbz; have hcs := box3_chg (b := w3.heap.size) hc4 (Nat.le_refl _) (.int .i64 op) (.int .i64 0) (.string ⟨#[]⟩); have hE := And.intro (hcs.keep a2) (hcs.keep ak); have hW2 := Lib.hid hcs; have hX2 := Lib.hid (insbox3 hbz (.int .i64 op) (.int .i64 0) (.string ⟨#[]⟩)); have hS2 := Lib.hid (Nat.le_refl w3.heap.size); clear hcs))))
        all_goals
          clear hA hA2 hB hZ hC hE z0 z1 z2 zf hbz hc5 hcz hc4 hc4' a2 ak v0 v1 v2 r0 r1 r2 rf halZ hdr3 Hbz0
          try clear hHeld
          first
            | (have hc35 := hW1.out; have hx5 := hX1.out; have hxr : rb < w4.heap.size := Nat.lt_of_lt_of_le (lt_of_block Hr3.out) hS1.out; have hxw : w.heap.size ≤ w4.heap.size := Nat.le_trans Hc3.out.size hS1.out; clear hW1 hX1 hS1; generalize w4.alloc (.cells #[.int .i64 op, .int .i64 0, .string ⟨#[]⟩] 39) = w5 at hc35 hx5 ⊢; generalize w4.heap.size = xb at hx5 hxr hxw ⊢)
            | (have hc35 := hW2.out; have hx5 := hX2.out; have hxr : rb < w3.heap.size := lt_of_block Hr3.out; have hxw : w.heap.size ≤ w3.heap.size := Hc3.out.size; clear hW2 hX2 hS2; generalize ((((w4.setCell ⟨w3.heap.size, 0, none⟩ (.int .i64 op)).setCell ⟨w3.heap.size, 1, none⟩ (.int .i64 0)).setCell ⟨w3.heap.size, 2, none⟩ (.string ⟨#[]⟩))) = w5 at hc35 hx5 ⊢; generalize w3.heap.size = xb at hx5 hxr hxw ⊢)
          have Hr5 := Lib.hid (row_kept hc35 Hr3.out id)
          have Hc5 := Lib.hid (Hc3.out.trans hc35)
          have Hx5 := Lib.hid hx5
          have Hxs := Lib.hid hxw
          have Hxr := Lib.hid (show ¬ rb = xb by omega)
          clear hc35 hx5 hxw hxr Hr3 Hc3 Hv3 Hck
          obtain ⟨tk, htk⟩ : ∃ t, t = takesF (op : Int) := ⟨_, rfl⟩
          have Ht := Lib.hid (takes_any op w5)
          rw [← htk] at Ht
          have Htk := Lib.hid htk
          clear htk
          obtain ⟨x0, x1, x2⟩ := var3 Hx5.out
          obtain ⟨rl, hrl⟩ : ∃ r, r = len - 1 := ⟨_, rfl⟩
          rw [← hrl]
          have Hrl := Lib.hid hrl
          have hr3 : rl = 0 ∨ rl = 1 ∨ 1 < rl := by omega
          clear hrl
          rcases hr3 with hr | hr | hr
          · subst hr
            go_wp2_with fail
            refine Ht.out.mono ?_
            rintro e w6 ⟨rfl, hc6⟩
            have Hc6 := Lib.hid (Hc5.out.trans hc6)
            have Hr6 := Lib.hid (row_kept hc6 Hr5.out id)
            have Hx6 := Lib.hid (row_kept hc6 Hx5.out id)
            clear hc6 Ht x0 x1 x2 Hr5 Hx5
            obtain ⟨x0, x1, x2⟩ := var3 Hx6.out
            obtain ⟨r0, r1, r2⟩ := var3 Hr6.out
            have rf := row_free Hr6.out
            have xf := row_free Hx6.out
            by_cases ht0 : tk = 0
            · have hb : (tk == 0) = true := by rw [beq_iff_eq]; exact ht0
              have Hres : Hid (instF n = (⟨op, 0, []⟩, true)) := Lib.hid (by
                have h := inst_zero Hkr.out Hnl.out (by rw [← Hopq.out, ← Htk.out]; exact ht0)
                rw [← Hopq.out] at h
                rw [h]
                have hr : r = [] := List.eq_nil_of_length_eq_zero (by have := Hlr.out; have := Hrl.out; omega)
                rw [hr]; rfl)
              clear ht0
              go_wp2_with fail
              obtain ⟨e0, e1, e2⟩ := var3 (insbox3 Hr6.out (.int .i64 op) (.int .i64 0) (.string ⟨#[]⟩))
              have hfin := box3_chg (b := rb) Hc6.out Hwr.out (.int .i64 op) (.int .i64 0) (.string ⟨#[]⟩)
              generalize ((w6.setCell ⟨rb, 0, none⟩ (.int .i64 op)).setCell ⟨rb, 1, none⟩ (.int .i64 0)).setCell ⟨rb, 2, none⟩ (.string ⟨#[]⟩) = wf at *
              refine bodyPost_ret (v := .tuple #[InsL.val ⟨op, 0, []⟩, .bool true]) (by simp [results, Tryd.results34, go_sem, e0, e1, e2, InsL.val, tx]) rfl ⟨hfin, ?_⟩
              rw [Hres.out]
            · have hb : (tk == 0) = false := by rw [beq_eq_false_iff_ne]; exact ht0
              have Hres := Lib.hid (inst_many Hkr.out Hnl.out (by rw [← Hopq.out, ← Htk.out]; exact ht0) (by have := Hlr.out; have := Hrl.out; omega))
              clear ht0
              go_wp2_with fail
              obtain ⟨e0, e1, e2⟩ := var3 (insbox3 Hr6.out (.int .i64 0) (.int .i64 0) (.string ⟨#[]⟩))
              have hfin := box3_chg (b := rb) Hc6.out Hwr.out (.int .i64 0) (.int .i64 0) (.string ⟨#[]⟩)
              generalize ((w6.setCell ⟨rb, 0, none⟩ (.int .i64 0)).setCell ⟨rb, 1, none⟩ (.int .i64 0)).setCell ⟨rb, 2, none⟩ (.string ⟨#[]⟩) = wf at *
              refine bodyPost_ret (v := .tuple #[InsL.val insZ, .bool false]) (by simp [results, Tryd.results34, go_sem, e0, e1, e2, insZ, InsL.val, tx]) rfl ⟨hfin, ?_⟩
              rw [Hres.out]
          · subst hr
            go_wp2_with fail
            refine Ht.out.mono ?_
            rintro e w6 ⟨rfl, hc6⟩
            have Hc6 := Lib.hid (Hc5.out.trans hc6)
            have Hr6 := Lib.hid (row_kept hc6 Hr5.out id)
            have Hx6 := Lib.hid (row_kept hc6 Hx5.out id)
            clear hc6 Ht x0 x1 x2 Hr5 Hx5
            obtain ⟨x0, x1, x2⟩ := var3 Hx6.out
            obtain ⟨r0, r1, r2⟩ := var3 Hr6.out
            have rf := row_free Hr6.out
            have xf := row_free Hx6.out
            by_cases ht0 : tk = 0
            · have hb : (tk == 0) = true := by rw [beq_iff_eq]; exact ht0
              have Hres : Hid (instF n = (⟨op, 0, []⟩, false)) := Lib.hid (by
                have h := inst_zero Hkr.out Hnl.out (by rw [← Hopq.out, ← Htk.out]; exact ht0)
                rw [← Hopq.out] at h
                rw [h]
                have hr : r ≠ [] := by rintro rfl; have := Hlr.out; have := Hrl.out; simp at *; omega
                rw [decide_eq_false hr])
              clear ht0
              go_wp2_with fail
              obtain ⟨e0, e1, e2⟩ := var3 (insbox3 Hr6.out (.int .i64 op) (.int .i64 0) (.string ⟨#[]⟩))
              have hfin := box3_chg (b := rb) Hc6.out Hwr.out (.int .i64 op) (.int .i64 0) (.string ⟨#[]⟩)
              generalize ((w6.setCell ⟨rb, 0, none⟩ (.int .i64 op)).setCell ⟨rb, 1, none⟩ (.int .i64 0)).setCell ⟨rb, 2, none⟩ (.string ⟨#[]⟩) = wf at *
              refine bodyPost_ret (v := .tuple #[InsL.val ⟨op, 0, []⟩, .bool false]) (by simp [results, Tryd.results34, go_sem, e0, e1, e2, InsL.val, tx]) rfl ⟨hfin, ?_⟩
              rw [Hres.out]
            · have hb : (tk == 0) = false := by rw [beq_eq_false_iff_ne]; exact ht0
              obtain ⟨y, hy⟩ : ∃ y, n.kids = [k, y] := by
                have h1 := Hlr.out
                have h2 := Hrl.out
                match r, h1, Hkr.out with
                | [y], _, h => exact ⟨y, h⟩
                | [], h, _ => simp at h; omega
                | _ :: _ :: _, h, _ => simp at h; omega
              have Hy := Lib.hid hy
              have hcy := Hc.out 1 (by rw [hy]; simp)
              have hn1 : n.kids[1]'(by rw [hy]; simp) = y := by simp [hy]
              rw [hn1] at hcy
              obtain ⟨-, hya, s1, kb1, ko1, -, cy, -, -⟩ := hcy.cells
              have e4 : ko + 1 * 3 + 1 = ko + 4 := by omega
              rw [e4] at cy
              have Hcy := Lib.hid (Hc6.out.keep cy)
              have Hya : Hid (y.atom.size ≤ 281474976710656) := Lib.hid (Hat.out y (by rw [hy]; simp))
              have hya2 : tx (atL y) = y.atom := tx_back y.atom
              have Hya2 := Lib.hid hya2
              clear hy hcy hn1 s1 kb1 ko1 cy e4 hya hya2
              by_cases ht2 : tk = 2
              · have hb2 : (tk == 2) = true := by rw [beq_iff_eq]; exact ht2
                have Hres : Hid (instF n = (⟨op, 0, atL y⟩, true)) := Lib.hid (by
                  have h := inst_text Hy.out Hnl.out (by rw [← Hopq.out, ← Htk.out]; exact ht2)
                  rw [← Hopq.out] at h
                  exact h)
                have cy := Hcy.out
                have hc67 : Chg (fun k => k = xb) w6 (w6.setCell ⟨xb, 2, none⟩ (.string y.atom)) := Chg.setCell (S := fun k => k = xb) (p := ⟨xb, 2, none⟩) (Chg.refl _ w6) (.inl rfl) _
                have Hr7 := Lib.hid (row_kept hc67 Hr6.out (by show ¬ rb = xb; exact Hxr.out))
                have Hc7 := Lib.hid (show Chg NoB w (w6.setCell ⟨xb, 2, none⟩ (.string y.atom)) from Hc6.out.setCell (.inr Hxs.out) _)
                have hne : ¬ rb = xb := Hxr.out
                clear ht2 ht0 hc67
                go_wp2_with fail
                obtain ⟨e0, e1, e2⟩ := var3 (insbox3 Hr7.out (.int .i64 op) (.int .i64 0) (.string y.atom))
                have hfin := box3_chg (b := rb) Hc7.out Hwr.out (.int .i64 op) (.int .i64 0) (.string y.atom)
                generalize (((w6.setCell ⟨xb, 2, none⟩ (.string y.atom)).setCell ⟨rb, 0, none⟩ (.int .i64 op)).setCell ⟨rb, 1, none⟩ (.int .i64 0)).setCell ⟨rb, 2, none⟩ (.string y.atom) = wf at *
                refine bodyPost_ret (v := .tuple #[InsL.val ⟨op, 0, atL y⟩, .bool true]) (by simp [results, Tryd.results34, go_sem, e0, e1, e2, InsL.val, Hya2.out]) rfl ⟨hfin, ?_⟩
                rw [Hres.out]
              · have hb2 : (tk == 2) = false := by rw [beq_eq_false_iff_ne]; exact ht2
                have cy := Hcy.out
                have hne : ¬ rb = xb := Hxr.out
                have Hdg := Lib.hid (digits_any y.atom base w6 (Hl.out.keep Hc6.out) Hya.out)
                cases hdp : digP (atL y) with
                | none =>
                  have Hres : Hid (instF n = (⟨op, 0, []⟩, false)) := Lib.hid (by
                    have h := inst_bad Hy.out Hnl.out (by rw [← Hopq.out, ← Htk.out]; exact ht0) (by rw [← Hopq.out, ← Htk.out]; exact ht2) hdp
                    rw [← Hopq.out] at h
                    exact h)
                  have hdp' : digP y.atom.data.toList = none := hdp
                  rw [hdp'] at Hdg
                  clear ht2 ht0 hdp hdp'
                  go_wp2_with fail
                  refine Hdg.out.mono ?_
                  rintro e w7 ⟨hc7, rfl⟩
                  have Hr7 := Lib.hid (row_kept hc7 Hr6.out id)
                  have Hx7 := Lib.hid (row_kept hc7 Hx6.out id)
                  have Hc7 := Lib.hid (Hc6.out.trans hc7)
                  clear hc7 Hdg x0 x1 x2 r0 r1 r2 rf xf cy
                  obtain ⟨x0, x1, x2⟩ := var3 Hx7.out
                  obtain ⟨r0, r1, r2⟩ := var3 Hr7.out
                  have rf := row_free Hr7.out
                  have xf := row_free Hx7.out
                  have hc78 : Chg (fun k => k = xb) w7 (w7.setCell ⟨xb, 1, none⟩ (.int .i64 0)) := Chg.setCell (S := fun k => k = xb) (p := ⟨xb, 1, none⟩) (Chg.refl _ w7) (.inl rfl) _
                  have Hr8 := Lib.hid (row_kept hc78 Hr7.out (by show ¬ rb = xb; exact Hxr.out))
                  have Hc8 := Lib.hid (show Chg NoB w (w7.setCell ⟨xb, 1, none⟩ (.int .i64 0)) from Hc7.out.setCell (.inr Hxs.out) _)
                  clear hc78
                  go_wp2_with fail
                  obtain ⟨e0, e1, e2⟩ := var3 (insbox3 Hr8.out (.int .i64 op) (.int .i64 0) (.string ⟨#[]⟩))
                  have hfin := box3_chg (b := rb) Hc8.out Hwr.out (.int .i64 op) (.int .i64 0) (.string ⟨#[]⟩)
                  generalize (((w7.setCell ⟨xb, 1, none⟩ (.int .i64 0)).setCell ⟨rb, 0, none⟩ (.int .i64 op)).setCell ⟨rb, 1, none⟩ (.int .i64 0)).setCell ⟨rb, 2, none⟩ (.string ⟨#[]⟩) = wf at *
                  refine bodyPost_ret (v := .tuple #[InsL.val ⟨op, 0, []⟩, .bool false]) (by simp [results, Tryd.results34, go_sem, e0, e1, e2, InsL.val, tx]) rfl ⟨hfin, ?_⟩
                  rw [Hres.out]
                | some m =>
                  have Hres : Hid (instF n = (⟨op, m, []⟩, true)) := Lib.hid (by
                    have h := inst_num Hy.out Hnl.out (by rw [← Hopq.out, ← Htk.out]; exact ht0) (by rw [← Hopq.out, ← Htk.out]; exact ht2) hdp
                    rw [← Hopq.out] at h
                    exact h)
                  have hdp' : digP y.atom.data.toList = some m := hdp
                  rw [hdp'] at Hdg
                  clear ht2 ht0 hdp hdp'
                  go_wp2_with fail
                  refine Hdg.out.mono ?_
                  rintro e w7 ⟨hc7, rfl⟩
                  have Hr7 := Lib.hid (row_kept hc7 Hr6.out id)
                  have Hx7 := Lib.hid (row_kept hc7 Hx6.out id)
                  have Hc7 := Lib.hid (Hc6.out.trans hc7)
                  clear hc7 Hdg x0 x1 x2 r0 r1 r2 rf xf cy
                  obtain ⟨x0, x1, x2⟩ := var3 Hx7.out
                  obtain ⟨r0, r1, r2⟩ := var3 Hr7.out
                  have rf := row_free Hr7.out
                  have xf := row_free Hx7.out
                  have hc78 : Chg (fun k => k = xb) w7 (w7.setCell ⟨xb, 1, none⟩ (.int .i64 m)) := Chg.setCell (S := fun k => k = xb) (p := ⟨xb, 1, none⟩) (Chg.refl _ w7) (.inl rfl) _
                  have Hr8 := Lib.hid (row_kept hc78 Hr7.out (by show ¬ rb = xb; exact Hxr.out))
                  have Hc8 := Lib.hid (show Chg NoB w (w7.setCell ⟨xb, 1, none⟩ (.int .i64 m)) from Hc7.out.setCell (.inr Hxs.out) _)
                  clear hc78
                  go_wp2_with fail
                  obtain ⟨e0, e1, e2⟩ := var3 (insbox3 Hr8.out (.int .i64 op) (.int .i64 m) (.string ⟨#[]⟩))
                  have hfin := box3_chg (b := rb) Hc8.out Hwr.out (.int .i64 op) (.int .i64 m) (.string ⟨#[]⟩)
                  generalize (((w7.setCell ⟨xb, 1, none⟩ (.int .i64 m)).setCell ⟨rb, 0, none⟩ (.int .i64 op)).setCell ⟨rb, 1, none⟩ (.int .i64 m)).setCell ⟨rb, 2, none⟩ (.string ⟨#[]⟩) = wf at *
                  refine bodyPost_ret (v := .tuple #[InsL.val ⟨op, m, []⟩, .bool true]) (by simp [results, Tryd.results34, go_sem, e0, e1, e2, InsL.val, tx]) rfl ⟨hfin, ?_⟩
                  rw [Hres.out]
          · have hq1 : ((rl : Int) == 0) = false := by rw [beq_eq_false_iff_ne]; omega
            have hq2 : ((rl : Int) != 1) = true := by rw [bne_iff_ne]; omega
            have hq3 : ((rl : Int) == 1) = false := by rw [beq_eq_false_iff_ne]; omega
            go_wp2_with fail
            refine Ht.out.mono ?_
            rintro e w6 ⟨rfl, hc6⟩
            have Hc6 := Lib.hid (Hc5.out.trans hc6)
            have Hr6 := Lib.hid (row_kept hc6 Hr5.out id)
            have Hx6 := Lib.hid (row_kept hc6 Hx5.out id)
            clear hc6 Ht x0 x1 x2 Hr5 Hx5
            obtain ⟨x0, x1, x2⟩ := var3 Hx6.out
            obtain ⟨r0, r1, r2⟩ := var3 Hr6.out
            have rf := row_free Hr6.out
            have xf := row_free Hx6.out
            by_cases ht0 : tk = 0
            · have hb : (tk == 0) = true := by rw [beq_iff_eq]; exact ht0
              have Hres : Hid (instF n = (⟨op, 0, []⟩, false)) := Lib.hid (by
                have h := inst_zero Hkr.out Hnl.out (by rw [← Hopq.out, ← Htk.out]; exact ht0)
                rw [← Hopq.out] at h
                rw [h]
                have hr : r ≠ [] := by rintro rfl; have := Hlr.out; have := Hrl.out; simp at *; omega
                rw [decide_eq_false hr])
              clear ht0
              go_wp2_with fail
              obtain ⟨e0, e1, e2⟩ := var3 (insbox3 Hr6.out (.int .i64 op) (.int .i64 0) (.string ⟨#[]⟩))
              have hfin := box3_chg (b := rb) Hc6.out Hwr.out (.int .i64 op) (.int .i64 0) (.string ⟨#[]⟩)
              generalize ((w6.setCell ⟨rb, 0, none⟩ (.int .i64 op)).setCell ⟨rb, 1, none⟩ (.int .i64 0)).setCell ⟨rb, 2, none⟩ (.string ⟨#[]⟩) = wf at *
              refine bodyPost_ret (v := .tuple #[InsL.val ⟨op, 0, []⟩, .bool false]) (by simp [results, Tryd.results34, go_sem, e0, e1, e2, InsL.val, tx]) rfl ⟨hfin, ?_⟩
              rw [Hres.out]
            · have hb : (tk == 0) = false := by rw [beq_eq_false_iff_ne]; exact ht0
              have Hres := Lib.hid (inst_many Hkr.out Hnl.out (by rw [← Hopq.out, ← Htk.out]; exact ht0) (by have := Hlr.out; have := Hrl.out; omega))
              clear ht0
              go_wp2_with fail
              obtain ⟨e0, e1, e2⟩ := var3 (insbox3 Hr6.out (.int .i64 0) (.int .i64 0) (.string ⟨#[]⟩))
              have hfin := box3_chg (b := rb) Hc6.out Hwr.out (.int .i64 0) (.int .i64 0) (.string ⟨#[]⟩)
              generalize ((w6.setCell ⟨rb, 0, none⟩ (.int .i64 0)).setCell ⟨rb, 1, none⟩ (.int .i64 0)).setCell ⟨rb, 2, none⟩ (.string ⟨#[]⟩) = wf at *
              refine bodyPost_ret (v := .tuple #[InsL.val insZ, .bool false]) (by simp [results, Tryd.results34, go_sem, e0, e1, e2, insZ, InsL.val, tx]) rfl ⟨hfin, ?_⟩
              rw [Hres.out]
end Go.Proofs.YtdeikcmkfmnjmaaDoor
