/- Rows of files held against one another, and whether a tree can be: the contracts of Equal, of the document's Same, of the program's Good. Conditions: at most 2^20 files, paths of at most 2^20 bytes; the library's own variable holds some number. -/
import Derived.Test.YthehpmffkkogpaaGreatDoorTrMake
import Derived.Shelf.SlicesQ.Equal
import Derived.DeepKeys
namespace Go.Proofs.YthehpmffkkogpaaGreatDoor
set_option linter.unusedVariables false
open Go.ChangeShapes Go.WideShapes Go.ChangeAt Go.RowKit
theorem retB {a b : Bool} (h : a = b) : Ending.returned (.bool a) = .returned (.bool b) := by rw [h]
theorem txl_iff (a b : List UInt8) : (tx a).toList = (tx b).toList ↔ a = b := by
  rw [Lib.toList_data, Lib.toList_data, tx_list, tx_list]
theorem neqF (x y : FileL) (w : World) : (binOp .neq 43 (.agg (encF x).toArray) (.agg (encF y).toArray)).run Tryz.prog w = .ok (.bool (!decide (x = y))) w := by
  obtain ⟨x1, x2⟩ := x
  obtain ⟨y1, y2⟩ := y
  unfold encF
  go_simp
  simp only [txl_iff]
  by_cases h1 : x1 = y1
  · by_cases h2 : x2 = y2
    · simp [h1, h2]
    · simp [h1, h2]
  · simp [h1]
theorem eqAtF : NeqAt Tryz.prog 43 (fun x : FileL => .agg (encF x).toArray) (fun x y => decide (x = y)) := ⟨fun x y w => neqF x y w, GuardAt.agg (fun x : FileL => (encF x).toArray) (by kernel_rfl)⟩
theorem allEq_dec : ∀ (xs ys : List FileL), Lib.allEq (fun x y => decide (x = y)) xs ys = decide (xs = ys)
  | [], [] => by rfl
  | [], _ :: _ => by simp [Lib.allEq]
  | _ :: _, [] => by simp [Lib.allEq]
  | x :: xs, y :: ys => by
    rw [Lib.allEq, allEq_dec xs ys]
    by_cases h : x = y
    · subst h; simp
    · simp [h]
theorem row_cells {w : World} {S : Nat → Prop} {v : Value} {xs : List FileL} {kb ko : Nat} (hs : InpS w S v xs kb ko) : ∀ j, j < xs.length → ∀ i u, (encF xs[j]!)[i]? = some u → w.cell? ⟨kb, ko + j * 2 + i, none⟩ = some u := fun j hj i u hu => by
  rw [getElem!_pos xs j hj] at hu
  unfold encF at hu
  obtain ⟨c0, c1⟩ := hs.at' j hj
  match i, hu with
  | 0, hu => cases hu; simpa using c0
  | 1, hu => cases hu; exact c1
theorem equal_any (xs ys : List FileL) (S U : Nat → Prop) (v u : Value) (kb ko jb jo : Nat) (w : World) (hx : xs.length ≤ 1048576) (hy : ys.length ≤ 1048576) (hs : InpS w S v xs kb ko) (ht : InpS w U u ys jb jo) :
    Calls Tryz.prog 38 #[v, u] w (SayB (decide (xs = ys)) w) := by
  have hc1 := row_cells hs
  have hc2 := row_cells ht
  obtain ⟨⟨q, c, rfl, h1, h2, h3⟩, hat⟩ := hs
  obtain ⟨⟨q', c', rfl, h1', h2', h3'⟩, hat'⟩ := ht
  by_cases hl : xs.length = ys.length
  · by_cases hn : xs = []
    · subst hn
      obtain rfl : ys = [] := List.eq_nil_of_length_eq_zero (by simpa using hl.symm)
      clear hc1 hc2 h3 h3' hat hat' hl
      simp only [List.length_nil]
      go_enter Tryz.func38, Tryz.ntmps38
      go_wp2
      refine wp_loop_rounds 1 ?_
      rw [rounds_succ]
      go_wp2
      go_ret
      exact ⟨by simp, Chg.refl _ _⟩
    · have hn' : ys ≠ [] := fun e => hn (List.eq_nil_of_length_eq_zero (by rw [hl, e]; rfl))
      obtain ⟨rfl, -⟩ := h3 hn
      obtain ⟨rfl, -⟩ := h3' hn'
      refine (Tryz.slices_Equal 2 isAggF sizeF encF encF_len (fun x y => decide (x = y)) eqAtF kb ko xs.length c jb jo ys.length c' xs ys w (Nat.le_refl _) (Nat.le_refl _) (by omega) (by omega) hc1 hc2).mono ?_
      rintro e w' ⟨rfl, n, rfl⟩
      refine ⟨?_, (Chg.refl _ _).drewN n⟩
      rw [List.take_of_length_le (Nat.le_refl _), List.take_of_length_le (Nat.le_refl _), allEq_dec]
  · have hne : ¬ xs = ys := fun e => hl (by rw [e])
    have hd : decide (xs = ys) = false := decide_eq_false hne
    rw [hd]
    obtain ⟨n, hn⟩ : ∃ n, n = xs.length := ⟨_, rfl⟩
    obtain ⟨m, hm⟩ : ∃ m, m = ys.length := ⟨_, rfl⟩
    rw [← hn, ← hm] at hl ⊢
    have hb : ((n : Int) != (m : Int)) = true := by rw [bne_iff_ne]; omega
    clear hc1 hc2 h3 h3' hat hat' hn hm hl hne hd h1 h1' hx hy h2 h2'
    go_enter Tryz.func38, Tryz.ntmps38
    go_wp2
    go_ret
    exact ⟨rfl, Chg.refl _ _⟩
theorem make_err {l : List FileL} {y : Int} (h : makeF l = .error y) : y ≠ 0 := by
  unfold makeF at h
  split at h
  · cases h; decide
  · split at h
    · rename_i z hz
      cases h
      have : ∀ (l : List FileL), badF l = some y → y ≠ 0 := by
        intro l
        induction l with
        | nil => intro h; cases h
        | cons f r ih =>
          intro h
          rw [badF] at h
          split at h
          · cases h; decide
          · split at h
            · cases h; decide
            · exact ih h
      exact this l hz
    · split at h
      · split at h
        · cases h; decide
        · cases h
      · cases h; decide
theorem make_len {l d : List FileL} (h : makeF l = .ok d) : d.length = l.length ∧ d.Perm l := by
  unfold makeF at h
  split at h
  · cases h
  · split at h
    · cases h
    · split at h
      · rename_i hk
        split at h
        · cases h
        · cases h
          exact ⟨(sortF_perm hk).length_eq, sortF_perm hk⟩
      · cases h
set_option maxHeartbeats 2000000 in
set_option maxRecDepth 20000 in
theorem tgood_any (l : List FileL) (hl : l.length ≤ 1048576) (hw : ∀ x ∈ l, x.1.length ≤ 1048576 ∧ x.2.length ≤ 1048576) (S : Nat → Prop) (v : Value) (kb ko : Nat) (w : World) (hm : Pth.Ml w) (hs : InpS w S v l kb ko) :
    Calls Tryz.prog 23 #[.agg #[v]] w (SayB (goodF l) w) := by
  have Hs := Lib.hid hs
  obtain ⟨⟨q, c, rfl, h1, h2, h3⟩, hat⟩ := hs
  obtain ⟨n, hn⟩ : ∃ n, n = l.length := ⟨_, rfl⟩
  rw [← hn] at Hs hl ⊢
  have hal := (Chg.refl NoB w).alloc (.cells #[.slice q n c] 25)
  have hb := heap_alloc_new w (.cells #[.slice q n c] 25)
  obtain ⟨tb, htb⟩ : ∃ b, b = w.heap.size := ⟨_, rfl⟩
  obtain ⟨w1, hw1⟩ : ∃ w1, w.alloc (.cells #[.slice q n c] 25) = w1 := ⟨_, rfl⟩
  rw [hw1] at hal hb
  rw [← htb] at hb
  have hmk := make_any l (by rw [← hn]; exact hl) hw S _ kb ko w1 (ml_keep hm hal) (Hs.out.keep hal fun _ _ => id)
  have Hmk := Lib.hid hmk
  have Hn := Lib.hid hn
  have Hw1 := Lib.hid hw1
  have Htb := Lib.hid htb
  have Hal := Lib.hid hal
  have Hb := Lib.hid hb
  obtain ⟨g, hg⟩ : ∃ g, g = goodF l := ⟨_, rfl⟩
  rw [← hg]
  have Hg := Lib.hid hg
  clear hmk hn hw1 htb hal hb h1 h2 h3 hat hg
  go_enter Tryz.func23, Tryz.ntmps23
  go_upto_region 1 with fail
  rw [Hw1.out, ← Htb.out]
  have f0 := var1 Hb.out
  cases hmf : makeF l with
  | error y =>
    have hyb : (y == 0) = false := by rw [beq_eq_false_iff_ne]; exact make_err hmf
    have Hgf : Hid (g = false) := Lib.hid (by rw [Hg.out]; unfold goodF; rw [hmf])
    rw [hmf] at Hmk
    unfold MakeP at Hmk
    clear hmf
    go_wp2_with fail
    refine Hmk.out.mono ?_
    rintro e w2 ⟨hc2, rfl⟩
    have Hc2 := Lib.hid (Hal.out.trans (hc2.alloc (.cells #[.slice none 0 0] 25)))
    clear hc2 f0 Hmk
    go_wp2_with fail
    go_ret
    exact ⟨retB Hgf.out.symm, Hc2.out⟩
  | ok d =>
    obtain ⟨hdl, hdp⟩ := make_len hmf
    have Hgf : Hid (g = decide (d = l)) := Lib.hid (by rw [Hg.out]; unfold goodF; rw [hmf])
    rw [hmf] at Hmk
    have Hdl := Lib.hid hdl
    clear hmf hdl hdp
    go_wp2_with fail
    refine Hmk.out.mono ?_
    rintro e w2 ⟨hc2, v2, rfl, hrow2⟩
    obtain ⟨vq, vc, hv2, -, -⟩ := row_shape hrow2
    obtain ⟨nb, hns⟩ := InpS.of_row hrow2
    obtain ⟨dl, hdl⟩ : ∃ m, m = d.length := ⟨_, rfl⟩
    rw [← hdl] at hv2
    subst hv2
    have hal3 := (Chg.refl NoB w2).alloc (.cells #[.slice vq dl vc] 25)
    have hb3 := heap_alloc_new w2 (.cells #[.slice vq dl vc] 25)
    have hc3 := hc2.trans hal3
    have Hc3 := Lib.hid (Hal.out.trans hc3)
    have Hb13 := Lib.hid (row_kept hc3 Hb.out id)
    have Hns3 := Lib.hid (hns.keep hal3 fun _ _ => id)
    have Hs3 := Lib.hid (Hs.out.keep Hc3.out fun _ _ => id)
    have Hb3 := Lib.hid hb3
    clear hc2 hrow2 hns hdl hal3 hb3 hc3 f0 Hmk
    go_upto_region 2 with fail
    obtain ⟨mb, hmb⟩ : ∃ b, b = w2.heap.size := ⟨_, rfl⟩
    rw [← hmb] at Hb3 ⊢
    clear hmb
    generalize w2.alloc (.cells #[.slice vq dl vc] 25) = w3 at *
    have Heq := Lib.hid (equal_any d l _ S _ _ nb 0 kb ko w3 (by rw [Hdl.out, ← Hn.out]; exact hl) (by rw [← Hn.out]; exact hl) Hns3.out Hs3.out)
    rw [← Hgf.out] at Heq
    have f0 := var1 Hb13.out
    have g0 := var1 Hb3.out
    go_wp2_with fail
    refine Heq.out.mono ?_
    rintro e w4 ⟨rfl, hc4⟩
    have Hc4 := Lib.hid (Hc3.out.trans hc4)
    clear hc4 f0 g0 Heq
    go_wp2_with fail
    go_ret
    exact ⟨rfl, Hc4.out⟩
set_option maxHeartbeats 2000000 in
set_option maxRecDepth 20000 in
theorem rsame_any (xs ys : List FileL) (S U : Nat → Prop) (v u : Value) (kb ko jb jo : Nat) (w : World) (hx : xs.length ≤ 1048576) (hy : ys.length ≤ 1048576) (hs : InpS w S v xs kb ko) (ht : InpS w U u ys jb jo) :
    Calls Tryz.prog 17 #[.agg #[v], .agg #[u]] w (SayB (decide (xs = ys)) w) := by
  have Hs := Lib.hid hs
  have Ht := Lib.hid ht
  obtain ⟨⟨q, c, rfl, h1, h2, h3⟩, hat⟩ := hs
  obtain ⟨⟨q', c', rfl, h1', h2', h3'⟩, hat'⟩ := ht
  obtain ⟨n, hn⟩ : ∃ n, n = xs.length := ⟨_, rfl⟩
  obtain ⟨m, hm⟩ : ∃ m, m = ys.length := ⟨_, rfl⟩
  rw [← hn] at Hs hx h1
  rw [← hm] at Ht hy h1'
  rw [← hn, ← hm]
  have hal := (Chg.refl NoB w).alloc (.cells #[.slice q n c] 25)
  have hb := heap_alloc_new w (.cells #[.slice q n c] 25)
  obtain ⟨ab, hab⟩ : ∃ b, b = w.heap.size := ⟨_, rfl⟩
  obtain ⟨w1, hw1⟩ : ∃ w1, w.alloc (.cells #[.slice q n c] 25) = w1 := ⟨_, rfl⟩
  have hs1 := aSize w (.cells #[.slice q n c] 25)
  rw [hw1] at hal hb hs1
  rw [← hab] at hb hs1
  have hal2 := (Chg.refl NoB w1).alloc (.cells #[.slice q' m c'] 25)
  have hb2 := heap_alloc_new w1 (.cells #[.slice q' m c'] 25)
  rw [hs1] at hb2
  obtain ⟨w2, hw2⟩ : ∃ w2, w1.alloc (.cells #[.slice q' m c'] 25) = w2 := ⟨_, rfl⟩
  rw [hw2] at hal2 hb2
  have Hw1 := Lib.hid hw1
  have Hw2 := Lib.hid hw2
  have Hab := Lib.hid hab
  have Hn := Lib.hid hn
  have Hm := Lib.hid hm
  have Hc2 := Lib.hid (hal.trans hal2)
  have Ha2 := Lib.hid (row_kept hal2 hb id)
  have Hb2 := Lib.hid hb2
  have H3 := Lib.hid h3
  have H3' := Lib.hid h3'
  have hcm : c ≤ 9223372036854775807 := by unfold maxLen at h2; omega
  have hcm' : c' ≤ 9223372036854775807 := by unfold maxLen at h2'; omega
  obtain ⟨r, hr⟩ : ∃ r, r = decide (xs = ys) := ⟨_, rfl⟩
  rw [← hr]
  have Hr := Lib.hid hr
  clear hal hb hab hw1 hs1 hal2 hb2 hw2 h2 h2' h3 h3' hat hat' hn hm hr
  go_enter Tryz.func17, Tryz.ntmps17
  go_upto_region 1 with fail
  rw [Hw1.out, Hw2.out, ← Hab.out]
  have a0 := var1 Ha2.out
  have b0 := var1 Hb2.out
  by_cases hnm : n = m
  · subst hnm
    go_wp2_with fail
    clear a0 b0
    go_loopw [16] (fun i wr => ∃ k : Nat, k ≤ n ∧ i = .int .i64 k ∧ (∀ j (hj : j < xs.length) (hj' : j < ys.length), j < k → xs[j] = ys[j]) ∧ Chg NoB w2 wr) (fun i _ => n - (intOf i).toNat)
    case atStart => exact ⟨0, Nat.zero_le _, rfl, fun j _ _ hj => absurd hj (Nat.not_lt_zero _), Chg.refl _ _⟩
    case round =>
      obtain ⟨k, hk, rfl, heq, hch⟩ := hrel
      have Heq := Lib.hid heq
      have Hch := Lib.hid hch
      have Hcw := Lib.hid (Hc2.out.trans hch)
      have a0 := hch.keep (var1 Ha2.out)
      have b0 := hch.keep (var1 Hb2.out)
      clear heq hch
      by_cases hlt : k < n
      · have hx' : k < xs.length := by rw [← Hn.out]; exact hlt
        have hy' : k < ys.length := by rw [← Hm.out]; exact hlt
        obtain ⟨rfl, -⟩ := H3.out (by rintro rfl; simp at hx')
        obtain ⟨rfl, -⟩ := H3'.out (by rintro rfl; simp at hy')
        obtain ⟨c0, c1⟩ := Hs.out.at' k hx'
        obtain ⟨d0, d1⟩ := Ht.out.at' k hy'
        have c0 := Hcw.out.keep c0
        have c1 := Hcw.out.keep c1
        have d0 := Hcw.out.keep d0
        have d1 := Hcw.out.keep d1
        have Hxk : Hid (r = true → xs[k] = ys[k]) := Lib.hid fun h => by
          have e : xs = ys := of_decide_eq_true (by rw [← Hr.out]; exact h)
          subst e; rfl
        have Hst : Hid (xs[k] = ys[k] → ∀ j (hj : j < xs.length) (hj' : j < ys.length), j < k + 1 → xs[j] = ys[j]) := Lib.hid fun h j hj hj' hjk => by
          by_cases e : j = k
          · subst e; exact h
          · exact Heq.out j hj hj' (by omega)
        generalize xs[k] = x at *
        generalize ys[k] = y at *
        obtain ⟨x1, x2⟩ := x
        obtain ⟨y1, y2⟩ := y
        have hkc : (k : Int) < (n : Int) := by omega
        have hne := fun w' => neqF (x1, x2) (y1, y2) w'
        obtain ⟨b, hb⟩ : ∃ b, b = decide ((x1, x2) = (y1, y2)) := ⟨_, rfl⟩
        rw [← hb] at hne
        have Hb := Lib.hid hb
        unfold encF at hne
        simp only [List.toArray] at hne
        clear hb hx' hy'
        cases b with
        | true =>
          go_wp2_with fail
          go_quiet (fail)
          go_wp2_with fail
          go_roundw
          case rel => exact ⟨k + 1, by omega, by go_num, Hst.out (of_decide_eq_true Hb.out.symm), Hch.out.drewN _⟩
          case measure => simp [intOf]; omega
        | false =>
          go_wp2_with fail
          go_quiet (fail)
          go_wp2_with fail
          go_ret
          refine ⟨?_, Hcw.out.drewN _⟩
          cases r with
          | false => rfl
          | true => exact absurd (Hxk.out rfl) (of_decide_eq_false Hb.out.symm)
      · have hkn : k = n := by omega
        subst hkn
        go_wp2_with fail
        go_ret
        have e : xs = ys := List.ext_getElem (by rw [← Hn.out, ← Hm.out]) fun j h1 h2 => Heq.out j h1 h2 (by rw [Hn.out]; exact h1)
        exact ⟨retB (by rw [Hr.out, decide_eq_true e]), Hcw.out⟩
  · have hb : ((n : Int) != (m : Int)) = true := by rw [bne_iff_ne]; omega
    have hrf : Hid (r = false) := Lib.hid (by rw [Hr.out]; exact decide_eq_false fun e => hnm (by rw [Hn.out, Hm.out, e]))
    clear hnm
    go_wp2_with fail
    go_ret
    exact ⟨retB hrf.out.symm, Hc2.out⟩
end Go.Proofs.YthehpmffkkogpaaGreatDoor
