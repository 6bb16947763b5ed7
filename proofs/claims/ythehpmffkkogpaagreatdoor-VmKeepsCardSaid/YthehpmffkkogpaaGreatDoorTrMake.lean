/- The contract of the program's Make. Conditions: at most 2^20 files, paths of at most 2^20 bytes; the library's own variable holds some number. -/
import Derived.Test.YthehpmffkkogpaaGreatDoorTrClash
import Derived.Test.YthehpmffkkogpaaGreatDoorPthAll
import Derived.Deep.QuietTactic
import Derived.BigQuiet
import Derived.IntWalk
import Derived.WalkSpells
namespace Go.Proofs.YthehpmffkkogpaaGreatDoor
set_option linter.unusedVariables false
open Go.ChangeShapes Go.WideShapes Go.ChangeAt Go.RowKit
theorem tx_beq (l m : List UInt8) : ((tx l).toList == (tx m).toList) = decide (l = m) := by
  rw [Lib.toList_data, Lib.toList_data, tx_list, tx_list]
  by_cases h : l = m
  · subst h; simp
  · simp [h]
def notwo (xs : List InL) : Prop := ∀ i (h : i + 1 < xs.length), xs[i + 1].1 ≠ xs[i].1
set_option maxHeartbeats 1000000 in
theorem twice_any (xs : List InL) (S : Nat → Prop) (v : Value) (kb ko : Nat) (w : World) (hl : xs.length ≤ 1048576) (hs : InpS w S v xs kb ko) :
    Calls Tryz.prog 64 #[v] w fun e w' => (∃ b : Bool, e = .returned (.bool b) ∧ (b = true ↔ ¬ notwo xs)) ∧ Chg NoB w w' := by
  obtain ⟨⟨a, cap, rfl, h1, h2, h3⟩, hat⟩ := hs
  obtain ⟨pl, hpl⟩ : ∃ pl, pl = xs.length := ⟨_, rfl⟩
  rw [← hpl] at h1 hl ⊢
  have H3 := Lib.hid h3
  have Hat := Lib.hid hat
  have Hpl := Lib.hid hpl
  unfold maxLen at h2
  clear h3 hat hpl
  go_enter Tryz.func64, Tryz.ntmps64
  go_wp2_with fail
  go_loopw [6] (fun i wr => ∃ k : Nat, k ≤ pl ∧ i = .int .i64 k ∧ (∀ j (hj : j + 1 < xs.length), j + 1 < k → xs[j + 1].1 ≠ xs[j].1) ∧ Chg NoB w wr) (fun i _ => pl - (intOf i).toNat)
  case atStart => exact ⟨0, Nat.zero_le _, rfl, fun j _ hj => absurd hj (Nat.not_lt_zero _), Chg.refl _ _⟩
  case round =>
    obtain ⟨k, hk, rfl, hno, hch⟩ := hrel
    have Hno := Lib.hid hno
    have Hch := Lib.hid hch
    clear hno hch
    by_cases hlt : k < pl
    · have hlt' : k < xs.length := by rw [← Hpl.out]; exact hlt
      obtain ⟨rfl, -⟩ := H3.out (by rintro rfl; simp at hlt')
      by_cases hk0 : k = 0
      · subst hk0
        go_wp2_with fail
        go_quiet (fail)
        go_wp2_with fail
        go_roundw
        case rel => exact ⟨1, by omega, rfl, fun j _ hj => by omega, Hch.out.drewN _⟩
        case measure => simp [intOf]; omega
      · obtain ⟨m, hm⟩ : ∃ m, k = m + 1 := ⟨k - 1, by omega⟩
        have hml : m < xs.length := by omega
        obtain ⟨c0, -⟩ := Hat.out k hlt'
        obtain ⟨p0, -⟩ := Hat.out m hml
        have c0 := Hch.out.keep c0
        have p0 := Hch.out.keep p0
        obtain ⟨y, hy⟩ : ∃ y, y = xs[k].1 := ⟨_, rfl⟩
        obtain ⟨x, hx⟩ : ∃ x, x = xs[m].1 := ⟨_, rfl⟩
        rw [← hy] at c0
        rw [← hx] at p0
        have hleq := tx_beq y x
        obtain ⟨b, hb⟩ : ∃ b, b = decide (y = x) := ⟨_, rfl⟩
        rw [← hb] at hleq
        have Hb := Lib.hid hb
        have Hy := Lib.hid hy
        have Hx := Lib.hid hx
        have hk1 : decide (0 < k) = true := by simp; omega
        have hk2 : (k : Int) < (pl : Int) := by omega
        have hk3 : (m : Int) < (pl : Int) := by omega
        have hw1 : IntKind.i64.wrap ((k : Int) - 1) = (m : Int) := by rw [hm]; push_cast; rw [Int.add_sub_cancel]; exact IntWalk.i64_in _ (by omega)
        have hm2 : m < pl := by omega
        have Hm := Lib.hid hm
        clear hb hy hx hm hk0
        cases b with
        | false =>
          go_wp2_with fail
          go_quiet (fail)
          go_wp2_with fail
          go_roundw
          case rel =>
            refine ⟨k + 1, by omega, by go_num, fun j hj hjk => ?_, Hch.out.drewN _⟩
            by_cases e : j = m
            · subst e
              have e2 := Hy.out
              simp only [Hm.out] at e2
              rw [← e2, ← Hx.out]
              exact of_decide_eq_false Hb.out.symm
            · exact Hno.out j hj (by have := Hm.out; omega)
          case measure => simp [intOf]; omega
        | true =>
          go_wp2_with fail
          go_quiet (fail)
          go_wp2_with fail
          go_ret
          refine ⟨⟨true, rfl, ?_⟩, Hch.out.drewN _⟩
          have hn : ¬ notwo xs := fun h => by
            have h2 := h m (by rw [← Hm.out]; exact hlt')
            have e2 := Hy.out
            simp only [Hm.out] at e2
            rw [← e2, ← Hx.out] at h2
            exact h2 (of_decide_eq_true Hb.out.symm)
          simp [hn]
    · have hpk : k = pl := by omega
      go_wp2_with fail
      go_ret
      refine ⟨⟨false, rfl, ?_⟩, Hch.out⟩
      have hn : notwo xs := fun i hi => Hno.out i hi (by have := Hpl.out; omega)
      simp [hn]
theorem pgood_any (l : List UInt8) (w : World) (hl : l.length ≤ 1048576) (hm : Pth.Ml w) : Calls Tryz.prog 60 #[.string (tx l)] w (SayB (Pth.goodL l) w) := by
  have h := Pth.good_any (tx l) w (by rw [tx_size]; exact hl) hm
  rw [tx_list] at h
  exact h.mono fun e w' h => ⟨h.1, chg_of_below h.2⟩
theorem ml_keep {w w' : World} (h : Pth.Ml w) (c : Chg NoB w w') : Pth.Ml w' := Pth.Ml.keep h c.below
def CloneP (l : List FileL) (w : World) (e : Ending) (w' : World) : Prop := Chg NoB w w' ∧ ∃ v', e = .returned v' ∧ w'.ownsRow w.heap.size 43 2 v' l.length (flatP l)
set_option maxHeartbeats 1000000 in
set_option maxRecDepth 20000 in
theorem clone_any (l : List FileL) (S : Nat → Prop) (v : Value) (kb ko : Nat) (w : World) (hl : l.length ≤ 1048576) (hs : InpS w S v l kb ko) :
    Calls Tryz.prog 58 #[v] w (CloneP l w) := by
  obtain ⟨⟨q, c, rfl, h1, h2, h3⟩, hat⟩ := hs
  obtain ⟨n, hn⟩ : ∃ n, n = l.length := ⟨_, rfl⟩
  rw [← hn] at h1 hl ⊢
  have Hn := Lib.hid hn
  cases q with
  | none =>
    obtain rfl : l = [] := by
      by_cases h : l = []
      · exact h
      · obtain ⟨h, -⟩ := h3 h; cases h
    obtain rfl : n = 0 := Hn.out
    refine (Tryz.slices_Clone_nil 0 c w).mono ?_
    rintro e w' ⟨rfl, rfl⟩
    exact ⟨Chg.refl _ _, _, rfl, World.ownsRow_nil _ _ _ _⟩
  | some a =>
    have hal := (Chg.refl NoB w).alloc (.cells #[] 43)
    have hb := heap_alloc_new w (.cells #[] 43)
    have hnews : ∀ j u, (flatP l)[j]? = some u → (w.alloc (.cells #[] 43)).cell? (a.add j) = some u := fun j u hj => by
      have hlt : j < (flatP l).length := (List.getElem?_eq_some_iff.1 hj).1
      rw [flatP_len] at hlt
      have hne : l ≠ [] := by rintro rfl; simp at hlt
      obtain ⟨ha, -⟩ := h3 hne
      cases ha
      have hd : j / 2 < l.length := by omega
      obtain ⟨g0, g1⟩ := flatP_at l (j / 2) hd
      obtain ⟨c0, c1⟩ := hat (j / 2) hd
      apply hal.keep
      rcases Nat.mod_two_eq_zero_or_one j with hm | hm
      · have e : j / 2 * 2 = j := by omega
        rw [e] at g0 c0
        rw [g0] at hj
        cases hj
        rw [Go.WideShapes.add_plain]
        exact c0
      · have e : j / 2 * 2 + 1 = j := by omega
        rw [e] at g1
        rw [Nat.add_assoc, e] at c1
        rw [g1] at hj
        cases hj
        rw [Go.WideShapes.add_plain]
        exact c1
    have hrow0 : (w.alloc (.cells #[] 43)).ownsRow w.heap.size 43 2 (.slice (some ⟨w.heap.size, 0, none⟩) 0 0) 0 [] := ⟨rfl, .inr ⟨_, 0, #[], rfl, Nat.le_refl _, hb, Nat.le_refl _, Nat.zero_le _, rfl, rfl⟩⟩
    obtain ⟨i0, hi, hz0, hz1, hz2⟩ := info_parts inpInfo
    have Hrow0 := Lib.hid hrow0
    have Hnews := Lib.hid hnews
    have Hal := Lib.hid hal
    have Hi := Lib.hid hi
    have Hz0 := Lib.hid hz0
    have Hz1 := Lib.hid hz1
    have Hz2 := Lib.hid hz2
    have Hlen : Hid ((flatP l).length = n * 2) := Lib.hid (by rw [flatP_len, hn])
    have M1 := Lib.hid (show 0 + n ≤ maxLen by unfold maxLen; omega)
    have M2 := Lib.hid (show (0 + n) * 32 ≤ 140737488355328 by omega)
    have Hb0 := Lib.hid (show w.heap.size ≤ (w.alloc (.cells #[] 43)).heap.size from hal.size)
    have hq := fun (w : World) => Lib.run_eql_slice_nil (P := Tryz.prog) w 23 43 (some a) n c 0 0 Tryz.underlying23
    unfold maxLen at h2
    clear hal hb hnews hrow0 hi hz0 hz1 hz2 h3 hat hn
    go_enter Tryz.func58, Tryz.ntmps58
    go_wp2_with (at_builtin; refine wpList_append_at _ rfl _ _ 23 rfl w.heap.size 43 i0 (.agg #[.string ⟨#[]⟩, .string ⟨#[]⟩]) 2 32 Tryz.underlying23 Hi.out Hz0.out Hz1.out Hz2.out rfl (by decide) _ 0 [] rfl Hrow0.out a n c (flatP l) rfl Hlen.out Hnews.out (flatP_one l) M1.out M2.out Hb0.out ?_)
    intro v9 w9 hown9 hgr9 hpl9
    have hown : w9.ownsRow w.heap.size 43 2 v9 n (flatP l) := by simpa using hown9
    have hch : Chg NoB w w9 := Hal.out.grown hgr9 fun j hj => .inr (by cases hj; exact Nat.le_refl _)
    have Hown := Lib.hid hown
    have Hch := Lib.hid hch
    clear hown9 hgr9 hpl9 hown hch
    go_wp2_with fail
    go_ret
    exact ⟨Hch.out, v9, rfl, by rw [← Hn.out]; exact Hown.out⟩
def MakeP (r : Except Int (List FileL)) (w : World) (e : Ending) (w' : World) : Prop := Chg NoB w w' ∧ match r with
  | .error y => e = .returned (.tuple #[.agg #[.slice none 0 0], .int .i64 y])
  | .ok d => ∃ v, e = .returned (.tuple #[.agg #[v], .int .i64 0]) ∧ w'.ownsRow w.heap.size 43 2 v d.length (flatP d)
theorem make_many {l : List FileL} (h : 32 < l.length) : makeF l = .error 13 := by unfold makeF; rw [if_pos h]
theorem make_bad {l : List FileL} {y : Int} (h : ¬ 32 < l.length) (hb : badF l = some y) : makeF l = .error y := by unfold makeF; rw [if_neg h, hb]
theorem make_two {l : List FileL} (h : ¬ 32 < l.length) (hb : badF l = none) (hn : ¬ (keysL l).Nodup) : makeF l = .error 11 := by
  unfold makeF; rw [if_neg h, hb]; simp only; rw [if_neg hn]
theorem make_clash {l : List FileL} (h : ¬ 32 < l.length) (hb : badF l = none) (hn : (keysL l).Nodup) (hc : clashF l = true) : makeF l = .error 12 := by
  unfold makeF; rw [if_neg h, hb]; simp only; rw [if_pos hn, if_pos hc]
theorem make_ok {l : List FileL} (h : ¬ 32 < l.length) (hb : badF l = none) (hn : (keysL l).Nodup) (hc : clashF l = false) : makeF l = .ok (sortF l) := by
  unfold makeF; rw [if_neg h, hb]; simp only; rw [if_pos hn, hc]; rfl
theorem bad_one1 {f : FileL} (h : Pth.goodL f.1 = false) : badF [f] = some 10 := by rw [badF, if_pos h]
theorem bad_one2 {f : FileL} (h : Pth.goodL f.1 = true) (h2 : 2048 < f.2.length) : badF [f] = some 3 := by rw [badF, if_neg (by rw [h]; decide), if_pos h2]
theorem bad_at {l : List FileL} {k : Nat} (hk : k < l.length) {y : Int} (ha : badF (l.take k) = none) (hf : badF [l[k]] = some y) : badF l = some y := by
  have e : l = l.take k ++ l[k] :: l.drop (k + 1) := by rw [← List.drop_eq_getElem_cons hk, List.take_append_drop]
  rw [e]
  exact badF_pre ha hf
set_option maxHeartbeats 4000000 in
set_option maxRecDepth 20000 in
theorem make_any (l : List FileL) (hl : l.length ≤ 1048576) (hw : ∀ x ∈ l, x.1.length ≤ 1048576 ∧ x.2.length ≤ 1048576) (S : Nat → Prop) (v : Value) (kb ko : Nat) (w : World) (hm : Pth.Ml w) (hs : InpS w S v l kb ko) :
    Calls Tryz.prog 37 #[v] w (MakeP (makeF l) w) := by
  have Hs := Lib.hid hs
  obtain ⟨⟨q, c, rfl, h1, h2, h3⟩, hat⟩ := hs
  obtain ⟨n, hn⟩ : ∃ n, n = l.length := ⟨_, rfl⟩
  rw [← hn] at h1 hl Hs ⊢
  have hal := (Chg.refl NoB w).alloc (.cells #[.slice none 0 0] 25)
  have hb := heap_alloc_new w (.cells #[.slice none 0 0] 25)
  obtain ⟨rb, hrb⟩ : ∃ b, b = w.heap.size := ⟨_, rfl⟩
  obtain ⟨w1, hw1⟩ : ∃ w1, w.alloc (.cells #[.slice none 0 0] 25) = w1 := ⟨_, rfl⟩
  rw [hw1] at hal hb
  rw [← hrb] at hb
  obtain ⟨res, hres⟩ : ∃ r, r = makeF l := ⟨_, rfl⟩
  rw [← hres]
  have Hres0 := Lib.hid hres
  have Hn := Lib.hid hn
  have H3 := Lib.hid h3
  have Hat := Lib.hid hat
  have Hw := Lib.hid hw
  have Hm := Lib.hid hm
  have Hw1 := Lib.hid hw1
  have Hrb := Lib.hid hrb
  have Hwr := Lib.hid (show w.heap.size ≤ rb by omega)
  have Hc1 := Lib.hid hal
  have Hr1 := Lib.hid hb
  unfold maxLen at h2
  clear hal hb hrb hw1 hres hn h3 hat hw hm
  go_enter Tryz.func37, Tryz.ntmps37
  go_upto_region 1 with fail
  rw [Hw1.out, ← Hrb.out]
  have rf := row_free Hr1.out
  have r0 := var1 Hr1.out
  by_cases h32 : 32 < n
  · have Hres : Hid (res = .error 13) := Lib.hid (by rw [Hres0.out]; exact make_many (by rw [← Hn.out]; exact h32))
    go_wp2_with fail
    obtain e0 := var1 (heap_set Hr1.out (i := 0) (.slice none 0 0))
    have hfin := Hc1.out.setCell (p := ⟨rb, 0, none⟩) (.inr Hwr.out) (.slice none 0 0)
    generalize w1.setCell ⟨rb, 0, none⟩ (.slice none 0 0) = wf at *
    refine bodyPost_ret (v := .tuple #[.agg #[.slice none 0 0], .int .i64 13]) (by simp [results, Tryz.results37, go_sem, e0]) rfl ⟨hfin, ?_⟩
    rw [Hres.out]
  have Hno : Hid (¬ 32 < l.length) := Lib.hid (by rw [← Hn.out]; exact h32)
  go_wp2_with fail
  clear r0 rf
  go_loopw [13] (fun i wr => ∃ k : Nat, k ≤ n ∧ i = .int .i64 k ∧ badF (l.take k) = none ∧ Chg NoB w1 wr) (fun i _ => n - (intOf i).toNat)
  case atStart => exact ⟨0, Nat.zero_le _, rfl, rfl, Chg.refl _ _⟩
  case round =>
    obtain ⟨k, hk, rfl, hbad, hch⟩ := hrel
    have Hbad := Lib.hid hbad
    have Hch := Lib.hid hch
    have Hcw := Lib.hid (Hc1.out.trans hch)
    have Hrr := Lib.hid (row_kept hch Hr1.out id)
    clear hbad hch
    by_cases hlt : k < n
    · have hlt' : k < l.length := by rw [← Hn.out]; exact hlt
      obtain ⟨rfl, -⟩ := H3.out (by rintro rfl; simp at hlt')
      obtain ⟨c0, c1⟩ := Hat.out k hlt'
      have c0 := Hcw.out.keep c0
      have c1 := Hcw.out.keep c1
      have Htk : Hid (l.take (k + 1) = l.take k ++ [l[k]]) := Lib.hid (by rw [List.take_add_one, List.getElem?_eq_getElem hlt']; rfl)
      have Hbd : Hid (∀ y, badF [l[k]] = some y → res = .error y) := Lib.hid fun y hy => by rw [Hres0.out]; exact make_bad Hno.out (bad_at hlt' Hbad.out hy)
      have hwk := Hw.out l[k] (List.getElem_mem hlt')
      generalize l[k] = f at *
      obtain ⟨f1, f2⟩ := f
      have hf1 : f1.length ≤ 1048576 := hwk.1
      have hf2 : f2.length ≤ 1048576 := hwk.2
      change wr.cell? ⟨kb, ko + k * 2, none⟩ = some (.string (tx f1)) at c0
      change wr.cell? ⟨kb, ko + k * 2 + 1, none⟩ = some (.string (tx f2)) at c1
      have hal2 := (Chg.refl NoB wr).alloc (.cells #[.string (tx f1), .string (tx f2)] 43)
      have hb2 := heap_alloc_new wr (.cells #[.string (tx f1), .string (tx f2)] 43)
      obtain ⟨xb, hxb⟩ : ∃ b, b = wr.heap.size := ⟨_, rfl⟩
      obtain ⟨w2, hw2⟩ : ∃ w2, wr.alloc (.cells #[.string (tx f1), .string (tx f2)] 43) = w2 := ⟨_, rfl⟩
      rw [hw2] at hal2 hb2
      rw [← hxb] at hb2
      have Hw2 := Lib.hid hw2
      have Hxb := Lib.hid hxb
      have Hc2 := Lib.hid (Hcw.out.trans hal2)
      have Hch2 := Lib.hid (Hch.out.trans hal2)
      have Hr2 := Lib.hid (row_kept hal2 Hrr.out id)
      have Hb2 := Lib.hid hb2
      obtain ⟨g, hg⟩ : ∃ g, g = Pth.goodL f1 := ⟨_, rfl⟩
      have hgd := pgood_any f1 w2 hf1 (ml_keep Hm.out Hc2.out)
      rw [← hg] at hgd
      have Hgd := Lib.hid hgd
      have Hg := Lib.hid hg
      have hsz : (tx f2).size = f2.length := tx_size f2
      obtain ⟨m, hmm⟩ : ∃ m, m = f2.length := ⟨_, rfl⟩
      rw [← hmm] at hsz hf2
      have Hmm := Lib.hid hmm
      clear hal2 hb2 hxb hw2 hg hgd hwk hf1 hmm hlt'
      go_upto_region 6 with fail
      rw [Hw2.out, ← Hxb.out]
      clear c0 c1
      obtain ⟨b0, b1⟩ := var2 Hb2.out
      go_wp2_with fail
      refine Hgd.out.mono ?_
      rintro e w3 ⟨rfl, hc3⟩
      have Hc3 := Lib.hid (Hc2.out.trans hc3)
      have Hch3 := Lib.hid (Hch2.out.trans hc3)
      have Hr3 := Lib.hid (row_kept hc3 Hr2.out id)
      have Hb3 := Lib.hid (row_kept hc3 Hb2.out id)
      clear b0 b1 hc3 Hgd
      obtain ⟨b0, b1⟩ := var2 Hb3.out
      have rf := row_free Hr3.out
      have r0 := var1 Hr3.out
      cases g with
      | false =>
        have Hres := Lib.hid (Hbd.out 10 (bad_one1 Hg.out.symm))
        go_wp2_with fail
        obtain e0 := var1 (heap_set Hr3.out (i := 0) (.slice none 0 0))
        have hfin := Hc3.out.setCell (p := ⟨rb, 0, none⟩) (.inr Hwr.out) (.slice none 0 0)
        generalize w3.setCell ⟨rb, 0, none⟩ (.slice none 0 0) = wf at *
        refine bodyPost_ret (v := .tuple #[.agg #[.slice none 0 0], .int .i64 10]) (by simp [results, Tryz.results37, go_sem, e0]) rfl ⟨hfin, ?_⟩
        rw [Hres.out]
      | true =>
        by_cases hbig : 2048 < m
        · have Hres := Lib.hid (Hbd.out 3 (bad_one2 Hg.out.symm (by show 2048 < f2.length; rw [← Hmm.out]; exact hbig)))
          go_wp2_with fail
          obtain e0 := var1 (heap_set Hr3.out (i := 0) (.slice none 0 0))
          have hfin := Hc3.out.setCell (p := ⟨rb, 0, none⟩) (.inr Hwr.out) (.slice none 0 0)
          generalize w3.setCell ⟨rb, 0, none⟩ (.slice none 0 0) = wf at *
          refine bodyPost_ret (v := .tuple #[.agg #[.slice none 0 0], .int .i64 3]) (by simp [results, Tryz.results37, go_sem, e0]) rfl ⟨hfin, ?_⟩
          rw [Hres.out]
        · clear r0 rf
          go_wp2_with fail
          go_roundw
          case rel => exact ⟨k + 1, by omega, by go_num, by rw [Htk.out]; exact badF_snoc Hbad.out Hg.out.symm (by show f2.length ≤ 2048; rw [← Hmm.out]; omega), Hch3.out⟩
          case measure => simp [intOf]; omega
    · obtain rfl : k = n := by omega
      have Hbn : Hid (badF l = none) := Lib.hid (by have := Hbad.out; rwa [Hn.out, List.take_of_length_le (Nat.le_refl _)] at this)
      have Hcl := Lib.hid (clone_any l S _ kb ko wr (by rw [← Hn.out]; exact hl) (Hs.out.keep Hcw.out fun _ _ => id))
      clear hlt
      go_wp2_with fail
      refine Hcl.out.mono ?_
      rintro e w2 ⟨hc2, v2, rfl, hrow2⟩
      obtain ⟨vq, vc, hv2, -, -⟩ := row_shape hrow2
      rw [← Hn.out] at hv2
      subst hv2
      have Hc2 := Lib.hid (Hcw.out.trans hc2)
      have Hr2 := Lib.hid (row_kept hc2 Hrr.out id)
      have hlo : w.heap.size ≤ wr.heap.size := Hcw.out.size
      have hrlt := lt_of_block Hrr.out
      have Hso := Lib.hid (sort_any l wr.heap.size (.slice vq k vc) w2 hrow2 (by rw [← Hn.out]; exact hl))
      have Hbl : Hid (∀ j, (Value.slice vq k vc).ownBlock = some j → wr.heap.size ≤ j) := Lib.hid fun j hj => (World.ownsRow.lt hrow2 j hj).1
      have Hlo := Lib.hid (And.intro hlo hrlt)
      clear hc2 hrow2 hlo hrlt Hcl
      go_wp2_with fail
      refine Hso.out.mono ?_
      rintro e w3 ⟨rfl, d, hp, hu, hrow3, hc3⟩
      have hrl3 : w3.ownsRow wr.heap.size 43 2 (.slice vq k vc) d.length (flatP d) := by rw [hp.length_eq]; exact hrow3
      have hc3' : Chg NoB w w3 := Hc2.out.above hc3 fun y hy => by have := Hbl.out y hy; have := Hlo.out.1; omega
      have Hc3 := Lib.hid hc3'
      have Hr3 := Lib.hid (row_kept hc3 Hr2.out (fun e => by have := Hbl.out rb e; have := Hlo.out.2; omega))
      obtain ⟨nb, hns⟩ := InpS.of_row hrl3
      have Hns := Lib.hid hns
      have Hrow3 := Lib.hid hrl3
      have Hp := Lib.hid hp
      have Hu := Lib.hid hu
      have hdl : d.length ≤ 1048576 := by rw [hp.length_eq, ← Hn.out]; exact hl
      have Htw := Lib.hid (twice_any d _ (.slice vq k vc) nb 0 w3 hdl hns)
      have Hdw : Hid (∀ x ∈ d, x.1.length ≤ 1048576) := Lib.hid fun x hx => (Hw.out x (hp.mem_iff.1 hx)).1
      have Hdl := Lib.hid hdl
      clear hc3 hc3' hrow3 hrl3 hns hp hu hdl Hso
      go_wp2_with fail
      refine Htw.out.mono ?_
      rintro e w4 ⟨⟨tb, rfl, htb⟩, hc4⟩
      have Hc4 := Lib.hid (Hc3.out.trans hc4)
      have Hr4 := Lib.hid (row_kept hc4 Hr3.out id)
      have Hrow4 := Lib.hid (ownsRow_chg Hrow3.out hc4 fun _ _ => id)
      have Htb := Lib.hid htb
      have Hcla := Lib.hid (clash_any d _ (.slice vq k vc) nb 0 w4 Hdl.out Hdw.out (Hns.out.keep hc4 fun _ _ => id))
      obtain ⟨cb, hcb⟩ : ∃ b, b = clashF d := ⟨_, rfl⟩
      rw [← hcb] at Hcla
      have Hcb := Lib.hid hcb
      clear hc4 htb hcb Htw
      have rf := row_free Hr4.out
      have r0 := var1 Hr4.out
      cases tb with
      | true =>
        have Hres : Hid (res = .error 11) := Lib.hid (by
          rw [Hres0.out]
          refine make_two Hno.out Hbn.out fun hnd => ?_
          have hnd' : (keysL d).Nodup := (List.Perm.nodup_iff (Hp.out.map (fun x : FileL => x.1))).2 hnd
          exact (Htb.out.1 rfl) ((up_nodup Hu.out).1 hnd'))
        go_wp2_with fail
        obtain e0 := var1 (heap_set Hr4.out (i := 0) (.slice none 0 0))
        have hfin := Hc4.out.setCell (p := ⟨rb, 0, none⟩) (.inr Hwr.out) (.slice none 0 0)
        generalize w4.setCell ⟨rb, 0, none⟩ (.slice none 0 0) = wf at *
        refine bodyPost_ret (v := .tuple #[.agg #[.slice none 0 0], .int .i64 11]) (by simp [results, Tryz.results37, go_sem, e0]) rfl ⟨hfin, ?_⟩
        rw [Hres.out]
      | false =>
        have hnd : (keysL d).Nodup := (up_nodup Hu.out).2 (by
          have h : ¬ ¬ notwo d := fun h => by have := Htb.out.2 h; cases this
          exact Classical.not_not.1 h)
        obtain ⟨hds, hkn⟩ := up_sort Hp.out Hu.out hnd
        have Hds := Lib.hid hds
        have Hkn := Lib.hid hkn
        have Hcp : Hid (clashF l = cb) := Lib.hid (by rw [Hcb.out]; exact (clashF_perm Hp.out).symm)
        clear hnd hds hkn r0 rf
        go_wp2_with fail
        refine Hcla.out.mono ?_
        rintro e w5 ⟨rfl, hc5⟩
        have Hc5 := Lib.hid (Hc4.out.trans hc5)
        have Hr5 := Lib.hid (row_kept hc5 Hr4.out id)
        have Hrow5 := Lib.hid (ownsRow_chg Hrow4.out hc5 fun _ _ => id)
        clear hc5 Hcla
        have rf := row_free Hr5.out
        have r0 := var1 Hr5.out
        cases cb with
        | true =>
          have Hres : Hid (res = .error 12) := Lib.hid (by rw [Hres0.out]; exact make_clash Hno.out Hbn.out Hkn.out Hcp.out)
          go_wp2_with fail
          obtain e0 := var1 (heap_set Hr5.out (i := 0) (.slice none 0 0))
          have hfin := Hc5.out.setCell (p := ⟨rb, 0, none⟩) (.inr Hwr.out) (.slice none 0 0)
          generalize w5.setCell ⟨rb, 0, none⟩ (.slice none 0 0) = wf at *
          refine bodyPost_ret (v := .tuple #[.agg #[.slice none 0 0], .int .i64 12]) (by simp [results, Tryz.results37, go_sem, e0]) rfl ⟨hfin, ?_⟩
          rw [Hres.out]
        | false =>
          have Hres : Hid (res = .ok d) := Lib.hid (by rw [Hres0.out, Hds.out]; exact make_ok Hno.out Hbn.out Hkn.out Hcp.out)
          go_wp2_with fail
          obtain e0 := var1 (heap_set Hr5.out (i := 0) (.slice vq k vc))
          have hfin := Hc5.out.setCell (p := ⟨rb, 0, none⟩) (.inr Hwr.out) (.slice vq k vc)
          have hst : Chg (fun y => y = rb) w5 (w5.setCell ⟨rb, 0, none⟩ (.slice vq k vc)) := (Chg.refl (fun y => y = rb) w5).setCell (p := ⟨rb, 0, none⟩) (.inl rfl) (.slice vq k vc)
          have hrowf := ownsRow_chg Hrow5.out hst fun j hj e => by have h1 := (World.ownsRow.lt Hrow5.out j hj).1; have h2 : j = rb := e; have := Hlo.out.2; omega
          have hrowf := ownsRow_low Hlo.out.1 hrowf
          generalize w5.setCell ⟨rb, 0, none⟩ (.slice vq k vc) = wf at *
          refine bodyPost_ret (v := .tuple #[.agg #[.slice vq k vc], .int .i64 0]) (by simp [results, Tryz.results37, go_sem, e0]) rfl ⟨hfin, ?_⟩
          rw [Hres.out]
          exact ⟨_, rfl, hrowf⟩
end Go.Proofs.YthehpmffkkogpaaGreatDoor
