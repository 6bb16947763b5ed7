/- Instructions in memory; the contracts of stands and Check. Condition: the list of words reads as the program's text lays it. -/
import Derived.Test.YtaihgciokfkonaaDoorCdWords
namespace Go.Proofs.YtaihgciokfkonaaDoor
set_option linter.unusedVariables false
open Go.ChangeShapes Go.WideShapes Go.ChangeAt Go.RowKit
structure InsL where
  op : Int
  n : Int
  s : List UInt8
def InsL.wf (x : InsL) : Prop := (-9223372036854775808 ≤ x.op ∧ x.op ≤ 9223372036854775807) ∧ (-9223372036854775808 ≤ x.n ∧ x.n ≤ 9223372036854775807) ∧ x.s.length ≤ 281474976710656
def InsL.val (x : InsL) : Value := .agg #[.int .i64 x.op, .int .i64 x.n, .string (tx x.s)]
def standsF (x : InsL) (size : Int) : Bool :=
  if wordL x.op = [] then false
  else if takesF x.op = 1 then decide (x.s = [])
  else if takesF x.op = 2 then decide (x.n = 0 ∧ x.s.length ≤ 256)
  else if takesF x.op = 3 then decide (x.s = [] ∧ 0 ≤ x.n ∧ x.n < 16)
  else if takesF x.op = 4 then decide (x.s = [] ∧ 0 ≤ x.n ∧ x.n < size)
  else decide (x.s = [] ∧ x.n = 0)
/- a list of instructions -/
structure InsS (w : World) (S : Nat → Prop) (v : Value) (ps : List InsL) (kb ko : Nat) : Prop where
  sh : ∃ q c, v = .slice q ps.length c ∧ ps.length ≤ c ∧ c ≤ maxLen ∧ (ps ≠ [] → q = some ⟨kb, ko, none⟩ ∧ S kb)
  at' : ∀ i (hi : i < ps.length), ps[i].wf ∧ w.cell? ⟨kb, ko + i * 3, none⟩ = some (.int .i64 ps[i].op) ∧ w.cell? ⟨kb, ko + i * 3 + 1, none⟩ = some (.int .i64 ps[i].n) ∧ w.cell? ⟨kb, ko + i * 3 + 2, none⟩ = some (.string (tx ps[i].s))
theorem InsS.keep {w w' : World} {S T : Nat → Prop} (hc : Chg T w w') (hST : ∀ k, S k → ¬ T k) {v : Value} {ps : List InsL} {kb ko : Nat} (h : InsS w S v ps kb ko) : InsS w' S v ps kb ko := by
  obtain ⟨hsh, hat⟩ := h
  refine ⟨hsh, fun i hi => ?_⟩
  obtain ⟨q, c, _, _, _, hq⟩ := hsh
  have hne : ps ≠ [] := by rintro rfl; simp at hi
  have hS := hST kb (hq hne).2
  obtain ⟨h1, h2, h3, h4⟩ := hat i hi
  exact ⟨h1, hc.cell h2 hS, hc.cell h3 hS, hc.cell h4 hS⟩
theorem InsS.mono {w : World} {S T : Nat → Prop} (hST : ∀ k, S k → T k) {v : Value} {ps : List InsL} {kb ko : Nat} (h : InsS w S v ps kb ko) : InsS w T v ps kb ko := by
  obtain ⟨⟨q, c, h1, h2, h3, h4⟩, hat⟩ := h
  exact ⟨⟨q, c, h1, h2, h3, fun hn => ⟨(h4 hn).1, hST _ (h4 hn).2⟩⟩, hat⟩
set_option maxHeartbeats 2000000 in
set_option maxRecDepth 20000 in
theorem stands_any (x : InsL) (hx : x.wf) (size : Int) (base : Nat) (w : World) (h : Wd base w) :
    Calls Tryd.prog 46 #[x.val, .int .i64 size] w (SayI (.bool (standsF x size)) w) := by
  obtain ⟨op, n, s⟩ := x
  obtain ⟨⟨ho1, ho2⟩, ⟨hn1, hn2⟩, hsl⟩ := hx
  simp only [InsL.val] at *
  have hal := (Chg.refl NoB w).alloc (.cells #[.int .i64 op, .int .i64 n, .string (tx s)] 38)
  obtain ⟨f0, f1, f2⟩ := var3 (heap_alloc_new w (.cells #[.int .i64 op, .int .i64 n, .string (tx s)] 38))
  have hblk := heap_alloc_new w (.cells #[.int .i64 op, .int .i64 n, .string (tx s)] 38)
  have Hal := Lib.hid hal
  have Hblk := Lib.hid hblk
  have Hword := Lib.hid (word_any op base _ (h.keep hal))
  have hss : (tx s).size = s.length := tx_size s
  obtain ⟨sl, hslen⟩ : ∃ sl, sl = s.length := ⟨_, rfl⟩
  rw [← hslen] at hss hsl
  have Hsl := Lib.hid hslen
  have hstd : standsF ⟨op, n, s⟩ size = (if wordL op = [] then false
    else if takesF op = 1 then decide (s = [])
    else if takesF op = 2 then decide (n = 0 ∧ s.length ≤ 256)
    else if takesF op = 3 then decide (s = [] ∧ 0 ≤ n ∧ n < 16)
    else if takesF op = 4 then decide (s = [] ∧ 0 ≤ n ∧ n < size)
    else decide (s = [] ∧ n = 0)) := rfl
  have Hstd := Lib.hid hstd
  clear hal hblk h hslen hstd
  by_cases hw0 : wordL op = []
  · rw [hw0] at Hword
    rw [if_pos hw0] at Hstd
    clear hw0
    go_enter Tryd.func46, Tryd.ntmps46
    go_wp2_with fail
    refine Hword.out.mono ?_
    rintro e w1 ⟨rfl, hc⟩
    unfold tx at *
    go_wp2_with fail
    go_ret
    exact ⟨congrArg (fun b => Ending.returned (Value.bool b)) Hstd.out.symm, Hal.out.trans hc⟩
  · rw [if_neg hw0] at Hstd
    have hwb : ((tx (wordL op)).toList == []) = false := by rw [Lib.toList_data, tx_list, beq_eq_false_iff_ne]; exact hw0
    obtain ⟨sb, hsb⟩ : ∃ sb : Bool, sb = decide (s = []) := ⟨_, rfl⟩
    have hse : ((tx s).toList == []) = sb := by
      rw [Lib.toList_data, tx_list, hsb]
      by_cases h : s = []
      · subst h; rfl
      · rw [decide_eq_false h, beq_eq_false_iff_ne]; exact h
    have Hsb := Lib.hid hsb
    clear hw0 hsb
    obtain ⟨W1, hW1⟩ : ∃ W1, w.alloc (.cells #[.int .i64 op, .int .i64 n, .string (tx s)] 38) = W1 := ⟨_, rfl⟩
    obtain ⟨vb, hvb⟩ : ∃ vb, vb = w.heap.size := ⟨_, rfl⟩
    rw [hW1] at Hal Hblk f0 f1 f2 Hword
    rw [← hvb] at Hblk f0 f1 f2
    have HW1 := Lib.hid hW1
    have Hvb := Lib.hid hvb
    clear hW1 hvb
    go_enter Tryd.func46, Tryd.ntmps46
    go_upto_region 1 with fail
    rw [← Hvb.out, HW1.out]
    go_wp2_with fail
    refine Hword.out.mono ?_
    rintro e w1 ⟨rfl, hc⟩
    obtain ⟨g0, g1, g2⟩ := var3 (row_kept hc Hblk.out id)
    have Hc := Lib.hid (Hal.out.trans hc)
    have Hblk1 := Lib.hid (row_kept hc Hblk.out id)
    have Ht := Lib.hid (takes_any op w1)
    clear hc f0 f1 f2
    go_wp2_with fail
    refine Ht.out.mono ?_
    rintro e w2 ⟨rfl, hc⟩
    obtain ⟨f0, f1, f2⟩ := var3 (row_kept hc Hblk1.out id)
    have Hc2 := Lib.hid (Hc.out.trans hc)
    clear hc g0 g1 g2
    generalize takesF op = t at *
    go_wp2_with fail
    all_goals
      go_ret
      refine ⟨congrArg (fun b => Ending.returned (Value.bool b)) ?_, Hc2.out⟩
      have hs1 := Hsb.out
      have hl := Hsl.out
      have hst := Hstd.out
      clear Hsb Hsl Hstd f0 f1 f2 Ht Hword Hal Hblk Hblk1 Hc Hc2 hse hwb HW1 Hvb
      rw [hst]
      grind
end Go.Proofs.YtaihgciokfkonaaDoor
