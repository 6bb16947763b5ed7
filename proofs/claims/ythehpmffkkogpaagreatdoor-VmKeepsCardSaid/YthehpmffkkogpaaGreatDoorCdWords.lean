/- The contracts of Word, Op and Takes, the program's and the document's. Condition: the list of words reads as the program's text lays it. -/
import Derived.Test.YthehpmffkkogpaaGreatDoorCdBase
import Derived.Test.YthehpmffkkogpaaGreatDoorTxRow
namespace Go.Proofs.YthehpmffkkogpaaGreatDoor
set_option linter.unusedVariables false
open Go.ChangeShapes Go.WideShapes Go.ChangeAt Go.RowKit
/- the list of words, whatever is done from block base on -/
structure Wd (base : Nat) (w : World) : Prop where
  le : base ≤ w.heap.size
  at' : ∃ g o c, 31 ≤ c ∧ c ≤ maxLen ∧ ∀ w', Below base w w' → w'.cell? ⟨0, 0, none⟩ = some (.slice (some ⟨g, o, none⟩) 31 c) ∧ ∀ i, i < 31 → w'.cell? ⟨g, o + i, none⟩ = some (.string (tx (wordsB.getD i [])))
theorem Wd.on {base : Nat} {w w' : World} (h : Wd base w) (hb : Below base w w') : Wd base w' := by
  obtain ⟨h1, g, o, c, h2, h3, h4⟩ := h
  exact ⟨Nat.le_trans h1 hb.size, g, o, c, h2, h3, fun v hv => h4 v (hb.trans hv)⟩
theorem Wd.chg {S : Nat → Prop} {base : Nat} {w w' : World} (h : Wd base w) (hc : Chg S w w') (hS : ∀ k, S k → base ≤ k) : Wd base w' := h.on (hc.belowB h.le hS)
theorem Wd.keep {base : Nat} {w w' : World} (h : Wd base w) (hc : Chg NoB w w') : Wd base w' := h.chg hc fun _ => False.elim
theorem Wd.here {base : Nat} {w : World} (h : Wd base w) : ∃ g o c, 31 ≤ c ∧ c ≤ maxLen ∧ w.cell? ⟨0, 0, none⟩ = some (.slice (some ⟨g, o, none⟩) 31 c) ∧ ∀ i, i < 31 → w.cell? ⟨g, o + i, none⟩ = some (.string (tx (wordsB.getD i []))) := by
  obtain ⟨h1, g, o, c, h2, h3, h4⟩ := h
  exact ⟨g, o, c, h2, h3, h4 w (Below.refl _ _)⟩
def SayI (v : Value) (w : World) (e : Ending) (w' : World) : Prop := e = .returned v ∧ Chg NoB w w'
set_option maxHeartbeats 1000000 in
theorem word_any (op : Int) (base : Nat) (w : World) (h : Wd base w) : Calls Tryz.prog 67 #[.int .i64 op] w (SayI (.string (tx (wordL op))) w) := by
  obtain ⟨g, o, c, hc1, hc2, hg, hcs⟩ := h.here
  unfold maxLen at hc2
  clear h
  by_cases ho : 0 ≤ op ∧ op < 31
  · obtain ⟨k, rfl⟩ := Int.eq_ofNat_of_zero_le ho.1
    have hk : k < 31 := by omega
    have hx := hcs k hk
    rw [← wordL_in k hk] at hx
    clear hcs ho
    go_enter Tryz.func67, Tryz.ntmps67
    go_wp2_with fail
    go_ret
    exact ⟨rfl, Chg.refl _ _⟩
  · have hw := wordL_out op ho
    rw [hw]
    clear hcs hw
    by_cases h0 : op < 0
    · go_enter Tryz.func67, Tryz.ntmps67
      go_wp2_with fail
      go_ret
      exact ⟨rfl, Chg.refl _ _⟩
    · have h31 : 31 ≤ op := by omega
      go_enter Tryz.func67, Tryz.ntmps67
      go_wp2_with fail
      go_ret
      exact ⟨rfl, Chg.refl _ _⟩
theorem tx_beq (l m : List UInt8) : ((tx l).toList == (tx m).toList) = decide (l = m) := by
  rw [Lib.toList_data, Lib.toList_data, tx_list, tx_list]
  by_cases h : l = m
  · subst h; simp
  · simp [h]
set_option maxHeartbeats 1000000 in
theorem takes_any (op : Int) (w : World) : Calls Tryz.prog 27 #[.int .i64 op] w (SayI (.int .i64 (takesF op)) w) := by
  go_enter Tryz.func27, Tryz.ntmps27
  go_wp2_with fail
  all_goals
    go_ret
    simp only [beq_iff_eq, beq_eq_false_iff_ne] at *
    refine ⟨congrArg (fun x => Ending.returned (Value.int .i64 x)) ?_, Chg.refl _ _⟩
    unfold takesF
    (repeat' split) <;> omega
def WordsP (w : World) (e : Ending) (w' : World) : Prop := Chg NoB w w' ∧ ∃ g, e = .returned (.slice (some ⟨g, 0, none⟩) 30 30) ∧ ∀ i, i < 30 → w'.cell? ⟨g, i, none⟩ = some (.string (tx (wordsB.getD (i + 1) [])))
set_option maxHeartbeats 1000000 in
set_option maxRecDepth 20000 in
theorem words_any (w : World) : Calls Tryz.prog 71 #[] w (WordsP w) := by
  go_enter Tryz.func71, Tryz.ntmps71
  go_wp2_with fail
  go_ret
  refine ⟨(Chg.refl _ _).alloc _, w.heap.size, rfl, fun i hi => ?_⟩
  rw [cell_of_row _ w.heap.size i _ _ (0, 0) (heap_alloc_new w _)]
  match i, hi with
  | 0, _ => rfl
  | 1, _ => rfl
  | 2, _ => rfl
  | 3, _ => rfl
  | 4, _ => rfl
  | 5, _ => rfl
  | 6, _ => rfl
  | 7, _ => rfl
  | 8, _ => rfl
  | 9, _ => rfl
  | 10, _ => rfl
  | 11, _ => rfl
  | 12, _ => rfl
  | 13, _ => rfl
  | 14, _ => rfl
  | 15, _ => rfl
  | 16, _ => rfl
  | 17, _ => rfl
  | 18, _ => rfl
  | 19, _ => rfl
  | 20, _ => rfl
  | 21, _ => rfl
  | 22, _ => rfl
  | 23, _ => rfl
  | 24, _ => rfl
  | 25, _ => rfl
  | 26, _ => rfl
  | 27, _ => rfl
  | 28, _ => rfl
  | 29, _ => rfl
  | i + 30, hi => exact absurd hi (by omega)
set_option maxHeartbeats 1000000 in
theorem refWord_any (op : Int) (hw0 : -9223372036854775808 ≤ op) (hw1 : op ≤ 9223372036854775807) (w : World) : Calls Tryz.prog 48 #[.int .i64 op] w (SayI (.string (tx (wordL op))) w) := by
  go_enter Tryz.func48, Tryz.ntmps48
  go_wp2_with fail
  refine (words_any w).mono ?_
  rintro e w1 ⟨hc1, g, rfl, hcs⟩
  have Hcs := Lib.hid hcs
  have Hc1 := Lib.hid hc1
  clear hcs hc1
  go_wp2_with fail
  go_loopw [3, 4, 7] (fun _ _ i wr => ∃ k : Nat, k ≤ 30 ∧ i = .int .i64 k ∧ (∀ j : Nat, j < k → op ≠ j + 1) ∧ Chg NoB w1 wr) (fun _ _ i _ => 30 - (intOf i).toNat)
  case atStart => exact ⟨0, Nat.zero_le _, rfl, fun j hj => absurd hj (Nat.not_lt_zero _), Chg.refl _ _⟩
  case round =>
    obtain ⟨k, hk, rfl, hno, hch⟩ := hrel
    have Hno := Lib.hid hno
    have Hch := Lib.hid hch
    clear hno hch
    by_cases hlt : k < 30
    · have hx := Hch.out.keep (Hcs.out k hlt)
      have Hx : Hid ((k : Int) + 1 = op → wordsB.getD (k + 1) [] = wordL op) := Lib.hid fun h => by rw [← h]; exact (wordL_in (k + 1) (by omega)).symm
      generalize wordsB.getD (k + 1) [] = m at *
      by_cases he : (k : Int) + 1 = op
      · have hb : ((k : Int) + 1 == op) = true := by rw [beq_iff_eq]; exact he
        have hm := Hx.out he
        subst hm
        clear he
        go_wp2_with fail
        go_ret
        exact ⟨rfl, Hc1.out.trans Hch.out⟩
      · have hb : ((k : Int) + 1 == op) = false := by rw [beq_eq_false_iff_ne]; exact he
        have He := Lib.hid he
        clear he
        go_wp2_with fail
        go_roundw
        case rel =>
          refine ⟨k + 1, by omega, by go_num, fun j hj e => ?_, Hch.out⟩
          by_cases hjk : j = k
          · subst hjk; exact He.out e.symm
          · exact Hno.out j (by omega) e
        case measure => simp [intOf]; omega
    · obtain rfl : k = 30 := by omega
      have h1 : wordL op = [] := (wordL_nil op).2 fun ho => Hno.out (op.toNat - 1) (by omega) (by omega)
      go_wp2_with fail
      go_ret
      exact ⟨by rw [h1]; rfl, Hc1.out.trans Hch.out⟩
set_option maxHeartbeats 1000000 in
theorem refTakes_any (op : Int) (hw0 : -9223372036854775808 ≤ op) (hw1 : op ≤ 9223372036854775807) (w : World) : Calls Tryz.prog 47 #[.int .i64 op] w (SayI (.int .i64 (takesF op)) w) := by
  have hb : ∀ (k : Nat), 1 ≤ k ∧ k < 31 → (wordL op == wordsB.getD k []) = decide (op = k) := fun k hk => by
    by_cases h : op = k
    · rw [decide_eq_true h, beq_iff_eq]; exact (wordL_eq op k hk).2 h
    · rw [decide_eq_false h, beq_eq_false_iff_ne]; exact fun e => h ((wordL_eq op k hk).1 e)
  have h2 : (wordL op == [112, 117, 115, 104]) = decide (op = 2) := hb 2 (by decide)
  have h30 : (wordL op == [102, 97, 105, 108]) = decide (op = 30) := hb 30 (by decide)
  have h3 : (wordL op == [116, 101, 120, 116]) = decide (op = 3) := hb 3 (by decide)
  have h7 : (wordL op == [108, 111, 97, 100]) = decide (op = 7) := hb 7 (by decide)
  have h8 : (wordL op == [115, 116, 111, 114, 101]) = decide (op = 8) := hb 8 (by decide)
  have h17 : (wordL op == [106, 117, 109, 112]) = decide (op = 17) := hb 17 (by decide)
  have h18 : (wordL op == [122, 101, 114, 111]) = decide (op = 18) := hb 18 (by decide)
  have h19 : (wordL op == [99, 97, 108, 108]) = decide (op = 19) := hb 19 (by decide)
  clear hb
  have Hw := Lib.hid (refWord_any op hw0 hw1 w)
  go_enter Tryz.func47, Tryz.ntmps47
  go_wp2_with fail
  refine Hw.out.mono ?_
  rintro e w1 ⟨rfl, hc⟩
  have Hc := Lib.hid hc
  clear hc hw0 hw1
  unfold tx
  generalize wordL op = wl at *
  go_wp2_with fail
  all_goals
    go_ret
    refine ⟨congrArg (fun x => Ending.returned (Value.int .i64 x)) ?_, Hc.out⟩
    unfold takesF
    clear h2 h30 h3 h7 h8 h17 h18 h19 Hw
    (repeat' split) <;> omega
end Go.Proofs.YthehpmffkkogpaaGreatDoor
