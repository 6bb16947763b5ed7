/- The contracts of Word, Op and Takes, the program's and the document's. Condition: the list of words reads as the program's text lays it. -/
import Derived.Test.YtaihgciokfkonaaDoorCdBase
import Derived.Test.YtaihgciokfkonaaDoorBase
namespace Go.Proofs.YtaihgciokfkonaaDoor
set_option linter.unusedVariables false
open Go.ChangeShapes Go.WideShapes Go.ChangeAt Go.RowKit
/- the list of words, whatever is done from block base on -/
structure Wd (base : Nat) (w : World) : Prop where
  le : base ≤ w.heap.size
  at' : ∃ g o c, 31 ≤ c ∧ c ≤ maxLen ∧ ∀ w', Below base w w' → w'.cell? ⟨0, 0, none⟩ = some (.slice (some ⟨g, o, none⟩) 31 c) ∧ ∀ i, i < 31 → w'.cell? ⟨g, o + i, none⟩ = some (.string (tx (wordsB.getD i [])))
theorem Wd.on {base : Nat} {w w' : World} (h : Wd base w) (hb : Below base w w') : Wd base w' := by
  obtain ⟨h1, g, o, c, h2, h3, h4⟩ := h
  exact ⟨Nat.le_trans h1 hb.size, g, o, c, h2, h3, fun v hv => h4 v (hb.trans hv)⟩
theorem Wd.chg {S : Nat → Prop} {base : Nat} {w w' : World} (h : Wd base w) (hc : Chg S w w') (hS : ∀ k, S k → base ≤ k) : Wd base w' := h.on (hc.belowB h.le hS)
theorem Wd.keep {base : Nat} {w w' : World} (h : Wd base w) (hc : Chg NoB w w') : Wd base w' := h.chg hc fun _ => False.elim
theorem Wd.here {base : Nat} {w : World} (h : Wd base w) : ∃ g o c, 31 ≤ c ∧ c ≤ maxLen ∧ w.cell? ⟨0, 0, none⟩ = some (.slice (some ⟨g, o, none⟩) 31 c) ∧ ∀ i, i < 31 → w.cell? ⟨g, o + i, none⟩ = some (.string (tx (wordsB.getD i []))) := by
  obtain ⟨h1, g, o, c, h2, h3, h4⟩ := h
  exact ⟨g, o, c, h2, h3, h4 w (Below.refl _ _)⟩
def SayI (v : Value) (w : World) (e : Ending) (w' : World) : Prop := e = .returned v ∧ Chg NoB w w'
set_option maxHeartbeats 1000000 in
theorem word_any (op : Int) (base : Nat) (w : World) (h : Wd base w) : Calls Tryd.prog 48 #[.int .i64 op] w (SayI (.string (tx (wordL op))) w) := by
  obtain ⟨g, o, c, hc1, hc2, hg, hcs⟩ := h.here
  unfold maxLen at hc2
  clear h
  by_cases ho : 0 ≤ op ∧ op < 31
  · obtain ⟨k, rfl⟩ := Int.eq_ofNat_of_zero_le ho.1
    have hk : k < 31 := by omega
    have hx := hcs k hk
    rw [← wordL_in k hk] at hx
    clear hcs ho
    go_enter Tryd.func48, Tryd.ntmps48
    go_wp2_with fail
    go_ret
    exact ⟨rfl, Chg.refl _ _⟩
  · have hw := wordL_out op ho
    rw [hw]
    clear hcs hw
    by_cases h0 : op < 0
    · go_enter Tryd.func48, Tryd.ntmps48
      go_wp2_with fail
      go_ret
      exact ⟨rfl, Chg.refl _ _⟩
    · have h31 : 31 ≤ op := by omega
      go_enter Tryd.func48, Tryd.ntmps48
      go_wp2_with fail
      go_ret
      exact ⟨rfl, Chg.refl _ _⟩
set_option maxHeartbeats 1000000 in
theorem index_any (l : List UInt8) (g o c : Nat) (w : World) (hc1 : 31 ≤ c) (hc2 : c ≤ maxLen) (hcs : ∀ i, i < 31 → w.cell? ⟨g, o + i, none⟩ = some (.string (tx (wordsB.getD i [])))) :
    Calls Tryd.prog 73 #[.slice (some ⟨g, o, none⟩) 31 c, .string (tx l)] w fun e w' => (∃ r : Int, e = .returned (.int .i64 r) ∧ (r = -1 ∧ opF l = 0 ∨ 0 ≤ r ∧ r ≤ 31 ∧ r = opF l)) ∧ Chg NoB w w' := by
  unfold maxLen at hc2
  have Hcs := Lib.hid hcs
  clear hcs
  go_enter Tryd.func73, Tryd.ntmps73
  go_wp2_with fail
  go_loopw [5, 8] (fun _ i wr => ∃ k : Nat, k ≤ 31 ∧ i = .int .i64 k ∧ (∀ j, j < k → wordsB.getD j [] ≠ l) ∧ Chg NoB w wr) (fun _ i _ => 31 - (intOf i).toNat)
  case atStart => exact ⟨0, Nat.zero_le _, rfl, fun j hj => absurd hj (Nat.not_lt_zero _), Chg.refl _ _⟩
  case round =>
    obtain ⟨k, hk, rfl, hno, hch⟩ := hrel
    have Hno := Lib.hid hno
    have Hch := Lib.hid hch
    clear hno hch
    by_cases hlt : k < 31
    · have hx := Hch.out.keep (Hcs.out k hlt)
      have hb := tx_beq l (wordsB.getD k [])
      by_cases he : l = wordsB.getD k []
      · have h1 : (opF l : Int) = k := by rw [he, opF_word k hlt]
        rw [decide_eq_true he] at hb
        have H1 := Lib.hid h1
        clear he h1
        generalize wordsB.getD k [] = m at *
        go_wp2_with fail
        go_ret
        exact ⟨⟨k, rfl, .inr ⟨by omega, by omega, H1.out.symm⟩⟩, Hch.out⟩
      · rw [decide_eq_false he] at hb
        have He := Lib.hid he
        clear he
        have Hno' : Hid (∀ j, j < k + 1 → wordsB.getD j [] ≠ l) := Lib.hid fun j hj => by
          by_cases hjk : j = k
          · rw [hjk]; exact fun e => He.out e.symm
          · exact Hno.out j (by omega)
        generalize wordsB.getD k [] = m at *
        go_wp2_with fail
        go_roundw
        case rel => exact ⟨k + 1, by omega, by go_num, Hno'.out, Hch.out⟩
        case measure => simp [intOf]; omega
    · obtain rfl : k = 31 := by omega
      have h1 := opF_none l Hno.out
      go_wp2_with fail
      go_ret
      exact ⟨⟨-1, rfl, .inl ⟨rfl, h1⟩⟩, Hch.out⟩
set_option maxHeartbeats 1000000 in
theorem op_any (l : List UInt8) (base : Nat) (w : World) (h : Wd base w) : Calls Tryd.prog 59 #[.string (tx l)] w (SayI (.int .i64 (opF l : Int)) w) := by
  obtain ⟨g, o, c, hc1, hc2, hg, hcs⟩ := h.here
  have Hx := Lib.hid (index_any l g o c w hc1 hc2 hcs)
  clear h hcs hc1 hc2
  go_enter Tryd.func59, Tryd.ntmps59
  go_wp2_with fail
  refine Hx.out.mono ?_
  rintro e w1 ⟨⟨r, rfl, hr⟩, hc⟩
  have hm : max 0 r = (opF l : Int) := by rcases hr with ⟨rfl, h⟩ | ⟨h0, h1, h⟩ <;> omega
  have Hm := Lib.hid hm
  have Hc := Lib.hid hc
  have hrb : -1 ≤ r ∧ r ≤ 31 := by rcases hr with ⟨rfl, h⟩ | ⟨h0, h1, h⟩ <;> omega
  obtain ⟨hr1, hr2⟩ := hrb
  clear hm hr hc Hx
  go_wp2_with fail
  go_ret
  exact ⟨congrArg (fun x => Ending.returned (Value.int .i64 x)) Hm.out, Hc.out⟩
set_option maxHeartbeats 1000000 in
theorem takes_any (op : Int) (w : World) : Calls Tryd.prog 27 #[.int .i64 op] w (SayI (.int .i64 (takesF op)) w) := by
  go_enter Tryd.func27, Tryd.ntmps27
  go_wp2_with fail
  all_goals
    go_ret
    simp only [beq_iff_eq, beq_eq_false_iff_ne] at *
    refine ⟨congrArg (fun x => Ending.returned (Value.int .i64 x)) ?_, Chg.refl _ _⟩
    unfold takesF
    (repeat' split) <;> omega
def WordsP (w : World) (e : Ending) (w' : World) : Prop := Chg NoB w w' ∧ ∃ g, e = .returned (.slice (some ⟨g, 0, none⟩) 30 30) ∧ ∀ i, i < 30 → w'.cell? ⟨g, i, none⟩ = some (.string (tx (wordsB.getD (i + 1) [])))
set_option maxHeartbeats 1000000 in
set_option maxRecDepth 20000 in
theorem words_any (w : World) : Calls Tryd.prog 51 #[] w (WordsP w) := by
  go_enter Tryd.func51, Tryd.ntmps51
  go_wp2_with fail
  go_ret
  refine ⟨(Chg.refl _ _).alloc _, w.heap.size, rfl, fun i hi => ?_⟩
  rw [cell_of_row _ w.heap.size i _ _ (0, 0) (heap_alloc_new w _)]
  match i, hi with
  | 0, _ => rfl
  | 1, _ => rfl
  | 2, _ => rfl
  | 3, _ => rfl
  | 4, _ => rfl
  | 5, _ => rfl
  | 6, _ => rfl
  | 7, _ => rfl
  | 8, _ => rfl
  | 9, _ => rfl
  | 10, _ => rfl
  | 11, _ => rfl
  | 12, _ => rfl
  | 13, _ => rfl
  | 14, _ => rfl
  | 15, _ => rfl
  | 16, _ => rfl
  | 17, _ => rfl
  | 18, _ => rfl
  | 19, _ => rfl
  | 20, _ => rfl
  | 21, _ => rfl
  | 22, _ => rfl
  | 23, _ => rfl
  | 24, _ => rfl
  | 25, _ => rfl
  | 26, _ => rfl
  | 27, _ => rfl
  | 28, _ => rfl
  | 29, _ => rfl
  | i + 30, hi => exact absurd hi (by omega)
set_option maxHeartbeats 1000000 in
theorem refWord_any (op : Int) (hw0 : -9223372036854775808 ≤ op) (hw1 : op ≤ 9223372036854775807) (w : World) : Calls Tryd.prog 33 #[.int .i64 op] w (SayI (.string (tx (wordL op))) w) := by
  go_enter Tryd.func33, Tryd.ntmps33
  go_wp2_with fail
  refine (words_any w).mono ?_
  rintro e w1 ⟨hc1, g, rfl, hcs⟩
  have Hcs := Lib.hid hcs
  have Hc1 := Lib.hid hc1
  clear hcs hc1
  go_wp2_with fail
  go_loopw [3, 4, 7] (fun _ _ i wr => ∃ k : Nat, k ≤ 30 ∧ i = .int .i64 k ∧ (∀ j : Nat, j < k → op ≠ j + 1) ∧ Chg NoB w1 wr) (fun _ _ i _ => 30 - (intOf i).toNat)
  case atStart => exact ⟨0, Nat.zero_le _, rfl, fun j hj => absurd hj (Nat.not_lt_zero _), Chg.refl _ _⟩
  case round =>
    obtain ⟨k, hk, rfl, hno, hch⟩ := hrel
    have Hno := Lib.hid hno
    have Hch := Lib.hid hch
    clear hno hch
    by_cases hlt : k < 30
    · have hx := Hch.out.keep (Hcs.out k hlt)
      have Hx : Hid ((k : Int) + 1 = op → wordsB.getD (k + 1) [] = wordL op) := Lib.hid fun h => by rw [← h]; exact (wordL_in (k + 1) (by omega)).symm
      generalize wordsB.getD (k + 1) [] = m at *
      by_cases he : (k : Int) + 1 = op
      · have hb : ((k : Int) + 1 == op) = true := by rw [beq_iff_eq]; exact he
        have hm := Hx.out he
        subst hm
        clear he
        go_wp2_with fail
        go_ret
        exact ⟨rfl, Hc1.out.trans Hch.out⟩
      · have hb : ((k : Int) + 1 == op) = false := by rw [beq_eq_false_iff_ne]; exact he
        have He := Lib.hid he
        clear he
        go_wp2_with fail
        go_roundw
        case rel =>
          refine ⟨k + 1, by omega, by go_num, fun j hj e => ?_, Hch.out⟩
          by_cases hjk : j = k
          · subst hjk; exact He.out e.symm
          · exact Hno.out j (by omega) e
        case measure => simp [intOf]; omega
    · obtain rfl : k = 30 := by omega
      have h1 : wordL op = [] := (wordL_nil op).2 fun ho => Hno.out (op.toNat - 1) (by omega) (by omega)
      go_wp2_with fail
      go_ret
      exact ⟨by rw [h1]; rfl, Hc1.out.trans Hch.out⟩
set_option maxHeartbeats 1000000 in
theorem refOp_any (l : List UInt8) (w : World) : Calls Tryd.prog 41 #[.string (tx l)] w (SayI (.int .i64 (opF l : Int)) w) := by
  go_enter Tryd.func41, Tryd.ntmps41
  go_wp2_with fail
  refine (words_any w).mono ?_
  rintro e w1 ⟨hc1, g, rfl, hcs⟩
  have Hcs := Lib.hid hcs
  have Hc1 := Lib.hid hc1
  clear hcs hc1
  go_wp2_with fail
  go_loopw [3, 4, 7] (fun _ _ i wr => ∃ k : Nat, k ≤ 30 ∧ i = .int .i64 k ∧ (∀ j : Nat, j < k → wordsB.getD (j + 1) [] ≠ l) ∧ Chg NoB w1 wr) (fun _ _ i _ => 30 - (intOf i).toNat)
  case atStart => exact ⟨0, Nat.zero_le _, rfl, fun j hj => absurd hj (Nat.not_lt_zero _), Chg.refl _ _⟩
  case round =>
    obtain ⟨k, hk, rfl, hno, hch⟩ := hrel
    have Hno := Lib.hid hno
    have Hch := Lib.hid hch
    clear hno hch
    by_cases hlt : k < 30
    · have hx := Hch.out.keep (Hcs.out k hlt)
      have Hx : Hid (wordsB.getD (k + 1) [] = l → (k : Int) + 1 = opF l) := Lib.hid fun h => by rw [← h, opF_word (k + 1) (by omega)]; rfl
      have Hno' : Hid (wordsB.getD (k + 1) [] ≠ l → ∀ j : Nat, j < k + 1 → wordsB.getD (j + 1) [] ≠ l) := Lib.hid fun hne j hj => by
        by_cases hjk : j = k
        · subst hjk; exact hne
        · exact Hno.out j (by omega)
      generalize wordsB.getD (k + 1) [] = m at *
      have hb := tx_beq m l
      by_cases he : m = l
      · rw [decide_eq_true he] at hb
        have H1 := Lib.hid (Hx.out he)
        clear he
        go_wp2_with fail
        go_ret
        exact ⟨congrArg (fun x => Ending.returned (Value.int .i64 x)) H1.out, Hc1.out.trans Hch.out⟩
      · rw [decide_eq_false he] at hb
        have He := Lib.hid he
        clear he
        go_wp2_with fail
        go_roundw
        case rel => exact ⟨k + 1, by omega, by go_num, Hno'.out He.out, Hch.out⟩
        case measure => simp [intOf]; omega
    · obtain rfl : k = 30 := by omega
      have h1 : (opF l : Int) = 0 := by
        by_cases hl : l = []
        · rw [hl]; kernel_rfl
        · have := opF_none l fun j hj e => by
            cases j with
            | zero => exact hl (e.symm.trans (by rfl))
            | succ j => exact Hno.out j (by omega) e
          omega
      go_wp2_with fail
      go_ret
      exact ⟨congrArg (fun x => Ending.returned (Value.int .i64 x)) h1.symm, Hc1.out.trans Hch.out⟩
set_option maxHeartbeats 1000000 in
theorem refTakes_any (op : Int) (hw0 : -9223372036854775808 ≤ op) (hw1 : op ≤ 9223372036854775807) (w : World) : Calls Tryd.prog 17 #[.int .i64 op] w (SayI (.int .i64 (takesF op)) w) := by
  have hb : ∀ (k : Nat), 1 ≤ k ∧ k < 31 → (wordL op == wordsB.getD k []) = decide (op = k) := fun k hk => by
    by_cases h : op = k
    · rw [decide_eq_true h, beq_iff_eq]; exact (wordL_eq op k hk).2 h
    · rw [decide_eq_false h, beq_eq_false_iff_ne]; exact fun e => h ((wordL_eq op k hk).1 e)
  have h2 : (wordL op == [112, 117, 115, 104]) = decide (op = 2) := hb 2 (by decide)
  have h30 : (wordL op == [102, 97, 105, 108]) = decide (op = 30) := hb 30 (by decide)
  have h3 : (wordL op == [116, 101, 120, 116]) = decide (op = 3) := hb 3 (by decide)
  have h7 : (wordL op == [108, 111, 97, 100]) = decide (op = 7) := hb 7 (by decide)
  have h8 : (wordL op == [115, 116, 111, 114, 101]) = decide (op = 8) := hb 8 (by decide)
  have h17 : (wordL op == [106, 117, 109, 112]) = decide (op = 17) := hb 17 (by decide)
  have h18 : (wordL op == [122, 101, 114, 111]) = decide (op = 18) := hb 18 (by decide)
  have h19 : (wordL op == [99, 97, 108, 108]) = decide (op = 19) := hb 19 (by decide)
  clear hb
  have Hw := Lib.hid (refWord_any op hw0 hw1 w)
  go_enter Tryd.func17, Tryd.ntmps17
  go_wp2_with fail
  refine Hw.out.mono ?_
  rintro e w1 ⟨rfl, hc⟩
  have Hc := Lib.hid hc
  clear hc hw0 hw1
  unfold tx
  generalize wordL op = wl at *
  go_wp2_with fail
  all_goals
    go_ret
    refine ⟨congrArg (fun x => Ending.returned (Value.int .i64 x)) ?_, Hc.out⟩
    unfold takesF
    clear h2 h30 h3 h7 h8 h17 h18 h19 Hw
    (repeat' split) <;> omega
end Go.Proofs.YtaihgciokfkonaaDoor
