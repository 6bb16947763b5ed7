/- The contracts of letter, wordSize, TrimLeft at the blanks, Cut at a line feed, HasPrefix of a note. Conditions: as each says. -/
import Derived.Test.YtdgcpgbknfojhaaDoorRcMath
import Derived.Test.YtdgcpgbknfojhaaDoorAmQcut
import Derived.Test.YtdgcpgbknfojhaaDoorShelf
import Derived.Shelf.Strings.SlTrimAscii

namespace Go.Proofs.YtdgcpgbknfojhaaDoor
set_option linter.unusedVariables false
open Go.ChangeShapes Go.WideShapes Go.ChangeAt Go.RowKit Go.Lib
/- a rune at a byte below 128 is the byte; else it is 128 or above -/
theorem txg (s : List UInt8) (j : Nat) (h : j < s.length) : (tx s).get! j = s[j] := by
  show (s.toArray)[j]! = s[j]
  simp [h]
theorem dec_rune (s : List UInt8) (pos : Nat) (h : pos < s.length) : (s[pos].toNat < 128 ∧ Utf8.decode (tx s) pos = (s[pos].toNat, 1)) ∨ (¬ s[pos].toNat < 128 ∧ 128 ≤ (Utf8.decode (tx s) pos).1) := by
  have hre : 128 ≤ Utf8.runeError := by decide
  have hg := txg s pos h
  by_cases hb : s[pos].toNat < 128
  · refine .inl ⟨hb, ?_⟩
    unfold Utf8.decode
    simp only [Nat.add_zero, hg]
    exact if_pos hb
  · refine .inr ⟨hb, ?_⟩
    unfold Utf8.decode
    simp only [Nat.add_zero, hg]
    rw [if_neg hb]
    split
    · split
      · assumption
      · exact hre
    · split
      · split
        · rename_i hv
          rw [Bool.and_eq_true, decide_eq_true_iff] at hv
          exact Nat.le_trans (by decide) hv.1
        · exact hre
      · split
        · split
          · rename_i hv
            rw [Bool.and_eq_true, decide_eq_true_iff] at hv
            exact Nat.le_trans (by decide) hv.1
          · exact hre
        · exact hre
def wordR (r : Nat) : Bool := decide (97 ≤ r ∧ r ≤ 122) || decide (48 ≤ r ∧ r ≤ 57) || decide (r = 95)
theorem wordR_high {r : Nat} (h : 128 ≤ r) : wordR r = false := by
  unfold wordR
  rw [decide_eq_false (by omega), decide_eq_false (by omega), decide_eq_false (by omega)]
  rfl
theorem word_from (s : List UInt8) : ∀ (f pos : Nat), s.length - pos ≤ f → pos ≤ s.length →
    idxFuncFrom (fun r => !wordR r) true (tx s) f pos = if (s.drop pos).all wordC = true then -1 else ((pos + ((s.drop pos).takeWhile wordC).length : Nat) : Int)
  | 0, pos, h, hp => by
    have : s.drop pos = [] := List.drop_eq_nil_of_le (by omega)
    rw [this]
    rfl
  | f + 1, pos, h, hp => by
    unfold idxFuncFrom
    by_cases hlt : pos < s.length
    · rw [if_pos (by rw [tx_size]; exact hlt)]
      have hd : s.drop pos = s[pos] :: s.drop (pos + 1) := List.drop_eq_getElem_cons hlt
      rw [hd]
      rcases dec_rune s pos hlt with ⟨hb, e⟩ | ⟨hb, e⟩
      · rw [e]
        simp only
        have hw : wordR s[pos].toNat = wordC s[pos] := rfl
        rw [hw]
        cases hc : wordC s[pos] with
        | true =>
          rw [if_neg (by decide), word_from s f (pos + 1) (by omega) (by omega)]
          simp only [List.all_cons, hc, Bool.true_and, List.takeWhile_cons_of_pos, List.length_cons]
          split
          · rfl
          · congr 1; omega
        | false =>
          rw [if_pos (by decide), if_neg (by rw [List.all_cons, hc, Bool.false_and]; decide), List.takeWhile_cons, hc]
          simp
      · have hw : wordR (Utf8.decode (tx s) pos).1 = false := wordR_high e
        have hc : wordC s[pos] = false := wordR_high (by omega)
        rw [hw, if_pos (by decide), if_neg (by rw [List.all_cons, hc, Bool.false_and]; decide), List.takeWhile_cons, hc]
        simp
    · have : s.drop pos = [] := List.drop_eq_nil_of_le (by omega)
      rw [if_neg (by rw [tx_size]; exact hlt), this]
      rfl
theorem word_len (s : List UInt8) : idxFunc (fun r => !wordR r) true (tx s) = if s.all wordC = true then -1 else ((s.takeWhile wordC).length : Int) := by
  unfold idxFunc
  rw [word_from s _ 0 (by rw [tx_size]; omega) (Nat.zero_le _)]
  simp
theorem takeW_all {s : List UInt8} (h : s.all wordC = true) : s.takeWhile wordC = s := by
  induction s with
  | nil => rfl
  | cons c r ih =>
    rw [List.all_cons, Bool.and_eq_true] at h
    rw [List.takeWhile_cons, if_pos h.1, ih h.2]
theorem takeW_len (s : List UInt8) : (s.takeWhile wordC).length ≤ s.length := List.IsPrefix.length_le (List.takeWhile_prefix _)
def SayAt (v : Value) (w : World) (e : Ending) (w' : World) : Prop := e = .returned v ∧ w' = w
set_option maxHeartbeats 1000000 in
theorem letter_any (r : Int) (w : World) : Calls Tryd.prog 21 #[.int .i32 r] w (SayAt (.bool (decide (97 ≤ r ∧ r ≤ 122))) w) := by
  by_cases e1 : 97 ≤ r
  · have f2 := decide_eq_true e1
    by_cases e2 : r ≤ 122
    · have f3 := decide_eq_true e2
      rw [decide_eq_true (show 97 ≤ r ∧ r ≤ 122 from ⟨e1, e2⟩)]
      go_enter Tryd.func21, Tryd.ntmps21
      go_wp2_with fail
      go_ret
      exact ⟨rfl, rfl⟩
    · have f3 := decide_eq_false e2
      rw [decide_eq_false (show ¬ (97 ≤ r ∧ r ≤ 122) from fun h => e2 h.2)]
      go_enter Tryd.func21, Tryd.ntmps21
      go_wp2_with fail
      go_ret
      exact ⟨rfl, rfl⟩
  · have f2 := decide_eq_false e1
    rw [decide_eq_false (show ¬ (97 ≤ r ∧ r ≤ 122) from fun h => e1 h.1)]
    go_enter Tryd.func21, Tryd.ntmps21
    go_wp2_with fail
    go_ret
    exact ⟨rfl, rfl⟩
set_option maxHeartbeats 2000000 in
theorem wfun_any (r : Nat) (w : World) : Calls Tryd.prog 47 #[.int .i32 r] w (SayAt (.bool (!wordR r)) w) := by
  have HL := Lib.hid (letter_any r w)
  by_cases h1 : 97 ≤ r ∧ r ≤ 122
  · rw [show wordR r = true by unfold wordR; rw [decide_eq_true h1]; rfl]
    rw [decide_eq_true (show (97 : Int) ≤ r ∧ (r : Int) ≤ 122 by omega)] at HL
    go_enter Tryd.func47, Tryd.ntmps47
    go_wp2_with fail
    refine HL.out.mono ?_
    rintro e w2 ⟨rfl, rfl⟩
    go_wp2_with fail
    go_ret
    exact ⟨rfl, rfl⟩
  · rw [decide_eq_false (show ¬ ((97 : Int) ≤ r ∧ (r : Int) ≤ 122) by omega)] at HL
    by_cases h2 : 48 ≤ r
    · have g2 : (48 : Int) ≤ (r : Int) := by omega
      by_cases h3 : r ≤ 57
      · have g3 : decide ((r : Int) ≤ 57) = true := decide_eq_true (by omega)
        rw [show wordR r = true by unfold wordR; rw [decide_eq_false h1, decide_eq_true ⟨h2, h3⟩]; rfl]
        go_enter Tryd.func47, Tryd.ntmps47
        go_wp2_with fail
        refine HL.out.mono ?_
        rintro e w2 ⟨rfl, rfl⟩
        go_wp2_with fail
        go_ret
        exact ⟨rfl, rfl⟩
      · have g3 : decide ((r : Int) ≤ 57) = false := decide_eq_false (by omega)
        by_cases h4 : r = 95
        · subst h4
          rw [show wordR 95 = true from rfl]
          go_enter Tryd.func47, Tryd.ntmps47
          go_wp2_with fail
          refine HL.out.mono ?_
          rintro e w2 ⟨rfl, rfl⟩
          go_wp2_with fail
          go_ret
          exact ⟨rfl, rfl⟩
        · have g4 : ((r : Int) != 95) = true := by rw [bne_iff_ne]; omega
          rw [show wordR r = false by unfold wordR; rw [decide_eq_false h1, decide_eq_false (fun h => h3 h.2), decide_eq_false h4]; rfl]
          go_enter Tryd.func47, Tryd.ntmps47
          go_wp2_with fail
          refine HL.out.mono ?_
          rintro e w2 ⟨rfl, rfl⟩
          go_wp2_with fail
          go_ret
          exact ⟨rfl, rfl⟩
    · have g2 : ¬ (48 : Int) ≤ (r : Int) := by omega
      have g4 : ((r : Int) != 95) = true := by rw [bne_iff_ne]; omega
      rw [show wordR r = false by unfold wordR; rw [decide_eq_false h1, decide_eq_false (fun h => h2 h.1), decide_eq_false (by omega)]; rfl]
      go_enter Tryd.func47, Tryd.ntmps47
      go_wp2_with fail
      refine HL.out.mono ?_
      rintro e w2 ⟨rfl, rfl⟩
      go_wp2_with fail
      go_ret
      exact ⟨rfl, rfl⟩
theorem word_rune (w : World) : PredAt Tryd.prog 47 #[] encR (fun r => !wordR r) w := fun W r _ => by
  unfold FnGives
  refine (show Calls Tryd.prog 47 #[.int .i32 r] W _ from wfun_any r W).mono ?_
  rintro e w' ⟨rfl, rfl⟩
  exact ⟨rfl, 0, rfl⟩
set_option maxHeartbeats 1000000 in
theorem wsize_any (s : List UInt8) (w : World) : Calls Tryd.prog 22 #[.string (tx s)] w fun e w' => e = .returned (.int .i64 ((s.takeWhile wordC).length : Int)) ∧ Chg NoB w w' := by
  have HI := Lib.hid (Tryd.strings_IndexFunc 47 #[] (enters_of Tryd.func47 (by kernel_rfl) rfl) (fun r => !wordR r) (tx s) w (word_rune w))
  have hz : (tx s).size = s.length := tx_size s
  rw [word_len] at HI
  have htl := takeW_len s
  by_cases h : s.all wordC = true
  · rw [if_pos h] at HI
    rw [takeW_all h]
    clear h htl
    go_enter Tryd.func22, Tryd.ntmps22
    go_wp2_with fail
    refine HI.out.mono ?_
    rintro e w2 ⟨rfl, hb⟩
    have Hc := Lib.hid (chg_of_below hb)
    clear hb
    go_wp2_with fail
    go_ret
    exact ⟨rfl, Hc.out⟩
  · rw [if_neg h] at HI
    generalize (s.takeWhile wordC).length = n at *
    clear h
    go_enter Tryd.func22, Tryd.ntmps22
    go_wp2_with fail
    refine HI.out.mono ?_
    rintro e w2 ⟨rfl, hb⟩
    have Hc := Lib.hid (chg_of_below hb)
    clear hb
    go_wp2_with fail
    go_ret
    exact ⟨rfl, Hc.out⟩
/- the blanks at the beginning -/
def blankC (c : UInt8) : Bool := [32, 10, 9].contains c
theorem trim_any (s : List UInt8) (w : World) : Calls Tryd.prog 66 #[.string (tx s), .string ⟨#[32, 10, 9]⟩] w fun e w' => e = .returned (.string (tx (s.dropWhile blankC))) ∧ Chg NoB w w' := by
  have h := Any.strings_TrimLeft_laid Tryd.lays161 (by kernel_rfl) (tx s) ⟨#[32, 10, 9]⟩ w (by decide) (ascii_of_all (by decide))
  refine Calls.mono h ?_
  rintro e w' ⟨rfl, hb⟩
  refine ⟨?_, chg_of_below hb⟩
  rw [tx_list]
  rfl
theorem feed_any (s : List UInt8) (m : Int) (w : World) (hs : s.length < 4294967281) (hm : w.cell? ⟨1, 0, none⟩ = some (.int .i64 m)) : Calls Tryd.prog 68 #[.string (tx s), .string ⟨#[10]⟩] w fun e w' => e = .returned (.tuple #[.string (tx (Lib.cut s [10]).1), .string (tx (Lib.cut s [10]).2.1), .bool (Lib.cut s [10]).2.2]) ∧ Chg NoB w w' := by
  refine (Tryd.strings_Cut (tx s) ⟨#[10]⟩ m w (by rw [tx_size]; exact hs) hm).mono ?_
  rintro e w' ⟨rfl, n, rfl⟩
  refine ⟨?_, (Chg.refl NoB w).drewN n⟩
  rw [tx_list]
  rfl
end Go.Proofs.YtdgcpgbknfojhaaDoor
