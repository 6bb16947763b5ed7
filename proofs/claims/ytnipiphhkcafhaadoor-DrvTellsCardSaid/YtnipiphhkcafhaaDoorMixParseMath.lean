/- Plain facts on the letters of a number's text: a text is a number's just if its 13 letters are letters, the first one of the sixteen lowest. -/
import Derived.Test.YtnipiphhkcafhaaDoorMixWalkD
import Derived.Lib.Bytealg
namespace Go.Proofs.YtnipiphhkcafhaaDoor.Mix
set_option linter.unusedVariables false

def digitN (c : UInt8) : Nat := if 97 ≤ c.toNat ∧ c.toNat ≤ 122 then c.toNat - 97 else if 50 ≤ c.toNat ∧ c.toNat ≤ 55 then c.toNat - 24 else 32
def valN (l : List UInt8) : Nat := l.foldl (fun h c => h * 32 + digitN c) 0
def goodL (l : List UInt8) : Prop := l.length = 13 ∧ (∀ c ∈ l, digitN c < 32) ∧ digitN (l.headD 0) < 16
open Classical in
noncomputable def parseV (l : List UInt8) : Nat := if goodL l then valN l else 0
open Classical in
noncomputable def parseB (l : List UInt8) : Bool := decide (goodL l)

theorem all_u8 (P : UInt8 → Prop) [DecidablePred P] (h : ∀ n : Fin 256, P (UInt8.ofNat n.val)) (c : UInt8) : P c := by
  have := h ⟨c.toNat, c.toNat_lt⟩
  simpa using this
theorem letter_digit (c : UInt8) (h : digitN c < 32) : letter (digitN c) = c := by
  have := all_u8 (fun c => digitN c < 32 → letter (digitN c) = c) (by decide +kernel) c
  exact this h
theorem digit_letter (n : Nat) (h : n < 32) : digitN (letter n) = n := by
  revert h; revert n; decide +kernel
theorem index_digit (c : UInt8) : Lib.indexByte lettersL c = if digitN c < 32 then (digitN c : Int) else -1 :=
  all_u8 (fun c => Lib.indexByte lettersL c = if digitN c < 32 then (digitN c : Int) else -1) (by decide +kernel) c
theorem valN_snoc (l : List UInt8) (c : UInt8) : valN (l ++ [c]) = valN l * 32 + digitN c := by simp [valN]
theorem dig_0 (h n : Nat) (hn : n < 32) : dig (h * 32 + n) 0 = n := by unfold dig; simp; omega
theorem dig_small (n : Nat) (hn : n < 32) : dig n 0 = n := by unfold dig; simp; omega
theorem dig_succ (h n i : Nat) (hn : n < 32) : dig (h * 32 + n) (i + 1) = dig h i := by
  unfold dig
  rw [show 5 * (i + 1) = 5 + 5 * i by omega, Nat.pow_add, ← Nat.div_div_eq_div_mul]
  have : (h * 32 + n) / 2 ^ 5 = h := by omega
  rw [this]
theorem or_val (v n : Nat) (hn : n < 32) : bits .or .u64 (IntKind.u64.wrap (((v % 18446744073709551616 : Nat) : Int) * (32 : Int))) (n : Int) = (((v * 32 + n) % 18446744073709551616 : Nat) : Int) := by
  have e : IntKind.u64.wrap (((v % 18446744073709551616 : Nat) : Int) * (32 : Int)) = (((v % 576460752303423488) * 32 : Nat) : Int) := by
    rw [IntKind.wrap_u64]; omega
  rw [e, u64_or_nat _ _ (by omega) (by omega)]
  have o := Nat.shiftLeft_add_eq_or_of_lt (b := n) (i := 5) hn (v % 576460752303423488)
  rw [Nat.shiftLeft_eq] at o
  rw [show (32 : Nat) = 2 ^ 5 from rfl, ← o]
  congr 1
  omega
theorem len13 (l : List UInt8) (h : l.length = 13) : ∃ a b c d e f g i j k m n o, l = [a, b, c, d, e, f, g, i, j, k, m, n, o] := by
  match l, h with
  | [a, b, c, d, e, f, g, i, j, k, m, n, o], _ => exact ⟨a, b, c, d, e, f, g, i, j, k, m, n, o, rfl⟩
theorem text_val (l : List UInt8) (hl : l.length = 13) (hg : ∀ c ∈ l, digitN c < 32) : textL (valN l) = l := by
  obtain ⟨a, b, c, d, e, f, g, i, j, k, m, n, o, rfl⟩ := len13 l hl
  simp only [List.mem_cons, List.not_mem_nil, or_false, forall_eq_or_imp, forall_eq] at hg
  obtain ⟨ha, hb, hc, hd, he, hf, hg, hi, hj, hk, hm, hn, ho⟩ := hg
  simp only [textL, cb, valN, List.foldl_cons, List.foldl_nil]
  simp [dig_small, dig_0, dig_succ, ha, hb, hc, hd, he, hf, hg, hi, hj, hk, hm, hn, ho, letter_digit]
theorem textL_head (h : Nat) : (textL h).headD 0 = letter (dig h 12) := rfl
theorem dig12 (h : Nat) (hh : h < 2 ^ 64) : dig h 12 < 16 := by unfold dig; omega
theorem text_good (h : Nat) : ∀ c ∈ textL h, digitN c < 32 := by
  intro c hc
  have : ∀ j, digitN (cb h 13 j) < 32 := by
    intro j; unfold cb
    split
    · rw [digit_letter _ (dig_lt _ _)]; exact dig_lt _ _
    · omega
  simp only [textL, List.mem_cons, List.not_mem_nil, or_false] at hc
  rcases hc with h | h | h | h | h | h | h | h | h | h | h | h | h <;> rw [h] <;> exact this _
theorem text_len (h : Nat) : (textL h).length = 13 := rfl
theorem text_isgood (h : Nat) (hh : h < 2 ^ 64) : goodL (textL h) :=
  ⟨rfl, text_good h, by rw [textL_head, digit_letter _ (dig_lt _ _)]; exact dig12 h hh⟩
theorem val_bound (l : List UInt8) (hg : ∀ c ∈ l, digitN c < 32) (x : Nat) : l.foldl (fun h c => h * 32 + digitN c) x < (x + 1) * 32 ^ l.length := by
  induction l generalizing x with
  | nil => simp
  | cons c l ih =>
    have := ih (fun d hd => hg d (by simp [hd])) (x * 32 + digitN c)
    have h1 := hg c (by simp)
    rw [List.foldl_cons, List.length_cons, Nat.pow_succ]
    refine Nat.lt_of_lt_of_le this ?_
    rw [Nat.mul_comm (32 ^ l.length) 32, ← Nat.mul_assoc]
    exact Nat.mul_le_mul_right _ (by omega)
theorem good_bound (l : List UInt8) (h : goodL l) : valN l < 2 ^ 64 := by
  obtain ⟨hl, hg, h0⟩ := h
  match l, hl with
  | c :: r, hl =>
    have b := val_bound r (fun d hd => hg d (by simp [hd])) (digitN c)
    have e : valN (c :: r) = r.foldl (fun h c => h * 32 + digitN c) (digitN c) := by simp [valN]
    have l12 : r.length = 12 := by simpa using hl
    simp at h0
    rw [e]
    refine Nat.lt_of_lt_of_le b ?_
    rw [l12]
    omega
theorem take_bound (c : UInt8) (r : List UInt8) (hl : (c :: r).length ≤ 13) (hg : ∀ d ∈ (c :: r), digitN d < 32) (h0 : digitN c < 16) : valN (c :: r) < 2 ^ 64 := by
  have b := val_bound r (fun d hd => hg d (by simp [hd])) (digitN c)
  have e : valN (c :: r) = r.foldl (fun h c => h * 32 + digitN c) (digitN c) := by simp [valN]
  have l12 : r.length ≤ 12 := by simpa using hl
  rw [e]
  refine Nat.lt_of_lt_of_le b ?_
  have := Nat.pow_le_pow_right (n := 32) (by omega) l12
  refine Nat.le_trans (Nat.mul_le_mul (show digitN c + 1 ≤ 16 by omega) this) (by decide)
theorem text_eq_iff (l : List UInt8) (hl : l.length = 13) (hg : ∀ c ∈ l, digitN c < 32) : textL (valN l % 18446744073709551616) = l ↔ goodL l := by
  constructor
  · intro h
    have := text_isgood (valN l % 18446744073709551616) (by omega)
    rw [h] at this; exact this
  · intro h
    rw [Nat.mod_eq_of_lt (good_bound l h)]
    exact text_val l hl hg
theorem parse_text (h : Nat) (hh : h < 2 ^ 64) : valN (textL h) = h := by
  have e : ∀ k, k ≤ 13 → ((textL h).take k).foldl (fun h c => h * 32 + digitN c) 0 = h / 2 ^ (5 * (13 - k)) := by
    have d := digit_letter
    intro k hk
    induction k with
    | zero => simp; omega
    | succ k ih =>
      have ih := ih (by omega)
      have t : (textL h).take (k + 1) = (textL h).take k ++ [cb h 13 k] := by
        obtain rfl | rfl | rfl | rfl | rfl | rfl | rfl | rfl | rfl | rfl | rfl | rfl | rfl : k = 0 ∨ k = 1 ∨ k = 2 ∨ k = 3 ∨ k = 4 ∨ k = 5 ∨ k = 6 ∨ k = 7 ∨ k = 8 ∨ k = 9 ∨ k = 10 ∨ k = 11 ∨ k = 12 := by omega
        all_goals rfl
      have c : cb h 13 k = letter (dig h (12 - k)) := by unfold cb; rw [if_pos (by omega)]
      rw [t, List.foldl_append, ih, List.foldl_cons, List.foldl_nil, c, d _ (dig_lt _ _)]
      unfold dig
      have e1 : 5 * (13 - k) = 5 * (12 - k) + 5 := by omega
      have e2 : 5 * (13 - (k + 1)) = 5 * (12 - k) := by omega
      rw [e1, e2, Nat.pow_add, ← Nat.div_div_eq_div_mul]
      omega
  have := e 13 (by omega)
  rw [List.take_of_length_le (by rw [text_len]; omega)] at this
  simpa [valN] using this
end Go.Proofs.YtnipiphhkcafhaaDoor.Mix
