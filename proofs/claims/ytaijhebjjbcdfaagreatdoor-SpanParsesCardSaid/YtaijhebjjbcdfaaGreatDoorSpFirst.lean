/- The first digit of a text, byte by byte, is the first digit rune by rune. No condition. -/
import Derived.Test.YtaijhebjjbcdfaaGreatDoorSpCmp
import Derived.Test.YtaijhebjjbcdfaaGreatDoorSpSplit
namespace Go.Proofs.YtaijhebjjbcdfaaGreatDoor
set_option linter.unusedVariables false
open Go.ChangeShapes Go.WideShapes Go.ChangeAt Go.RowKit Go.Lib
def digB (b : UInt8) : Bool := decide (48 ≤ b.toNat ∧ b.toNat ≤ 57)
theorem tx_get (s : List UInt8) (j : Nat) (h : j < s.length) : (tx s).get! j = s[j] := by
  show (s.toArray)[j]! = s[j]
  simp [h]
def decN (b0 b1 b2 b3 : Nat) (k1 k2 k3 : Bool) : Nat × Nat :=
  if b0 < 0x80 then (b0, 1)
  else if b0 / 32 == 6 && (k1 && b1 / 64 == 2) then
    if (b0 % 32) * 64 + b1 % 64 ≥ 0x80 then ((b0 % 32) * 64 + b1 % 64, 2) else (Utf8.runeError, 1)
  else if b0 / 16 == 14 && (k1 && b1 / 64 == 2) && (k2 && b2 / 64 == 2) then
    if (b0 % 16) * 4096 + (b1 % 64) * 64 + b2 % 64 ≥ 0x800 && Utf8.valid ((b0 % 16) * 4096 + (b1 % 64) * 64 + b2 % 64) then ((b0 % 16) * 4096 + (b1 % 64) * 64 + b2 % 64, 3) else (Utf8.runeError, 1)
  else if b0 / 8 == 30 && (k1 && b1 / 64 == 2) && (k2 && b2 / 64 == 2) && (k3 && b3 / 64 == 2) then
    if (b0 % 8) * 262144 + (b1 % 64) * 4096 + (b2 % 64) * 64 + b3 % 64 ≥ 0x10000 && Utf8.valid ((b0 % 8) * 262144 + (b1 % 64) * 4096 + (b2 % 64) * 64 + b3 % 64) then ((b0 % 8) * 262144 + (b1 % 64) * 4096 + (b2 % 64) * 64 + b3 % 64, 4) else (Utf8.runeError, 1)
  else (Utf8.runeError, 1)
theorem decode_N (s : ByteArray) (pos : Nat) : Utf8.decode s pos = decN (s.get! (pos + 0)).toNat (s.get! (pos + 1)).toNat (s.get! (pos + 2)).toNat (s.get! (pos + 3)).toNat (decide (pos + 1 < s.size)) (decide (pos + 2 < s.size)) (decide (pos + 3 < s.size)) := rfl
theorem decN_low {b0 b1 b2 b3 : Nat} {k1 k2 k3 : Bool} (h : b0 < 128) : decN b0 b1 b2 b3 k1 k2 k3 = (b0, 1) := if_pos h
theorem decN_high {b0 b1 b2 b3 : Nat} {k1 k2 k3 : Bool} (h : ¬ b0 < 128) : 128 ≤ (decN b0 b1 b2 b3 k1 k2 k3).1 ∧ ((decN b0 b1 b2 b3 k1 k2 k3).2 = 1 ∨ ((decN b0 b1 b2 b3 k1 k2 k3).2 = 2 ∧ (k1 && b1 / 64 == 2) = true) ∨ ((decN b0 b1 b2 b3 k1 k2 k3).2 = 3 ∧ (k1 && b1 / 64 == 2) = true ∧ (k2 && b2 / 64 == 2) = true) ∨ ((decN b0 b1 b2 b3 k1 k2 k3).2 = 4 ∧ (k1 && b1 / 64 == 2) = true ∧ (k2 && b2 / 64 == 2) = true ∧ (k3 && b3 / 64 == 2) = true)) := by
  have hre : 128 ≤ Utf8.runeError := by decide
  unfold decN
  rw [if_neg h]
  split
  · rename_i hc
    rw [Bool.and_eq_true] at hc
    split
    · rename_i hv
      exact ⟨hv, .inr (.inl ⟨rfl, hc.2⟩)⟩
    · exact ⟨hre, .inl rfl⟩
  · split
    · rename_i hc
      rw [Bool.and_eq_true, Bool.and_eq_true] at hc
      split
      · rename_i hv
        rw [Bool.and_eq_true, decide_eq_true_iff] at hv
        exact ⟨Nat.le_trans (by decide) hv.1, .inr (.inr (.inl ⟨rfl, hc.1.2, hc.2⟩))⟩
      · exact ⟨hre, .inl rfl⟩
    · split
      · rename_i hc
        rw [Bool.and_eq_true, Bool.and_eq_true, Bool.and_eq_true] at hc
        split
        · rename_i hv
          rw [Bool.and_eq_true, decide_eq_true_iff] at hv
          exact ⟨Nat.le_trans (by decide) hv.1, .inr (.inr (.inr ⟨rfl, hc.1.1.2, hc.1.2, hc.2⟩))⟩
        · exact ⟨hre, .inl rfl⟩
      · exact ⟨hre, .inl rfl⟩
theorem dec_low (s : List UInt8) (pos : Nat) (h : pos < s.length) (hb : s[pos].toNat < 128) : Utf8.decode (tx s) pos = (s[pos].toNat, 1) := by
  rw [decode_N, Nat.add_zero, tx_get s pos h]
  exact decN_low hb
theorem dec_high (s : List UInt8) (pos : Nat) (h : pos < s.length) (hb : ¬ s[pos].toNat < 128) : digitR (Utf8.decode (tx s) pos).1 = false ∧ 1 ≤ (Utf8.decode (tx s) pos).2 ∧ pos + (Utf8.decode (tx s) pos).2 ≤ s.length ∧ ∀ j (hj : j < s.length), pos ≤ j → j < pos + (Utf8.decode (tx s) pos).2 → digB s[j] = false := by
  have hone : digB s[pos] = false := decide_eq_false (by omega)
  have hct : ∀ k, (decide (pos + k < (tx s).size) && ((tx s).get! (pos + k)).toNat / 64 == 2) = true → ∃ hk : pos + k < s.length, digB s[pos + k] = false := fun k hk => by
    rw [Bool.and_eq_true, decide_eq_true_iff, tx_size] at hk
    obtain ⟨h1, h2⟩ := hk
    rw [tx_get s _ h1] at h2
    have := beq_iff_eq.1 h2
    exact ⟨h1, decide_eq_false (by omega)⟩
  have hb' : ¬ ((tx s).get! (pos + 0)).toNat < 128 := by rw [Nat.add_zero, tx_get s pos h]; exact hb
  have hd := decN_high (b1 := ((tx s).get! (pos + 1)).toNat) (b2 := ((tx s).get! (pos + 2)).toNat) (b3 := ((tx s).get! (pos + 3)).toNat) (k1 := decide (pos + 1 < (tx s).size)) (k2 := decide (pos + 2 < (tx s).size)) (k3 := decide (pos + 3 < (tx s).size)) hb'
  rw [← decode_N] at hd
  generalize Utf8.decode (tx s) pos = r at *
  obtain ⟨c, n⟩ := r
  obtain ⟨hc, hn⟩ := hd
  simp only at hc hn ⊢
  refine ⟨decide_eq_false (by omega), ?_⟩
  rcases hn with rfl | ⟨rfl, x1⟩ | ⟨rfl, x1, x2⟩ | ⟨rfl, x1, x2, x3⟩
  · exact ⟨by decide, by omega, fun j hj a b => by
      obtain rfl : j = pos := by omega
      exact hone⟩
  · obtain ⟨h1, e1⟩ := hct 1 x1
    exact ⟨by decide, by omega, fun j hj a b => by
      by_cases e : j = pos
      · subst e; exact hone
      · obtain rfl : j = pos + 1 := by omega
        exact e1⟩
  · obtain ⟨h1, e1⟩ := hct 1 x1
    obtain ⟨h2, e2⟩ := hct 2 x2
    exact ⟨by decide, by omega, fun j hj a b => by
      by_cases e : j = pos
      · subst e; exact hone
      · by_cases e' : j = pos + 1
        · subst e'; exact e1
        · obtain rfl : j = pos + 2 := by omega
          exact e2⟩
  · obtain ⟨h1, e1⟩ := hct 1 x1
    obtain ⟨h2, e2⟩ := hct 2 x2
    obtain ⟨h3, e3⟩ := hct 3 x3
    exact ⟨by decide, by omega, fun j hj a b => by
      by_cases e : j = pos
      · subst e; exact hone
      · by_cases e' : j = pos + 1
        · subst e'; exact e1
        · by_cases e'' : j = pos + 2
          · subst e''; exact e2
          · obtain rfl : j = pos + 3 := by omega
            exact e3⟩
theorem first_from (s : List UInt8) : ∀ (f pos : Nat), s.length - pos ≤ f → pos ≤ s.length →
    (∃ i, ∃ h : i < s.length, pos ≤ i ∧ idxFuncFrom digitR true (tx s) f pos = i ∧ digB s[i] = true ∧ ∀ j (hj : j < s.length), pos ≤ j → j < i → digB s[j] = false) ∨
    (idxFuncFrom digitR true (tx s) f pos = -1 ∧ ∀ j (hj : j < s.length), pos ≤ j → digB s[j] = false)
  | 0, pos, h, hp => .inr ⟨rfl, fun j hj a => by omega⟩
  | f + 1, pos, h, hp => by
    unfold idxFuncFrom
    by_cases hlt : pos < (tx s).size
    · rw [if_pos hlt]
      rw [tx_size] at hlt
      by_cases hb : s[pos].toNat < 128
      · rw [dec_low s pos hlt hb]
        simp only
        by_cases hd : digB s[pos] = true
        · have hr : digitR s[pos].toNat = true := by
            unfold digB at hd
            have := of_decide_eq_true hd
            exact decide_eq_true (by omega)
          rw [if_pos hr]
          exact .inl ⟨pos, hlt, Nat.le_refl _, rfl, hd, fun j hj a b => by omega⟩
        · have hd' : digB s[pos] = false := by simpa using hd
          have hr : ¬ digitR s[pos].toNat = true := fun hr => hd (by
            have := of_decide_eq_true hr
            exact decide_eq_true (by omega))
          rw [if_neg hr]
          rcases first_from s f (pos + 1) (by omega) (by omega) with ⟨i, hi, h1, h2, h3, h4⟩ | ⟨h1, h2⟩
          · exact .inl ⟨i, hi, by omega, h2, h3, fun j hj a b => by
              by_cases e : j = pos
              · subst e; exact hd'
              · exact h4 j hj (by omega) b⟩
          · exact .inr ⟨h1, fun j hj a => by
              by_cases e : j = pos
              · subst e; exact hd'
              · exact h2 j hj (by omega)⟩
      · obtain ⟨a1, a2, a3, a4⟩ := dec_high s pos hlt hb
        rw [if_neg (by rw [a1]; decide)]
        rcases first_from s f (pos + (Utf8.decode (tx s) pos).2) (by omega) a3 with ⟨i, hi, h1, h2, h3, h4⟩ | ⟨h1, h2⟩
        · exact .inl ⟨i, hi, by omega, h2, h3, fun j hj a b => by
            by_cases e : j < pos + (Utf8.decode (tx s) pos).2
            · exact a4 j hj a e
            · exact h4 j hj (by omega) b⟩
        · exact .inr ⟨h1, fun j hj a => by
            by_cases e : j < pos + (Utf8.decode (tx s) pos).2
            · exact a4 j hj a e
            · exact h2 j hj (by omega)⟩
    · rw [if_neg hlt]
      rw [tx_size] at hlt
      exact .inr ⟨rfl, fun j hj a => by omega⟩
theorem first_at (s : List UInt8) : (∃ i, ∃ h : i < s.length, idxFunc digitR true (tx s) = i ∧ digB s[i] = true ∧ ∀ j (hj : j < s.length), j < i → digB s[j] = false) ∨ (idxFunc digitR true (tx s) = -1 ∧ ∀ j (hj : j < s.length), digB s[j] = false) := by
  unfold idxFunc
  rcases first_from s (tx s).size 0 (by rw [tx_size]; omega) (Nat.zero_le _) with ⟨i, h, -, h2, h3, h4⟩ | ⟨h1, h2⟩
  · exact .inl ⟨i, h, h2, h3, fun j hj b => h4 j hj (Nat.zero_le _) b⟩
  · exact .inr ⟨h1, fun j hj => h2 j hj (Nat.zero_le _)⟩
/- a mark of which the text has no byte cuts nothing -/
theorem spl_one {s sep : List UInt8} {b : UInt8} (h : ∀ x ∈ s, x ≠ b) (hb : sep.head? = some b) : Lib.split s sep = [s] := by
  rcases Lib.index_spec s sep with ⟨h1, -⟩ | ⟨i, h1, hi, h2, -⟩
  · exact spl_miss h1
  · exfalso
    cases sep with
    | nil => cases hb
    | cons c r =>
      have e : c = b := by simpa using hb
      subst e
      unfold occAt at h2
      cases hd : s.drop i with
      | nil => rw [hd] at h2; simp at h2
      | cons d t =>
        rw [hd] at h2
        have hm : d ∈ s := List.mem_of_mem_drop (by rw [hd]; simp)
        have : c = d := by
          simp at h2
          exact h2.1
        exact h d hm this.symm
end Go.Proofs.YtaijhebjjbcdfaaGreatDoor
