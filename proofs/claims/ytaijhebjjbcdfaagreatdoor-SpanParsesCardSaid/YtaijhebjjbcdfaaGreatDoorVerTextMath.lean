/- What the texts of numbers are, and that unlike parts make unlike texts. No condition. -/
import Derived.Test.YtaijhebjjbcdfaaGreatDoorVerWalkF
namespace Go.Proofs.YtaijhebjjbcdfaaGreatDoor.Ver
open Go.RowKit
theorem dec_eq (u : Nat) : Lib.decDigits u = if u < 10 then [UInt8.ofNat (48 + u)] else Lib.decDigits (u / 10) ++ [UInt8.ofNat (48 + u % 10)] := by
  rw [Lib.decDigits]
  split <;> simp_all
theorem dig_nat (d : Nat) (h : d < 10) : (UInt8.ofNat (48 + d)).toNat = 48 + d := by
  rw [UInt8.toNat_ofNat']
  omega
theorem dec_in (u : Nat) : ∀ b ∈ Lib.decDigits u, 48 ≤ b.toNat ∧ b.toNat ≤ 57 := by
  induction u using Nat.strongRecOn with
  | _ u ih =>
    intro b hb
    rw [dec_eq] at hb
    split at hb
    · rename_i h
      have : b = UInt8.ofNat (48 + u) := by simpa using hb
      rw [this, dig_nat u h]
      omega
    · rename_i h
      rcases List.mem_append.1 hb with hb | hb
      · exact ih (u / 10) (by omega) b hb
      · have : b = UInt8.ofNat (48 + u % 10) := by simpa using hb
        rw [this, dig_nat (u % 10) (by omega)]
        omega
def val (l : List UInt8) : Nat := l.foldl (fun n b => n * 10 + (b.toNat - 48)) 0
theorem val_snoc (l : List UInt8) (b : UInt8) : val (l ++ [b]) = val l * 10 + (b.toNat - 48) := by simp [val]
theorem val_dec (u : Nat) : val (Lib.decDigits u) = u := by
  induction u using Nat.strongRecOn with
  | _ u ih =>
    rw [dec_eq]
    split
    · rename_i h
      show (0 * 10 + ((UInt8.ofNat (48 + u)).toNat - 48)) = u
      rw [dig_nat u h]
      omega
    · rename_i h
      rw [val_snoc, ih (u / 10) (by omega), dig_nat (u % 10) (by omega)]
      omega
theorem dec_inj {u v : Nat} (h : Lib.decDigits u = Lib.decDigits v) : u = v := by rw [← val_dec u, ← val_dec v, h]
theorem dec_nodot (u : Nat) : (46 : UInt8) ∉ Lib.decDigits u := fun h => by
  have := (dec_in u 46 h).1
  exact absurd this (by decide)
theorem cut_first {l m r s : List UInt8} {x : UInt8} (hl : x ∉ l) (hm : x ∉ m) (h : l ++ x :: r = m ++ x :: s) : l = m ∧ r = s := by
  induction l generalizing m with
  | nil =>
    cases m with
    | nil => exact ⟨rfl, by simpa using h⟩
    | cons c m => simp at h; exact absurd h.1 (fun e => hm (by simp [e]))
  | cons c l ih =>
    cases m with
    | nil => simp at h; exact absurd h.1.symm (fun e => hl (by simp [e]))
    | cons d m =>
      simp at h
      obtain ⟨rfl, h⟩ := h
      obtain ⟨h1, h2⟩ := ih (fun e => hl (by simp [e])) (fun e => hm (by simp [e])) h
      exact ⟨by rw [h1], h2⟩
theorem it_nat (u : Nat) : (it (u : Int)).data.toList = Lib.decDigits u := by
  show (Lib.itoa (u : Int)).toArray.toList = _
  rw [Lib.itoa_nonneg]
def dotL (a b c : Nat) : List UInt8 := Lib.decDigits a ++ 46 :: (Lib.decDigits b ++ 46 :: Lib.decDigits c)
theorem dot_list (a b c : Nat) : (dot (it a) (it b) (it c)).data.toList = dotL a b c := by
  unfold dot dotL
  simp only [ByteArray.data_append, Array.toList_append, it_nat]
  simp
theorem dotL_inj {a b c x y z : Nat} (h : dotL a b c = dotL x y z) : a = x ∧ b = y ∧ c = z := by
  obtain ⟨h1, h2⟩ := cut_first (dec_nodot a) (dec_nodot x) h
  obtain ⟨h3, h4⟩ := cut_first (dec_nodot b) (dec_nodot y) h2
  exact ⟨dec_inj h1, dec_inj h3, dec_inj h4⟩
theorem dot_ne {a b c x y z : Nat} (h : ¬ (a = x ∧ b = y ∧ c = z)) : ¬ dot (it a) (it b) (it c) = dot (it x) (it y) (it z) := fun e => by
  have := congrArg (fun t => t.data.toList) e
  rw [dot_list, dot_list] at this
  exact h (dotL_inj this)
end Go.Proofs.YtaijhebjjbcdfaaGreatDoor.Ver
