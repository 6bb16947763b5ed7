/- The contract of the document's Text. No condition. -/
import Derived.Test.YtnipiphhkcafhaaDoorMixWalkC
namespace Go.Proofs.YtnipiphhkcafhaaDoor.Mix
set_option linter.unusedVariables false
open Go.ChangeShapes Go.WideShapes Go.ChangeAt Go.RowKit
def shf (h k : Nat) : Nat := h / 2 ^ (5 * k)
def lowL (h k : Nat) : List UInt8 := (textL h).drop (13 - k)
theorem shf_dig (h k : Nat) : ((shf h k : Nat) : Int) % 32 = ((dig h k : Nat) : Int) := by unfold shf dig; omega
theorem shf_next (h k : Nat) : ((shf h k : Nat) : Int) / 32 = ((shf h (k + 1) : Nat) : Int) := by
  have e : shf h (k + 1) = shf h k / 32 := by unfold shf; rw [Nat.mul_succ, Nat.pow_add, Nat.div_div_eq_div_mul]
  rw [e]; omega
theorem shf_le (h k : Nat) : shf h k ≤ h := Nat.div_le_self _ _
theorem oneBack (n : Int) (c : UInt8) (wr : World) (hn : n = (c.toNat : Int)) :
    (convert 65 9 (.slice (some ⟨wr.heap.size, 0, none⟩) 1 1)).run Tryd.prog (wr.alloc (.cells #[.int .u8 n] 5)) = .ok (.string ⟨#[c]⟩) (wr.alloc (.cells #[.int .u8 n] 5)) := by
  refine run_convert_bytes_back (P := Tryd.prog) _ 65 9 5 ⟨wr.heap.size, 0, none⟩ 1 [c] Tryd.underlying65 Tryd.underlying5 Tryd.underlying9 ?_
  intro j hj
  have hj' : j < 1 := hj
  obtain rfl : j = 0 := by omega
  simp [Addr.add, go_sem, hn]
theorem letter_low (n : Nat) (h : n ≤ 25) : (n : Int) + 97 = ((letter n).toNat : Int) := by
  have : ∀ n, n ≤ 25 → n + 97 = (letter n).toNat := by decide
  have := this n h
  omega
theorem letter_high (n : Nat) (h : 25 < n) (h2 : n < 32) : (n : Int) - 26 + 50 = ((letter n).toNat : Int) := by
  have : ∀ n, n < 32 → 25 < n → n + 24 = (letter n).toNat := by decide
  have := this n h2 h
  omega
theorem low_size (h k : Nat) : (lowL h k).length ≤ 13 := by unfold lowL textL; simp
theorem low_next (h k : Nat) (hk : k < 13) : letter (dig h k) :: lowL h k = lowL h (k + 1) := by
  obtain rfl | rfl | rfl | rfl | rfl | rfl | rfl | rfl | rfl | rfl | rfl | rfl | rfl : k = 0 ∨ k = 1 ∨ k = 2 ∨ k = 3 ∨ k = 4 ∨ k = 5 ∨ k = 6 ∨ k = 7 ∨ k = 8 ∨ k = 9 ∨ k = 10 ∨ k = 11 ∨ k = 12 := by omega
  all_goals rfl
theorem str_cons (c : UInt8) (l : List UInt8) : (ByteArray.mk #[c] ++ ByteArray.mk l.toArray) = ByteArray.mk (c :: l).toArray := by
  apply ByteArray.ext
  simp [ByteArray.data_append]
set_option maxHeartbeats 1000000 in
set_option maxRecDepth 20000 in
theorem textR_any (h : BitVec 64) (w : World) :
    Calls Tryd.prog 24 #[.int .u64 h.toNat] w fun e w' => e = .returned (.string ⟨(textL h.toNat).toArray⟩) ∧ Grown w w' := by
  have hh := h.isLt
  go_enter Tryd.func24, Tryd.ntmps24
  go_wp2
  go_loopw [0, 3, 4, 5, 6] (fun g o i n c wr => ∃ k : Nat, k ≤ 13 ∧ i = .int .i64 k ∧ g = .int .u64 ((shf h.toNat k : Nat) : Int) ∧ o = .string ⟨(lowL h.toNat k).toArray⟩ ∧ Grown w wr) (fun _ _ i _ _ _ => 13 - (intOf i).toNat)
  case atStart => exact ⟨0, by omega, by rfl, by simp [shf], by rfl, Grown.refl _⟩
  case round =>
    obtain ⟨k, hk, rfl, rfl, rfl, hg⟩ := hrel
    have hs := shf_le h.toNat k
    by_cases hlt : k < 13
    · have hd := shf_dig h.toNat k
      have hd' := dig_lt h.toNat k
      have hn := shf_next h.toNat k
      by_cases h25 : 25 < dig h.toNat k
      · have hcv := oneBack _ _ wr (letter_high _ h25 hd')
        have hlw := low_size h.toNat k
        go_wp2
        go_roundw
        case rel => exact ⟨k + 1, by omega, by go_num, rfl, by rw [str_cons, low_next _ _ hlt], hg.alloc _ _⟩
        case measure => simp [intOf]; omega
      · have hcv := oneBack _ _ wr (letter_low (dig h.toNat k) (by omega))
        have hlw := low_size h.toNat k
        go_wp2
        go_roundw
        case rel => exact ⟨k + 1, by omega, by go_num, rfl, by rw [str_cons, low_next _ _ hlt], hg.alloc _ _⟩
        case measure => simp [intOf]; omega
    · obtain rfl : k = 13 := by omega
      go_wp2
      go_ret
      exact ⟨by rfl, hg⟩
end Go.Proofs.YtnipiphhkcafhaaDoor.Mix
