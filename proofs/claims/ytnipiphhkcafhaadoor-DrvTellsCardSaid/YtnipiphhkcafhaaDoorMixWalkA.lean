/- The contracts of Start, Add and Of, of the program and of the document. Condition: a string's length fits an int. -/
import Derived.Test.YtnipiphhkcafhaaDoorRows
import Derived.Test.YtnipiphhkcafhaaDoorMixMath
import Derived.WalkKit
import Derived.ProofKit
import Derived.OpenShut
import Derived.ShutString
import Derived.Lib.Hide
import Derived.Below
namespace Go.Proofs.YtnipiphhkcafhaaDoor.Mix
set_option linter.unusedVariables false
open Go.ChangeShapes Go.WideShapes Go.ChangeAt Go.RowKit

def Grown (W w' : World) : Prop := Below W.heap.size W w'
theorem Grown.refl (w : World) : Grown w w := Below.refl _ _
theorem Grown.alloc {a w : World} (h : Grown a w) (c : Array Value) (t : TypeId) : Grown a (w.alloc (.cells c t)) := Below.alloc h h.size _
theorem ret_u64 {a b : Int} (h : a = b) : Ending.returned (.int .u64 a) = .returned (.int .u64 b) := by rw [h]

set_option maxHeartbeats 400000 in
theorem start_any (n : Int) (h : BitVec 64) (w : World) (hn : n = (h.toNat : Int)) :
    Calls Tryd.prog 45 #[.int .u64 n] w fun e w' => e = .returned (.int .u64 (startB h).toNat) ∧ w = w' := by
  subst hn
  have hh := h.isLt
  go_enter Tryd.func45, Tryd.ntmps45
  go_wp2
  go_ret
  exact ⟨ret_u64 (first_val h), rfl⟩
set_option maxHeartbeats 400000 in
theorem startR_any (n : Int) (h : BitVec 64) (w : World) (hn : n = (h.toNat : Int)) :
    Calls Tryd.prog 47 #[.int .u64 n] w fun e w' => e = .returned (.int .u64 (startB h).toNat) ∧ w = w' := by
  subst hn
  have hh := h.isLt
  go_enter Tryd.func47, Tryd.ntmps47
  go_wp2
  go_ret
  exact ⟨ret_u64 (first_val h), rfl⟩
set_option maxHeartbeats 400000 in
theorem add_any (h : BitVec 64) (s : ByteArray) (w : World) (hs : s.size ≤ maxLen) :
    Calls Tryd.prog 44 #[.int .u64 h.toNat, .string s] w fun e w' => e = .returned (.int .u64 (addB h s.data.toList).toNat) ∧ w = w' := by
  unfold maxLen at hs
  go_enter Tryd.func44, Tryd.ntmps44
  go_wp2
  go_loop [0, 5, 8] (fun g j i => ∃ k : Nat, k ≤ s.size ∧ i = .int .i64 k ∧ g = .int .u64 (addB h (s.data.toList.take k)).toNat) (fun _ _ i => s.size - (intOf i).toNat)
  case atStart => exact ⟨0, Nat.zero_le _, rfl, rfl⟩
  case round =>
    obtain ⟨k, hk, rfl, rfl⟩ := hrel
    generalize hx : addB h (s.data.toList.take k) = x
    have Hx := Lib.hid hx
    clear hx
    have hh := x.isLt
    by_cases hlt : k < s.size
    · go_wp2
      go_round
      case rel =>
        refine ⟨k + 1, by omega, by go_num, ?_⟩
        rw [take_snoc s k hlt, addB_snoc, Hx.out]
        simp only [byte_val, xor_val, shl13_val, shr7_val, shl17_val, add_val]
        rfl
      case measure => simp [intOf]; omega
    · go_wp2
      go_ret
      rw [List.take_of_length_le (by simp; omega)] at Hx
      rw [Hx.out]
      exact ⟨rfl, rfl⟩
set_option maxHeartbeats 400000 in
theorem addR_any (h : BitVec 64) (s : ByteArray) (w : World) (hs : s.size ≤ maxLen) :
    Calls Tryd.prog 46 #[.int .u64 h.toNat, .string s] w fun e w' => e = .returned (.int .u64 (addB h s.data.toList).toNat) ∧ w = w' := by
  unfold maxLen at hs
  go_enter Tryd.func46, Tryd.ntmps46
  go_wp2
  go_loop [0, 5] (fun g i => ∃ k : Nat, k ≤ s.size ∧ i = .int .i64 k ∧ g = .int .u64 (addB h (s.data.toList.take k)).toNat) (fun _ i => s.size - (intOf i).toNat)
  case atStart => exact ⟨0, Nat.zero_le _, rfl, rfl⟩
  case round =>
    obtain ⟨k, hk, rfl, rfl⟩ := hrel
    generalize hx : addB h (s.data.toList.take k) = x
    have Hx := Lib.hid hx
    clear hx
    have hh := x.isLt
    by_cases hlt : k < s.size
    · go_wp2
      go_round
      case rel =>
        refine ⟨k + 1, by omega, by go_num, ?_⟩
        rw [take_snoc s k hlt, addB_snoc, Hx.out]
        simp only [byte_val, xor_val, shl13_val, div7_val, shl17_val, add_val]
        rfl
      case measure => simp [intOf]; omega
    · go_wp2
      go_ret
      rw [List.take_of_length_le (by simp; omega)] at Hx
      rw [Hx.out]
      exact ⟨rfl, rfl⟩

set_option maxHeartbeats 400000 in
theorem of_any (s : ByteArray) (w : World) (hs : s.size ≤ maxLen) :
    Calls Tryd.prog 23 #[.string s] w fun e w' => e = .returned (.int .u64 (ofB s.data.toList).toNat) ∧ w = w' := by
  have hl := len_val s hs
  have Hl := Lib.hid hl
  clear hl
  have hs' := hs
  unfold maxLen at hs'
  have Hs := Lib.hid hs
  clear hs
  go_enter Tryd.func23, Tryd.ntmps23
  go_wp2_with fail
  refine (start_any _ _ _ Hl.out).mono ?_
  rintro e w' ⟨rfl, rfl⟩
  go_wp2_with fail
  refine (add_any _ _ _ Hs.out).mono ?_
  rintro e w' ⟨rfl, rfl⟩
  go_wp2_with fail
  go_ret
  exact ⟨rfl, rfl⟩
set_option maxHeartbeats 400000 in
theorem ofR_any (s : ByteArray) (w : World) (hs : s.size ≤ maxLen) :
    Calls Tryd.prog 26 #[.string s] w fun e w' => e = .returned (.int .u64 (ofB s.data.toList).toNat) ∧ w = w' := by
  have hl := len_val s hs
  have Hl := Lib.hid hl
  clear hl
  have hs' := hs
  unfold maxLen at hs'
  have Hs := Lib.hid hs
  clear hs
  go_enter Tryd.func26, Tryd.ntmps26
  go_wp2_with fail
  refine (startR_any _ _ _ Hl.out).mono ?_
  rintro e w' ⟨rfl, rfl⟩
  go_wp2_with fail
  refine (addR_any _ _ _ Hs.out).mono ?_
  rintro e w' ⟨rfl, rfl⟩
  go_wp2_with fail
  go_ret
  exact ⟨rfl, rfl⟩
end Go.Proofs.YtnipiphhkcafhaaDoor.Mix
