/- The contract of Text, of the program and of the document. No condition. -/
import Derived.Test.YtnipiphhkcafhaaDoorMixWalkB
namespace Go.Proofs.YtnipiphhkcafhaaDoor.Mix
set_option linter.unusedVariables false
open Go.ChangeShapes Go.WideShapes Go.ChangeAt Go.RowKit

/- the letter at place j, behind k rounds -/
def cb (h k j : Nat) : UInt8 := if 12 - j < k then letter (dig h (12 - j)) else 0
def textL (h : Nat) : List UInt8 := [cb h 13 0, cb h 13 1, cb h 13 2, cb h 13 3, cb h 13 4, cb h 13 5, cb h 13 6, cb h 13 7, cb h 13 8, cb h 13 9, cb h 13 10, cb h 13 11, cb h 13 12]
theorem letters_data (n : Nat) (h : n < 32) (g : n < (ByteArray.mk #[97, 98, 99, 100, 101, 102, 103, 104, 105, 106, 107, 108, 109, 110, 111, 112, 113, 114, 115, 116, 117, 118, 119, 120, 121, 122, 50, 51, 52, 53, 54, 55]).size) : (ByteArray.mk #[97, 98, 99, 100, 101, 102, 103, 104, 105, 106, 107, 108, 109, 110, 111, 112, 113, 114, 115, 116, 117, 118, 119, 120, 121, 122, 50, 51, 52, 53, 54, 55])[n]'g = letter n := by
  unfold letter lettersL
  rw [List.getD_eq_getElem?_getD, List.getElem?_eq_getElem (by simpa using h)]
  rfl
theorem cellsBack (h : BitVec 64) (w : World) :
    (convert 65 9 (.slice (some ⟨w.heap.size, 0, none⟩) 13 13)).run Tryd.prog (w.alloc (.cells #[.int .u8 ((cb h.toNat 13 0).toNat : Int), .int .u8 ((cb h.toNat 13 1).toNat : Int), .int .u8 ((cb h.toNat 13 2).toNat : Int), .int .u8 ((cb h.toNat 13 3).toNat : Int), .int .u8 ((cb h.toNat 13 4).toNat : Int), .int .u8 ((cb h.toNat 13 5).toNat : Int), .int .u8 ((cb h.toNat 13 6).toNat : Int), .int .u8 ((cb h.toNat 13 7).toNat : Int), .int .u8 ((cb h.toNat 13 8).toNat : Int), .int .u8 ((cb h.toNat 13 9).toNat : Int), .int .u8 ((cb h.toNat 13 10).toNat : Int), .int .u8 ((cb h.toNat 13 11).toNat : Int), .int .u8 ((cb h.toNat 13 12).toNat : Int)] 71)) = .ok (.string ⟨(textL h.toNat).toArray⟩) (w.alloc (.cells #[.int .u8 ((cb h.toNat 13 0).toNat : Int), .int .u8 ((cb h.toNat 13 1).toNat : Int), .int .u8 ((cb h.toNat 13 2).toNat : Int), .int .u8 ((cb h.toNat 13 3).toNat : Int), .int .u8 ((cb h.toNat 13 4).toNat : Int), .int .u8 ((cb h.toNat 13 5).toNat : Int), .int .u8 ((cb h.toNat 13 6).toNat : Int), .int .u8 ((cb h.toNat 13 7).toNat : Int), .int .u8 ((cb h.toNat 13 8).toNat : Int), .int .u8 ((cb h.toNat 13 9).toNat : Int), .int .u8 ((cb h.toNat 13 10).toNat : Int), .int .u8 ((cb h.toNat 13 11).toNat : Int), .int .u8 ((cb h.toNat 13 12).toNat : Int)] 71)) := by
  refine run_convert_bytes_back (P := Tryd.prog) _ 65 9 5 ⟨w.heap.size, 0, none⟩ 13 (textL h.toNat) Tryd.underlying65 Tryd.underlying5 Tryd.underlying9 ?_
  intro j hj
  have hj' : j < 13 := hj
  obtain rfl | rfl | rfl | rfl | rfl | rfl | rfl | rfl | rfl | rfl | rfl | rfl | rfl : j = 0 ∨ j = 1 ∨ j = 2 ∨ j = 3 ∨ j = 4 ∨ j = 5 ∨ j = 6 ∨ j = 7 ∨ j = 8 ∨ j = 9 ∨ j = 10 ∨ j = 11 ∨ j = 12 := by omega
  all_goals simp [Addr.add, textL, go_sem]
set_option maxHeartbeats 1000000 in
theorem text_any (h : BitVec 64) (w : World) :
    Calls Tryd.prog 21 #[.int .u64 h.toNat] w fun e w' => e = .returned (.string ⟨(textL h.toNat).toArray⟩) ∧ Grown w w' := by
  have hh := h.isLt
  go_enter Tryd.func21, Tryd.ntmps21
  go_wp2
  go_loopw [4, 5] (fun j i wr => ∃ k : Nat, k ≤ 13 ∧ i = .int .i64 k ∧ wr = w.alloc (.cells #[.int .u8 ((cb h.toNat k 0).toNat : Int), .int .u8 ((cb h.toNat k 1).toNat : Int), .int .u8 ((cb h.toNat k 2).toNat : Int), .int .u8 ((cb h.toNat k 3).toNat : Int), .int .u8 ((cb h.toNat k 4).toNat : Int), .int .u8 ((cb h.toNat k 5).toNat : Int), .int .u8 ((cb h.toNat k 6).toNat : Int), .int .u8 ((cb h.toNat k 7).toNat : Int), .int .u8 ((cb h.toNat k 8).toNat : Int), .int .u8 ((cb h.toNat k 9).toNat : Int), .int .u8 ((cb h.toNat k 10).toNat : Int), .int .u8 ((cb h.toNat k 11).toNat : Int), .int .u8 ((cb h.toNat k 12).toNat : Int)] 71)) (fun _ i _ => 13 - (intOf i).toNat)
  case atStart => exact ⟨0, by omega, rfl, rfl⟩
  case round =>
    obtain ⟨k, hk, rfl, rfl⟩ := hrel
    by_cases hk13 : k = 13
    · subst hk13
      have hb := cellsBack h w
      go_wp2
      go_ret
      exact ⟨rfl, (Grown.refl _).alloc _ _⟩
    obtain rfl | rfl | rfl | rfl | rfl | rfl | rfl | rfl | rfl | rfl | rfl | rfl | rfl : k = 0 ∨ k = 1 ∨ k = 2 ∨ k = 3 ∨ k = 4 ∨ k = 5 ∨ k = 6 ∨ k = 7 ∨ k = 8 ∨ k = 9 ∨ k = 10 ∨ k = 11 ∨ k = 12 := by omega
    · have hd : bits .and .u64 (↑h.toNat : Int) 31 = ↑(dig h.toNat 0) := by have := dig_mask h.toNat 0 hh; simpa using this
      have hd' := dig_lt h.toNat 0
      go_wp2
      go_roundw
      case rel =>
        refine ⟨1, by omega, rfl, ?_⟩
        rw [letters_data _ hd']
        rfl
      case measure => simp [intOf]
    · have hd : bits .and .u64 (↑h.toNat / 32) 31 = ↑(dig h.toNat 1) := dig_mask h.toNat 1 hh
      have hd' := dig_lt h.toNat 1
      go_wp2
      go_roundw
      case rel =>
        refine ⟨2, by omega, rfl, ?_⟩
        rw [letters_data _ hd']
        rfl
      case measure => simp [intOf]
    · have hd : bits .and .u64 (↑h.toNat / 1024) 31 = ↑(dig h.toNat 2) := dig_mask h.toNat 2 hh
      have hd' := dig_lt h.toNat 2
      go_wp2
      go_roundw
      case rel =>
        refine ⟨3, by omega, rfl, ?_⟩
        rw [letters_data _ hd']
        rfl
      case measure => simp [intOf]
    · have hd : bits .and .u64 (↑h.toNat / 32768) 31 = ↑(dig h.toNat 3) := dig_mask h.toNat 3 hh
      have hd' := dig_lt h.toNat 3
      go_wp2
      go_roundw
      case rel =>
        refine ⟨4, by omega, rfl, ?_⟩
        rw [letters_data _ hd']
        rfl
      case measure => simp [intOf]
    · have hd : bits .and .u64 (↑h.toNat / 1048576) 31 = ↑(dig h.toNat 4) := dig_mask h.toNat 4 hh
      have hd' := dig_lt h.toNat 4
      go_wp2
      go_roundw
      case rel =>
        refine ⟨5, by omega, rfl, ?_⟩
        rw [letters_data _ hd']
        rfl
      case measure => simp [intOf]
    · have hd : bits .and .u64 (↑h.toNat / 33554432) 31 = ↑(dig h.toNat 5) := dig_mask h.toNat 5 hh
      have hd' := dig_lt h.toNat 5
      go_wp2
      go_roundw
      case rel =>
        refine ⟨6, by omega, rfl, ?_⟩
        rw [letters_data _ hd']
        rfl
      case measure => simp [intOf]
    · have hd : bits .and .u64 (↑h.toNat / 1073741824) 31 = ↑(dig h.toNat 6) := dig_mask h.toNat 6 hh
      have hd' := dig_lt h.toNat 6
      go_wp2
      go_roundw
      case rel =>
        refine ⟨7, by omega, rfl, ?_⟩
        rw [letters_data _ hd']
        rfl
      case measure => simp [intOf]
    · have hd : bits .and .u64 (↑h.toNat / 34359738368) 31 = ↑(dig h.toNat 7) := dig_mask h.toNat 7 hh
      have hd' := dig_lt h.toNat 7
      go_wp2
      go_roundw
      case rel =>
        refine ⟨8, by omega, rfl, ?_⟩
        rw [letters_data _ hd']
        rfl
      case measure => simp [intOf]
    · have hd : bits .and .u64 (↑h.toNat / 1099511627776) 31 = ↑(dig h.toNat 8) := dig_mask h.toNat 8 hh
      have hd' := dig_lt h.toNat 8
      go_wp2
      go_roundw
      case rel =>
        refine ⟨9, by omega, rfl, ?_⟩
        rw [letters_data _ hd']
        rfl
      case measure => simp [intOf]
    · have hd : bits .and .u64 (↑h.toNat / 35184372088832) 31 = ↑(dig h.toNat 9) := dig_mask h.toNat 9 hh
      have hd' := dig_lt h.toNat 9
      go_wp2
      go_roundw
      case rel =>
        refine ⟨10, by omega, rfl, ?_⟩
        rw [letters_data _ hd']
        rfl
      case measure => simp [intOf]
    · have hd : bits .and .u64 (↑h.toNat / 1125899906842624) 31 = ↑(dig h.toNat 10) := dig_mask h.toNat 10 hh
      have hd' := dig_lt h.toNat 10
      go_wp2
      go_roundw
      case rel =>
        refine ⟨11, by omega, rfl, ?_⟩
        rw [letters_data _ hd']
        rfl
      case measure => simp [intOf]
    · have hd : bits .and .u64 (↑h.toNat / 36028797018963968) 31 = ↑(dig h.toNat 11) := dig_mask h.toNat 11 hh
      have hd' := dig_lt h.toNat 11
      go_wp2
      go_roundw
      case rel =>
        refine ⟨12, by omega, rfl, ?_⟩
        rw [letters_data _ hd']
        rfl
      case measure => simp [intOf]
    · have hd : bits .and .u64 (↑h.toNat / 1152921504606846976) 31 = ↑(dig h.toNat 12) := dig_mask h.toNat 12 hh
      have hd' := dig_lt h.toNat 12
      go_wp2
      go_roundw
      case rel =>
        refine ⟨13, by omega, rfl, ?_⟩
        rw [letters_data _ hd']
        rfl
      case measure => simp [intOf]
end Go.Proofs.YtnipiphhkcafhaaDoor.Mix
