/- The contracts of Narrow, of the program and of the document. No condition. -/
import Derived.Test.YtnipiphhkcafhaaDoorMixWalkA
namespace Go.Proofs.YtnipiphhkcafhaaDoor.Mix
set_option linter.unusedVariables false
open Go.ChangeShapes Go.WideShapes Go.ChangeAt Go.RowKit

set_option maxHeartbeats 400000 in
theorem narrow_any (a k : Int) (h : Nat) (w : World) (ha : a = (h : Int)) (hh : h < 2 ^ 64) :
    Calls Tryd.prog 22 #[.int .u64 a, .int .i64 k] w fun e w' => e = .returned (.int .u64 (narrowN h k)) ∧ w = w' := by
  subst ha
  by_cases h1 : k < 1
  · go_enter Tryd.func22, Tryd.ntmps22
    go_wp2
    go_ret
    exact ⟨ret_u64 (by rw [narrow_le _ _ (by omega)]; rfl), rfl⟩
  · by_cases h2 : 63 < k
    · go_enter Tryd.func22, Tryd.ntmps22
      go_wp2
      go_ret
      refine ⟨ret_u64 ?_, rfl⟩
      rw [narrow_ge _ hh _ (by omega)]
    · obtain ⟨n, rfl⟩ := Int.eq_ofNat_of_zero_le (a := k) (by omega)
      go_enter Tryd.func22, Tryd.ntmps22
      go_wp2
      go_ret
      exact ⟨ret_u64 (narrow_mask _ _ hh (by omega) (by omega)), rfl⟩
set_option maxHeartbeats 400000 in
theorem narrowR_any (a k : Int) (h : Nat) (w : World) (ha : a = (h : Int)) (hh : h < 2 ^ 64) :
    Calls Tryd.prog 25 #[.int .u64 a, .int .i64 k] w fun e w' => e = .returned (.int .u64 (narrowN h k)) ∧ w = w' := by
  subst ha
  go_enter Tryd.func25, Tryd.ntmps25
  go_wp2
  go_loop [0, 5, 6, 7] (fun g o b i => ∃ j : Nat, j ≤ 64 ∧ (j : Int) ≤ max k 0 ∧ i = .int .i64 j ∧ g = .int .u64 ((divP h j : Nat) : Int) ∧ o = .int .u64 ((modP h j : Nat) : Int) ∧ b = .int .u64 ((powP j : Nat) : Int)) (fun _ _ _ i => 64 - (intOf i).toNat)
  case atStart => exact ⟨0, by omega, by omega, by rfl, by rw [divP_0], by rw [modP_0]; rfl, by rw [powP_0]; rfl⟩
  case round =>
    obtain ⟨j, hj, hjk, rfl, rfl, rfl, rfl⟩ := hrel
    by_cases hlt : (j : Int) < k
    · by_cases hl2 : j < 64
      · go_wp2
        go_round
        case rel =>
          refine ⟨j + 1, by omega, by omega, by go_num, ?_, ?_, ?_⟩
          · rw [divP_step _ _ hh]
          · rw [modP_step _ _ hh hl2]
          · rw [powP_step]
        case measure => simp [intOf]; omega
      · go_wp2
        go_ret
        exact ⟨ret_u64 (by rw [narrow_mod _ _ _ hj hjk (by omega)]), rfl⟩
    · go_wp2
      go_ret
      exact ⟨ret_u64 (by rw [narrow_mod _ _ _ hj hjk (by omega)]), rfl⟩
end Go.Proofs.YtnipiphhkcafhaaDoor.Mix
