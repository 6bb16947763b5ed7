/- The contract of the document's split: a line's word and what stands behind its first blank. No condition but the length. -/
import Derived.Test.YtaihgciokfkonaaDoorAmFeeds
import Derived.Test.YtaihgciokfkonaaDoorAmMath
import Derived.Deep.QuietTactic
import Derived.BigQuiet

namespace Go.Proofs.YtaihgciokfkonaaDoor
set_option linter.unusedVariables false
open Go.ChangeShapes Go.WideShapes Go.ChangeAt Go.RowKit
def SplP (r : List UInt8 × List UInt8 × Bool) (w : World) (e : Ending) (w' : World) : Prop := e = .returned (.tuple #[.string (tx r.1), .string (tx r.2.1), .bool r.2.2]) ∧ Chg NoB w w'
theorem cutFromN (t : List UInt8) (k n : Nat) (hn : n = t.length) : (tx t).extract k n = tx (t.drop k) := by
  rw [cutAB, hn, List.take_length]
set_option maxHeartbeats 1000000 in
theorem split_any (t : List UInt8) (w : World) (ht : t.length ≤ 1048576) : Calls Tryd.prog 40 #[.string (tx t)] w (SplP (cutW t) w) := by
  have hz : (tx t).size = t.length := tx_size t
  go_enter Tryd.func40, Tryd.ntmps40
  go_wp2_with fail
  go_loopw [5] (fun o wr => ∃ k : Nat, k ≤ t.length ∧ o = .int .i64 k ∧ (32 : UInt8) ∉ t.take k ∧ Chg NoB w wr) (fun o _ => t.length - (intOf o).toNat)
  case atStart => exact ⟨0, Nat.zero_le _, rfl, by simp, Chg.refl _ _⟩
  case round =>
    obtain ⟨k, hk, rfl, hnk, hc⟩ := hrel
    have Hc := Lib.hid hc
    clear hc
    by_cases hlt : k < t.length
    · have hkk : k < (tx t).size := by omega
      obtain ⟨b, hb⟩ : ∃ b, (tx t)[k] = b := ⟨_, rfl⟩
      have htk : t.take (k + 1) = t.take k ++ [b] := by rw [← hb]; exact take_at hlt
      by_cases hb0 : b = 32
      · have hbb : ((b.toNat : Int) == 32) = true := by rw [hb0]; rfl
        have Hcut := Lib.hid (show cutW t = (t.take k, t.drop (k + 1), true) by
          have : cutC 32 t = some (t.take k, t.drop (k + 1)) := cutC_some.2 ⟨by
            have h1 := List.take_append_drop (k + 1) t
            rw [htk, hb0, List.append_assoc, List.singleton_append] at h1
            exact h1.symm, hnk⟩
          unfold cutW
          rw [this])
        have q1 : (tx t).extract 0 k = tx (t.take k) := by rw [cutAB, List.drop_zero]
        have q2 : (tx t).extract (k + 1) t.length = tx (t.drop (k + 1)) := cutFromN t (k + 1) _ rfl
        have q3 : (k : Int) + 1 ≤ (t.length : Int) := by omega
        clear hb0 htk hnk
        go_wp2_with fail
        go_quiet (fail)
        have HW := Lib.hid (Hc.out.drewN nq)
        generalize wr.drewN nq = w2 at *
        go_wp2_with fail
        go_ret3
        exact ⟨by rw [Hcut.out]; rfl, HW.out⟩
      · have hbb : ((b.toNat : Int) == 32) = false := by
          rw [beq_eq_false_iff_ne]; intro e; apply hb0; exact UInt8.toNat_inj.1 (by have : (32 : UInt8).toNat = 32 := rfl; omega)
        have Hnk := Lib.hid (show (32 : UInt8) ∉ t.take (k + 1) by rw [htk]; simp only [List.mem_append, List.mem_singleton, not_or]; exact ⟨hnk, fun e => hb0 e.symm⟩)
        clear hb0 htk hnk
        go_wp2_with fail
        go_roundw
        case rel => exact ⟨k + 1, by omega, by go_num, Hnk.out, Hc.out⟩
        case measure => simp [intOf]; omega
    · obtain rfl : k = t.length := by omega
      rw [List.take_length] at hnk
      have Hcut := Lib.hid (show cutW t = (t, [], false) by
        unfold cutW
        rw [cutC_none.2 hnk])
      clear hnk
      go_wp2_with fail
      go_ret3
      exact ⟨by rw [Hcut.out]; rfl, Hc.out⟩
end Go.Proofs.YtaihgciokfkonaaDoor
