/- The contract of the document's hex; what a step of its text does, in lists. No condition. -/
import Derived.Test.YtdgcpgbknfojhaaDoorRcRName

namespace Go.Proofs.YtdgcpgbknfojhaaDoor
set_option linter.unusedVariables false
open Go.ChangeShapes Go.WideShapes Go.ChangeAt Go.RowKit
def hexN (c : UInt8) : Nat := (hexC c).getD 16
set_option maxHeartbeats 1000000 in
theorem rhex_any (c : UInt8) (w : World) : Calls Tryd.prog 64 #[.int .u8 (c.toNat : Int)] w (SayAt (.int .i64 (hexN c : Int)) w) := by
  have hd : hexC c = if 48 ≤ c.toNat ∧ c.toNat ≤ 57 then some (c.toNat - 48) else if 97 ≤ c.toNat ∧ c.toNat ≤ 102 then some (c.toNat - 87) else none := rfl
  have hlt := c.toNat_lt
  by_cases h1 : 48 ≤ c.toNat
  · have g1 : decide ((48 : Int) ≤ (c.toNat : Int)) = true := decide_eq_true (by omega)
    by_cases h2 : c.toNat ≤ 57
    · have g2 : decide ((c.toNat : Int) ≤ 57) = true := decide_eq_true (by omega)
      have Hw := Lib.hid (show (hexN c : Int) = (c.toNat : Int) - 48 by unfold hexN; rw [hd, if_pos ⟨h1, h2⟩]; simp only [Option.getD_some]; omega)
      have q1 : IntKind.u8.wrap ((c.toNat : Int) - 48) = (c.toNat : Int) - 48 := by unfold IntKind.wrap; simp [IntKind.bits, IntKind.signed]; omega
      have q2 : wrap64 ((c.toNat : Int) - 48) = (c.toNat : Int) - 48 := by unfold wrap64; omega
      clear hd h1 h2
      go_enter Tryd.func64, Tryd.ntmps64
      go_wp2_with fail
      go_ret
      exact ⟨by rw [Hw.out]; rfl, rfl⟩
    · have g2 : decide ((c.toNat : Int) ≤ 57) = false := decide_eq_false (by omega)
      by_cases h3 : 97 ≤ c.toNat
      · have g3 : decide ((97 : Int) ≤ (c.toNat : Int)) = true := decide_eq_true (by omega)
        by_cases h4 : c.toNat ≤ 102
        · have g4 : decide ((c.toNat : Int) ≤ 102) = true := decide_eq_true (by omega)
          have Hw := Lib.hid (show (hexN c : Int) = (c.toNat : Int) - 97 + 10 by unfold hexN; rw [hd, if_neg (by omega), if_pos ⟨h3, h4⟩]; simp only [Option.getD_some]; omega)
          have q1 : IntKind.u8.wrap ((c.toNat : Int) - 97) = (c.toNat : Int) - 97 := by unfold IntKind.wrap; simp [IntKind.bits, IntKind.signed]; omega
          have q2 : wrap64 ((c.toNat : Int) - 97) = (c.toNat : Int) - 97 := by unfold wrap64; omega
          have q3 : IntKind.i64.wrap ((c.toNat : Int) - 97 + 10) = (c.toNat : Int) - 97 + 10 := by rw [IntKind.wrap_i64]; omega
          clear hd h1 h2 h3 h4
          go_enter Tryd.func64, Tryd.ntmps64
          go_wp2_with fail
          go_ret
          exact ⟨by rw [Hw.out]; rfl, rfl⟩
        · have g4 : decide ((c.toNat : Int) ≤ 102) = false := decide_eq_false (by omega)
          have Hw := Lib.hid (show (hexN c : Int) = 16 by unfold hexN; rw [hd, if_neg (by omega), if_neg (by omega)]; rfl)
          clear hd h1 h2 h3 h4
          go_enter Tryd.func64, Tryd.ntmps64
          go_wp2_with fail
          go_ret
          exact ⟨by rw [Hw.out]; rfl, rfl⟩
      · have g3 : decide ((97 : Int) ≤ (c.toNat : Int)) = false := decide_eq_false (by omega)
        have Hw := Lib.hid (show (hexN c : Int) = 16 by unfold hexN; rw [hd, if_neg (by omega), if_neg (by omega)]; rfl)
        clear hd h1 h2 h3
        go_enter Tryd.func64, Tryd.ntmps64
        go_wp2_with fail
        go_ret
        exact ⟨by rw [Hw.out]; rfl, rfl⟩
  · have g1 : decide ((48 : Int) ≤ (c.toNat : Int)) = false := decide_eq_false (by omega)
    have g3 : decide ((97 : Int) ≤ (c.toNat : Int)) = false := decide_eq_false (by omega)
    have Hw := Lib.hid (show (hexN c : Int) = 16 by unfold hexN; rw [hd, if_neg (by omega), if_neg (by omega)]; rfl)
    clear hd h1
    go_enter Tryd.func64, Tryd.ntmps64
    go_wp2_with fail
    go_ret
    exact ⟨by rw [Hw.out]; rfl, rfl⟩
end Go.Proofs.YtdgcpgbknfojhaaDoor
