/- The contract of ContainsRune at the four signs and a byte. No condition. -/
import Derived.Test.YtdgcpgbknfojhaaDoorRcRdr
import Derived.Deep.QuietTactic
import Derived.BigQuiet
import Derived.WalkMore

namespace Go.Proofs.YtdgcpgbknfojhaaDoor
set_option linter.unusedVariables false
open Go.ChangeShapes Go.WideShapes Go.ChangeAt Go.RowKit
def sgn : ByteArray := ⟨#[40, 41, 43, 61]⟩
theorem enc_high (c : UInt8) (h : 128 ≤ c.toNat) : ∃ b1 b2 : UInt8, Utf8.encode (c.toNat : Int) = tx [b1, b2] ∧ 128 ≤ b2.toNat := by
  have hv : Utf8.valid (c.toNat : Int) = true := by
    have := c.toNat_lt
    unfold Utf8.valid
    simp
    omega
  have hlt := c.toNat_lt
  refine ⟨UInt8.ofNat (0xC0 + c.toNat / 64), UInt8.ofNat (0x80 + c.toNat % 64), ?_, ?_⟩
  · unfold Utf8.encode
    simp only [hv, if_true, Int.toNat_natCast]
    rw [if_neg (by omega), if_pos (by omega)]
    rfl
  · rw [UInt8.toNat_ofNat']
    omega
theorem ixb_none (l : List UInt8) (c : UInt8) (h : c ∉ l) : Lib.indexByte l c = -1 := by
  induction l with
  | nil => rfl
  | cons b r ih =>
    rw [List.mem_cons, not_or] at h
    rw [Lib.indexByte, if_neg (by simpa using fun e => h.1 e.symm), ih h.2]
    rfl
set_option maxHeartbeats 4000000 in
set_option maxRecDepth 20000 in
theorem irune_high (c : UInt8) (h : 128 ≤ c.toNat) (w : World) : Calls Tryd.prog 69 #[.string sgn, .int .i32 (c.toNat : Int)] w fun e w' => e = .returned (.int .i64 (-1)) ∧ Chg NoB w w' := by
  obtain ⟨b1, b2, he, hb⟩ := enc_high c h
  have hz : (tx [b1, b2]).size = 2 := tx_size _
  have hzs : sgn.size = 4 := rfl
  have hlt := c.toNat_lt
  have k1 : ¬ ((c.toNat : Int) < 128) := by omega
  have k0 : decide ((0 : Int) ≤ (c.toNat : Int)) = true := decide_eq_true (by omega)
  have k2 : ((c.toNat : Int) == 65533) = false := by rw [beq_eq_false_iff_ne]; omega
  have HV := Lib.hid (Tryd.utf8_ValidRune (c.toNat : Int) w)
  have hv : Lib.validRune (c.toNat : Int) = true := by unfold Lib.validRune; simp; omega
  rw [hv] at HV
  have hget : (tx [b1, b2])[1]'(by rw [hz]; decide) = b2 := rfl
  have hs1 : sgn[1]'(by rw [hzs]; decide) = 41 := rfl
  have hcut : sgn.extract 2 4 = (⟨#[43, 61]⟩ : ByteArray) := by kernel_rfl
  have IX := Lib.hid (fun w => show Calls Tryd.prog 83 #[.string ⟨#[43, 61]⟩, .int .u8 (b2.toNat : Int)] w fun e w' => e = .returned (.int .i64 (-1)) ∧ w' = w from by
    have h1 := Tryd.strings_IndexByte ⟨#[43, 61]⟩ (b2.toNat : Int) w
    have h2 : Lib.indexByte (⟨#[43, 61]⟩ : ByteArray).data.toList ((b2.toNat : Int).toNat.toUInt8) = -1 := by
      rw [Int.toNat_natCast, show b2.toNat.toUInt8 = b2 from UInt8.ofNat_toNat]
      refine ixb_none _ _ ?_
      intro hm
      simp at hm
      rcases hm with rfl | rfl <;> exact absurd hb (by decide)
    rw [h2] at h1
    exact h1)
  have hne : ((41 : Int) != (b2.toNat : Int)) = true := by rw [bne_iff_ne]; omega
  clear hv hb h
  go_enter Tryd.func69, Tryd.ntmps69
  go_wp2_with fail
  refine HV.out.mono ?_
  rintro e w2 ⟨rfl, rfl⟩
  go_wp2_with fail
  go_step3
  go_wp2_with fail
  go_loopw [9] (fun v wr => v = .int .i64 1 ∧ w2 = wr) (fun _ _ => 0)
  case atStart => exact ⟨rfl, rfl⟩
  case round =>
    obtain ⟨rfl, rfl⟩ := hrel
    go_wp2_with fail
    go_step3
    go_wp2_with fail
    go_quiet (fail)
    have HcA := Lib.hid ((Chg.refl NoB w2).drewN nq)
    generalize w2.drewN nq = w3 at *
    go_wp2_with fail
    go_quiet ((go_at_call 83; exact Calls.quiet_of_same (IX.out _)))
    have HcB := Lib.hid (HcA.out.drewN nq)
    generalize w3.drewN nq = w4 at *
    go_wp2_with fail
    rw [Exit.noGoto_ret]
    go_wp2_with fail
    rw [Exit.noGoto_ret]
    go_wp2_with fail
    go_ret
    exact ⟨rfl, HcB.out⟩
theorem sgn_low (c : UInt8) (h : c.toNat < 128) : decide (0 ≤ Lib.indexByte sgn.data.toList ((c.toNat : Int).toNat.toUInt8)) = signC c := by
  rw [Int.toNat_natCast, show c.toNat.toUInt8 = c from UInt8.ofNat_toNat]
  show decide (0 ≤ Lib.indexByte [40, 41, 43, 61] c) = signC c
  unfold signC
  by_cases h1 : c = 40
  · subst h1; decide
  · by_cases h2 : c = 41
    · subst h2; decide
    · by_cases h3 : c = 43
      · subst h3; decide
      · by_cases h4 : c = 61
        · subst h4; decide
        · rw [ixb_none _ _ (by simp [h1, h2, h3, h4])]
          have g1 : ¬ c.toNat = 40 := fun e => h1 (UInt8.toNat_inj.1 e)
          have g2 : ¬ c.toNat = 41 := fun e => h2 (UInt8.toNat_inj.1 e)
          have g3 : ¬ c.toNat = 43 := fun e => h3 (UInt8.toNat_inj.1 e)
          have g4 : ¬ c.toNat = 61 := fun e => h4 (UInt8.toNat_inj.1 e)
          simp [g1, g2, g3, g4]
set_option maxHeartbeats 1000000 in
theorem signs_any (c : UInt8) (w : World) : Calls Tryd.prog 50 #[.string sgn, .int .i32 (c.toNat : Int)] w (SayV (.bool (signC c)) w) := by
  by_cases h : c.toNat < 128
  · refine (Tryd.strings_ContainsRune_ascii sgn (c.toNat : Int) w (by omega) (by omega)).mono ?_
    rintro e w' ⟨rfl, rfl⟩
    exact ⟨by rw [sgn_low c h], Chg.refl _ _⟩
  · have HI := Lib.hid (irune_high c (by omega) w)
    have Hs := Lib.hid (show signC c = false by
      unfold signC
      rw [decide_eq_false (by omega), decide_eq_false (by omega), decide_eq_false (by omega), decide_eq_false (by omega)]
      rfl)
    clear h
    go_enter Tryd.func50, Tryd.ntmps50
    go_wp2_with fail
    refine HI.out.mono ?_
    rintro e w2 ⟨rfl, hc2⟩
    have Hc2 := Lib.hid hc2
    clear hc2
    go_wp2_with fail
    go_ret
    exact ⟨by rw [Hs.out]; rfl, Hc2.out⟩
end Go.Proofs.YtdgcpgbknfojhaaDoor
