/- The contracts of behind, and of the search for the first digit. No condition. -/
import Derived.Test.YtaijhebjjbcdfaaGreatDoorSpGood
import Derived.Test.YtaijhebjjbcdfaaGreatDoorVerWalkA
import Derived.Test.YtaijhebjjbcdfaaGreatDoorShelf

namespace Go.Proofs.YtaijhebjjbcdfaaGreatDoor
set_option linter.unusedVariables false
open Go.ChangeShapes Go.WideShapes Go.ChangeAt Go.RowKit Go.Lib
theorem num_bound (a b c : Int) : -1 ≤ Ver.numI a b c ∧ Ver.numI a b c ≤ 999999999 := by
  unfold Ver.numI
  split
  · rename_i h
    unfold Ver.goodB at h
    simp at h
    omega
  · omega
theorem behind_any (a b c : Int) (w : World) : Calls Tryz.prog 65 #[.agg #[.int .i64 a, .int .i64 b, .int .i64 c]] w fun e w' => e = .returned (.int .i64 (Ver.numI a b c + 1)) ∧ Chg NoB w w' := by
  have hal_ := (Chg.refl NoB w).alloc (.cells #[.int .i64 a, .int .i64 b, .int .i64 c] 31)
  have hb_ := heap_alloc_new w (.cells #[.int .i64 a, .int .i64 b, .int .i64 c] 31)
  obtain ⟨vb, hxb_⟩ : ∃ b, b = w.heap.size := ⟨_, rfl⟩
  obtain ⟨w1, hw_⟩ : ∃ w_, w.alloc (.cells #[.int .i64 a, .int .i64 b, .int .i64 c] 31) = w_ := ⟨_, rfl⟩
  have hz_ : w1.heap.size = vb + 1 := by rw [← hw_, hxb_]; exact alloc_size _ _
  rw [hw_] at hal_ hb_
  rw [← hxb_] at hb_
  have Hw1 := Lib.hid hw_
  have Hx1 := Lib.hid hxb_
  have Ha1 := Lib.hid hal_
  have Hb1 := Lib.hid hb_
  have Hz1 := Lib.hid hz_
  clear hal_ hb_ hxb_ hw_ hz_
  have HN := Lib.hid (Ver.number_any a b c w1)
  obtain ⟨b1, b2⟩ := num_bound a b c
  generalize Ver.numI a b c = n at *
  obtain ⟨d0, d1, d2⟩ := var3 Hb1.out
  go_enter Tryz.func65, Tryz.ntmps65
  go_upto_region 1 with fail
  rw [Hw1.out, ← Hx1.out]
  go_wp2_with fail
  refine HN.out.mono ?_
  rintro e w2 ⟨rfl, hb2⟩
  have Hc2 := Lib.hid (Ha1.out.trans (chg_of_below hb2))
  clear HN hb2 d0 d1 d2
  go_wp2_with fail
  go_ret
  exact ⟨rfl, Hc2.out⟩
theorem digit_any (r : Int) (w : World) : Calls Tryz.prog 63 #[.int .i32 r] w fun e w' => e = .returned (.bool (decide (48 ≤ r ∧ r ≤ 57))) ∧ w' = w := by
  by_cases e1 : 48 ≤ r
  · have f2 := decide_eq_true e1
    by_cases e2 : r ≤ 57
    · have f3 := decide_eq_true e2
      rw [decide_eq_true (show 48 ≤ r ∧ r ≤ 57 from ⟨e1, e2⟩)]
      go_enter Tryz.func63, Tryz.ntmps63
      go_wp2_with fail
      go_ret
      exact ⟨rfl, rfl⟩
    · have f3 := decide_eq_false e2
      rw [decide_eq_false (show ¬ (48 ≤ r ∧ r ≤ 57) from fun h => e2 h.2)]
      go_enter Tryz.func63, Tryz.ntmps63
      go_wp2_with fail
      go_ret
      exact ⟨rfl, rfl⟩
  · have f2 := decide_eq_false e1
    rw [decide_eq_false (show ¬ (48 ≤ r ∧ r ≤ 57) from fun h => e1 h.1)]
    go_enter Tryz.func63, Tryz.ntmps63
    go_wp2_with fail
    go_ret
    exact ⟨rfl, rfl⟩
def digitR (r : Nat) : Bool := decide (48 ≤ (r : Int) ∧ (r : Int) ≤ 57)
theorem digit_rune (w : World) : PredAt Tryz.prog 63 #[] encR digitR w := fun W r _ => by
  unfold FnGives
  refine (show Calls Tryz.prog 63 #[.int .i32 r] W _ from digit_any r W).mono ?_
  rintro e w' ⟨rfl, rfl⟩
  exact ⟨rfl, 0, rfl⟩
theorem first_any (s : ByteArray) (w : World) : Calls Tryz.prog 62 #[.string s, .func (.func 63) #[] #[]] w fun e w' => e = .returned (.int .i64 (Lib.idxFunc digitR true s)) ∧ Chg NoB w w' := by
  refine (Tryz.strings_IndexFunc 63 #[] (enters_of Tryz.func63 (by kernel_rfl) rfl) digitR s w (digit_rune w)).mono ?_
  rintro e w' ⟨rfl, hb⟩
  exact ⟨rfl, chg_of_below hb⟩
end Go.Proofs.YtaijhebjjbcdfaaGreatDoor
