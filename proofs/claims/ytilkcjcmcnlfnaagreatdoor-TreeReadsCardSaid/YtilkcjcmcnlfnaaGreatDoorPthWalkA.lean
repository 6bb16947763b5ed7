/- The contracts of Name, of the program and of the document. Condition: the text is at most 2^16 bytes. -/
import Derived.Test.YtilkcjcmcnlfnaaGreatDoorPthMath
import Derived.Test.YtilkcjcmcnlfnaaGreatDoorShelf
import Derived.Test.YtilkcjcmcnlfnaaGreatDoorRows
import Derived.WalkKit
import Derived.ProofKit
import Derived.OpenShut
import Derived.ShutString
import Derived.OneCell
import Derived.Below
import Derived.Lib.SmallJoins
namespace Go.Proofs.YtilkcjcmcnlfnaaGreatDoor.Pth
set_option linter.unusedVariables false
open Go.ChangeShapes Go.WideShapes Go.ChangeAt Go.RowKit
def Gr (w w' : World) : Prop := Below w.heap.size w w'
theorem Gr.refl (w : World) : Gr w w := Below.refl _ _
theorem Gr.alloc {a w : World} (h : Gr a w) (c : Array Value) (t : TypeId) : Gr a (w.alloc (.cells c t)) := Below.alloc h h.size _
theorem grown_trans {a b c : World} (h : Gr a b) (g : Gr b c) : Gr a c := Below.trans h (Below.mono g h.size)
theorem Gr.keep {w w' : World} (h : Gr w w') {a : Addr} {v : Value} (hv : w.cell? a = some v) : w'.cell? a = some v := by
  rw [← hv]
  exact h.cell (World.block_lt_of_cell? w a hv)
theorem Gr.drew {a w : World} (h : Gr a w) : Gr a w.drew := ⟨h.os, h.tape, h.output, h.size, h.block⟩
def Bo (x : Bool) (w : World) (e : Ending) (w' : World) : Prop := e = .returned (.bool x) ∧ Gr w w'
theorem ret_bool {a b : Bool} (h : a = b) : Ending.returned (.bool a) = .returned (.bool b) := by rw [h]
/- the closure: no byte of a name -/
theorem bad_rune (w : World) : PredAt Tryz.prog 113 #[] encR (fun r => !okR r) w := fun W r _ => by
  unfold FnGives
  rcases (show r < 45 ∨ r = 45 ∨ r = 46 ∨ r = 47 ∨ (48 ≤ r ∧ r ≤ 57) ∨ (58 ≤ r ∧ r < 95) ∨ r = 95 ∨ r = 96 ∨ (97 ≤ r ∧ r ≤ 122) ∨ 122 < r by omega) with h | rfl | rfl | rfl | h | h | rfl | rfl | h | h
  all_goals first
    | (have hk : okR r = true := okR_iff.2 (by omega)
       have Hk := Lib.hid hk
       clear hk
       have t1 : ((r : Int) == 45) = false := by rw [beq_eq_false_iff_ne]; omega
       have t2 : ((r : Int) == 95) = false := by rw [beq_eq_false_iff_ne]; omega
       have t3 : ((r : Int) == 46) = false := by rw [beq_eq_false_iff_ne]; omega
       go_enter Tryz.func113, Tryz.ntmps113
       go_wp2
       go_ret
       exact ⟨ret_bool (by rw [Hk.out]; first | rfl | (simp; omega)), 0, rfl⟩)
    | (have hk : okR r = false := okR_not.2 (by omega)
       have Hk := Lib.hid hk
       clear hk
       have t1 : ((r : Int) == 45) = false := by rw [beq_eq_false_iff_ne]; omega
       have t2 : ((r : Int) == 95) = false := by rw [beq_eq_false_iff_ne]; omega
       have t3 : ((r : Int) == 46) = false := by rw [beq_eq_false_iff_ne]; omega
       go_enter Tryz.func113, Tryz.ntmps113
       go_wp2
       go_ret
       exact ⟨ret_bool (by rw [Hk.out]; first | rfl | (simp; omega)), 0, rfl⟩)
    | (go_enter Tryz.func113, Tryz.ntmps113
       go_wp2
       go_ret
       exact ⟨rfl, 0, rfl⟩)
theorem contains_bad (s : ByteArray) (w : World) :
    Calls Tryz.prog 112 #[.string s, .func (.func 113) #[] #[]] w (Bo (!s.data.toList.all okc) w) := by
  have h := Tryz.strings_ContainsFunc 113 #[] (enters_of Tryz.func113 (by kernel_rfl) rfl) (fun r => !okR r) s w (bad_rune w)
  rw [idx_all] at h
  exact h
theorem list_pos {s : ByteArray} (h : 0 < s.size) : s.data.toList = s[0]'h :: s.data.toList.drop 1 := by
  have hl : 0 < s.data.toList.length := by simpa using h
  have := List.drop_eq_getElem_cons hl
  rw [List.drop_zero] at this
  exact this
theorem nameL_zero {s : ByteArray} (h : s.size = 0) : nameL s.data.toList = false := by
  cases hn : nameL s.data.toList with
  | false => rfl
  | true => have := (nameL_iff.1 hn).1; simp at this; omega
theorem nameL_great {s : ByteArray} (h : 32 < s.size) : nameL s.data.toList = false := by
  cases hn : nameL s.data.toList with
  | false => rfl
  | true => have := (nameL_iff.1 hn).2.1; simp at this; omega
theorem nameL_dot {s : ByteArray} (h : 0 < s.size) (h0 : (s[0]'h).toNat = 46) : nameL s.data.toList = false := by
  cases hn : nameL s.data.toList with
  | false => rfl
  | true =>
    have := (nameL_iff.1 hn).2.2.1
    rw [list_pos h] at this
    have e : s[0]'h = 46 := UInt8.toNat_inj.1 (by rw [h0]; rfl)
    simp [e] at this
theorem nameL_rest {s : ByteArray} (h : 0 < s.size) (h1 : s.size ≤ 32) (h0 : (s[0]'h).toNat ≠ 46) : nameL s.data.toList = s.data.toList.all okc := by
  have hl : s.data.toList.length = s.size := by simp
  have e : (s.data.toList.head? == some 46) = false := by
    rw [list_pos h]
    simp
    intro e
    rw [e] at h0
    exact h0 rfl
  unfold nameL
  rw [e, hl]
  simp [show 1 ≤ s.size by omega, h1]
set_option maxHeartbeats 1000000 in
theorem name_any (s : ByteArray) (w : World) (hs : s.size ≤ 1048576) : Calls Tryz.prog 88 #[.string s] w (Bo (nameL s.data.toList) w) := by
  by_cases h0 : s.size = 0
  · have hr := nameL_zero h0
    have Hr := Lib.hid hr
    have e1 : s.toList = [] := by rw [Lib.toList_data]; exact List.eq_nil_of_length_eq_zero (by simpa using h0)
    clear hr
    go_enter Tryz.func88, Tryz.ntmps88
    go_wp2
    go_ret
    exact ⟨ret_bool Hr.out.symm, Gr.refl _⟩
  · have e1 : (!s.toList.isEmpty) = true := by
      rw [Lib.toList_data]
      cases hd : s.data.toList with
      | nil => exact absurd (by have := congrArg List.length hd; simpa using this) h0
      | cons a b => rfl
    have e2 : s.toList.isEmpty = false := by simpa using e1
    by_cases h32 : 32 < s.size
    · have Hr := Lib.hid (nameL_great h32)
      go_enter Tryz.func88, Tryz.ntmps88
      go_wp2
      go_ret
      exact ⟨ret_bool Hr.out.symm, Gr.refl _⟩
    · have hp : 0 < s.size := by omega
      by_cases hd : (s[0]'hp).toNat = 46
      · have Hr := Lib.hid (nameL_dot hp hd)
        have hd' : (((s[0]'hp).toNat : Int) == 46) = true := by rw [beq_iff_eq]; omega
        clear hd
        go_enter Tryz.func88, Tryz.ntmps88
        go_wp2
        go_ret
        exact ⟨ret_bool Hr.out.symm, Gr.refl _⟩
      · have Hr := Lib.hid (nameL_rest hp (by omega) hd)
        have hd' : (((s[0]'hp).toNat : Int) == 46) = false := by rw [beq_eq_false_iff_ne]; omega
        clear hd
        go_enter Tryz.func88, Tryz.ntmps88
        go_wp2_with fail
        refine (contains_bad s w).mono ?_
        rintro e w1 ⟨rfl, g⟩
        go_wp2_with fail
        go_ret
        exact ⟨ret_bool (by rw [Hr.out]; simp), g⟩
end Go.Proofs.YtilkcjcmcnlfnaaGreatDoor.Pth