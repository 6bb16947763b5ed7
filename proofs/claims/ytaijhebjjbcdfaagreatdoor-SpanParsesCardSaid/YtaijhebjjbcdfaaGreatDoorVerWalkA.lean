/- The contracts of Good, Number and Of, of the program and of the document. Condition: a part is an int. -/
import Derived.Test.YtaijhebjjbcdfaaGreatDoorRows
import Derived.WalkKit
import Derived.ProofKit
import Derived.OpenShut
import Derived.ShutString
import Derived.Lib.Hide
import Derived.OneCell
import Derived.Below
namespace Go.Proofs.YtaijhebjjbcdfaaGreatDoor.Ver
set_option linter.unusedVariables false
open Go.ChangeShapes Go.WideShapes Go.ChangeAt Go.RowKit
def Gr (w w' : World) : Prop := Below w.heap.size w w'
theorem Gr.refl (w : World) : Gr w w := Below.refl _ _
theorem Gr.alloc {a w : World} (h : Gr a w) (c : Array Value) (t : TypeId) : Gr a (w.alloc (.cells c t)) := Below.alloc h h.size _
theorem grown_trans {a b c : World} (h : Gr a b) (g : Gr b c) : Gr a c := Below.trans h (Below.mono g h.size)
theorem grown_cell {w w' : World} {b : Nat} {cs : Array Value} {t : TypeId} (h : Gr w w') (hb : w.heap[b]? = some (.cells cs t (0, 0))) (i : Nat) : w'.cell? ⟨b, i, none⟩ = cs[i]? :=
  cell_of_row w' b i cs t (0, 0) ((h.block b (lt_of_block hb)).trans hb)
theorem Gr.keep {w w' : World} (h : Gr w w') {a : Addr} {v : Value} (hv : w.cell? a = some v) : w'.cell? a = some v := by
  rw [← hv]
  exact h.cell (World.block_lt_of_cell? w a hv)
def goodB (a b c : Int) : Bool := decide (0 ≤ a ∧ a ≤ 999 ∧ 0 ≤ b ∧ b ≤ 999 ∧ 0 ≤ c ∧ c ≤ 999)
def Bo (x : Bool) (w : World) (e : Ending) (w' : World) : Prop := e = .returned (.bool x) ∧ Gr w w'
theorem ret_bool {a b : Bool} (h : a = b) : Ending.returned (.bool a) = .returned (.bool b) := by rw [h]
theorem ret_i64 {a b : Int} (h : a = b) : Ending.returned (.int .i64 a) = .returned (.int .i64 b) := by rw [h]
theorem good_yes {a b c : Int} (h : 0 ≤ a ∧ a ≤ 999 ∧ 0 ≤ b ∧ b ≤ 999 ∧ 0 ≤ c ∧ c ≤ 999) : goodB a b c = true := by unfold goodB; simpa using h
theorem good_no {a b c : Int} (h : ¬ (0 ≤ a ∧ a ≤ 999 ∧ 0 ≤ b ∧ b ≤ 999 ∧ 0 ≤ c ∧ c ≤ 999)) : goodB a b c = false := by unfold goodB; simpa using h
theorem good_iff {a b c : Int} : goodB a b c = true ↔ (0 ≤ a ∧ a ≤ 999 ∧ 0 ≤ b ∧ b ≤ 999 ∧ 0 ≤ c ∧ c ≤ 999) := by unfold goodB; simp
def GoodTo (k : Nat) (a b c : Int) : Prop := (1 ≤ k → 0 ≤ a ∧ a ≤ 999) ∧ (2 ≤ k → 0 ≤ b ∧ b ≤ 999) ∧ (3 ≤ k → 0 ≤ c ∧ c ≤ 999)
set_option maxHeartbeats 1000000 in
theorem good_any (a b c : Int) (w : World) : Calls Tryz.prog 51 #[.agg #[.int .i64 a, .int .i64 b, .int .i64 c]] w (Bo (goodB a b c) w) := by
  have i0 : ∀ w, (Instr.index 31 (.agg #[.int .i64 a, .int .i64 b, .int .i64 c]) (.int .i64 0)).run Tryz.prog w = .ok (.int .i64 a) w := fun _ => by kernel_rfl
  have i1 : ∀ w, (Instr.index 31 (.agg #[.int .i64 a, .int .i64 b, .int .i64 c]) (.int .i64 1)).run Tryz.prog w = .ok (.int .i64 b) w := fun _ => by kernel_rfl
  have i2 : ∀ w, (Instr.index 31 (.agg #[.int .i64 a, .int .i64 b, .int .i64 c]) (.int .i64 2)).run Tryz.prog w = .ok (.int .i64 c) w := fun _ => by kernel_rfl
  go_enter Tryz.func51, Tryz.ntmps51
  go_wp2
  go_loop [4, 6] (fun x i => ∃ k : Nat, k ≤ 3 ∧ i = .int .i64 k ∧ GoodTo k a b c) (fun _ i => 3 - (intOf i).toNat)
  case atStart => exact ⟨0, by omega, rfl, ⟨by omega, by omega, by omega⟩⟩
  case round =>
    obtain ⟨k, hk, rfl, hg⟩ := hrel
    have Hg := Lib.hid hg
    clear hg
    obtain rfl | rfl | rfl | rfl : k = 0 ∨ k = 1 ∨ k = 2 ∨ k = 3 := by omega
    · by_cases h1 : a < 0
      · go_wp2
        go_ret
        exact ⟨ret_bool (by rw [good_no (by omega)]), (Gr.refl _).alloc _ _⟩
      · by_cases h2 : 999 < a
        · go_wp2
          go_ret
          exact ⟨ret_bool (by rw [good_no (by omega)]), (Gr.refl _).alloc _ _⟩
        · go_wp2
          go_round
          case rel => exact ⟨1, by omega, by go_num, ⟨by omega, by omega, by omega⟩⟩
          case measure => simp [intOf]
    · have ha := Hg.out.1 (by omega)
      by_cases h1 : b < 0
      · go_wp2
        go_ret
        exact ⟨ret_bool (by rw [good_no (by omega)]), (Gr.refl _).alloc _ _⟩
      · by_cases h2 : 999 < b
        · go_wp2
          go_ret
          exact ⟨ret_bool (by rw [good_no (by omega)]), (Gr.refl _).alloc _ _⟩
        · go_wp2
          go_round
          case rel => exact ⟨2, by omega, by go_num, ⟨by omega, by omega, by omega⟩⟩
          case measure => simp [intOf]
    · have ha := Hg.out.1 (by omega)
      have hb := Hg.out.2.1 (by omega)
      by_cases h1 : c < 0
      · go_wp2
        go_ret
        exact ⟨ret_bool (by rw [good_no (by omega)]), (Gr.refl _).alloc _ _⟩
      · by_cases h2 : 999 < c
        · go_wp2
          go_ret
          exact ⟨ret_bool (by rw [good_no (by omega)]), (Gr.refl _).alloc _ _⟩
        · go_wp2
          go_round
          case rel => exact ⟨3, by omega, by go_num, ⟨by omega, by omega, by omega⟩⟩
          case measure => simp [intOf]
    · have ha := Hg.out.1 (by omega)
      have hb := Hg.out.2.1 (by omega)
      have hc := Hg.out.2.2 (by omega)
      go_wp2
      go_ret
      exact ⟨ret_bool (by rw [good_yes (by omega)]), (Gr.refl _).alloc _ _⟩
set_option maxHeartbeats 1000000 in
theorem goodR_any (a b c : Int) (w : World) : Calls Tryz.prog 21 #[.agg #[.int .i64 a, .int .i64 b, .int .i64 c]] w (Bo (goodB a b c) w) := by
  go_enter Tryz.func21, Tryz.ntmps21
  go_wp2
  all_goals
    go_ret
    refine ⟨ret_bool ?_, (Gr.refl _).alloc _ _⟩
    first
      | (show false = _; rw [good_no (by omega)])
      | (show decide (c ≤ 999) = _; unfold goodB; rw [decide_eq_decide]; omega)
def numI (a b c : Int) : Int := if goodB a b c then 1000000 * a + 1000 * b + c else -1
def Nu (x : Int) (w : World) (e : Ending) (w' : World) : Prop := e = .returned (.int .i64 x) ∧ Gr w w'
theorem num_yes {a b c : Int} (h : goodB a b c = true) : numI a b c = 1000000 * a + 1000 * b + c := by unfold numI; rw [h]; rfl
theorem num_no {a b c : Int} (h : goodB a b c = false) : numI a b c = -1 := by unfold numI; rw [h]; rfl
set_option maxHeartbeats 1000000 in
theorem number_any (a b c : Int) (w : World) : Calls Tryz.prog 34 #[.agg #[.int .i64 a, .int .i64 b, .int .i64 c]] w (Nu (numI a b c) w) := by
  cases hg : goodB a b c
  · have hn := num_no hg
    have Hg := Lib.hid hg
    have Hn := Lib.hid hn
    clear hg hn
    go_enter Tryz.func34, Tryz.ntmps34
    go_wp2_with fail
    refine (good_any a b c _).mono ?_
    rintro e w1 ⟨rfl, hgr⟩
    rw [Hg.out]
    go_wp2_with fail
    go_ret
    exact ⟨ret_i64 Hn.out.symm, grown_trans ((Gr.refl _).alloc _ _) hgr⟩
  · have hn := num_yes hg
    obtain ⟨g1, g2, g3, g4, g5, g6⟩ := good_iff.1 hg
    have Hg := Lib.hid hg
    have Hn := Lib.hid hn
    clear hg hn
    go_enter Tryz.func34, Tryz.ntmps34
    go_wp2_with fail
    refine (good_any a b c _).mono ?_
    rintro e w1 ⟨rfl, hgr⟩
    rw [Hg.out]
    have Hgr := Lib.hid hgr
    have hc0 := grown_cell hgr (heap_alloc_new w _) 0
    have hc1 := grown_cell hgr (heap_alloc_new w _) 1
    have hc2 := grown_cell hgr (heap_alloc_new w _) 2
    simp at hc0 hc1 hc2
    clear hgr
    go_wp2_with fail
    go_ret
    exact ⟨ret_i64 (by rw [Hn.out]; omega), grown_trans ((Gr.refl _).alloc _ _) Hgr.out⟩
set_option maxHeartbeats 1000000 in
theorem numberR_any (a b c : Int) (w : World) : Calls Tryz.prog 37 #[.agg #[.int .i64 a, .int .i64 b, .int .i64 c]] w (Nu (numI a b c) w) := by
  cases hg : goodB a b c
  · have hn := num_no hg
    have Hg := Lib.hid hg
    have Hn := Lib.hid hn
    clear hg hn
    go_enter Tryz.func37, Tryz.ntmps37
    go_wp2_with fail
    refine (goodR_any a b c _).mono ?_
    rintro e w1 ⟨rfl, hgr⟩
    rw [Hg.out]
    go_wp2_with fail
    go_ret
    exact ⟨ret_i64 Hn.out.symm, grown_trans ((Gr.refl _).alloc _ _) hgr⟩
  · have hn := num_yes hg
    obtain ⟨g1, g2, g3, g4, g5, g6⟩ := good_iff.1 hg
    have Hg := Lib.hid hg
    have Hn := Lib.hid hn
    clear hg hn
    go_enter Tryz.func37, Tryz.ntmps37
    go_wp2_with fail
    refine (goodR_any a b c _).mono ?_
    rintro e w1 ⟨rfl, hgr⟩
    rw [Hg.out]
    have Hgr := Lib.hid hgr
    have hc0 := grown_cell hgr (heap_alloc_new w _) 0
    have hc1 := grown_cell hgr (heap_alloc_new w _) 1
    have hc2 := grown_cell hgr (heap_alloc_new w _) 2
    simp at hc0 hc1 hc2
    clear hgr
    go_wp2_with fail
    go_ret
    exact ⟨ret_i64 (by rw [Hn.out]), grown_trans ((Gr.refl _).alloc _ _) Hgr.out⟩
set_option maxHeartbeats 1000000 in
theorem of_bad (n : Int) (w : World) (h : n < 0 ∨ 999999999 < n) :
    Calls Tryz.prog 71 #[.int .i64 n] w fun e w' => e = .returned (.tuple #[.agg #[.int .i64 0, .int .i64 0, .int .i64 0], .bool false]) ∧ Gr w w' := by
  rcases h with h | h
  · go_enter Tryz.func71, Tryz.ntmps71
    go_wp2
    exact bodyPost_ret (v := .tuple #[.agg #[.int .i64 0, .int .i64 0, .int .i64 0], .bool false]) (by simp [results, Tryz.results71, go_sem]) rfl ⟨rfl, (Gr.refl _).alloc _ _⟩
  · go_enter Tryz.func71, Tryz.ntmps71
    go_wp2
    exact bodyPost_ret (v := .tuple #[.agg #[.int .i64 0, .int .i64 0, .int .i64 0], .bool false]) (by simp [results, Tryz.results71, go_sem]) rfl ⟨rfl, (Gr.refl _).alloc _ _⟩
set_option maxHeartbeats 1000000 in
theorem of_good (n : Int) (w : World) (h1 : 0 ≤ n) (h2 : n ≤ 999999999) :
    Calls Tryz.prog 71 #[.int .i64 n] w fun e w' => e = .returned (.tuple #[.agg #[.int .i64 (n / 1000000), .int .i64 (n / 1000 % 1000), .int .i64 (n % 1000)], .bool true]) ∧ Gr w w' := by
  go_enter Tryz.func71, Tryz.ntmps71
  go_wp2
  exact bodyPost_ret (v := .tuple #[.agg #[.int .i64 (n / 1000000), .int .i64 (n / 1000 % 1000), .int .i64 (n % 1000)], .bool true]) (by simp [results, Tryz.results71, go_sem]) rfl ⟨rfl, (Gr.refl _).alloc _ _⟩
end Go.Proofs.YtaijhebjjbcdfaaGreatDoor.Ver
