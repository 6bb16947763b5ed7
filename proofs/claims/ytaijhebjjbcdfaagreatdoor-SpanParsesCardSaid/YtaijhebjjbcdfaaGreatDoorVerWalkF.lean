/- The contracts of Text, of the program and of the document. Condition: the table of the library of powers of ten reads as the program's text lays it. -/
import Derived.Test.YtaijhebjjbcdfaaGreatDoorVerWalkB
import Derived.Test.YtaijhebjjbcdfaaGreatDoorShelf
import Derived.Lib.QuietBelow
import Derived.Lib.AppendIntMem
import Derived.Lib.LaidTab
import Derived.Lib.LaidU8
import Derived.Lib.ItoaLen
import Derived.Lib.ItoaMem
namespace Go.Proofs.YtaijhebjjbcdfaaGreatDoor.Ver
set_option linter.unusedVariables false
open Go.ChangeShapes Go.WideShapes Go.ChangeAt Go.RowKit Go.Sort
theorem three_cells {w : World} {n : Nat} {x y z : Int} (h : w.heap[n]? = some (.cells #[.int .i64 x, .int .i64 y, .int .i64 z] 31 (0, 0))) :
    w.cell? ⟨n, 0, none⟩ = some (.int .i64 x) ∧ w.cell? ⟨n, 1, none⟩ = some (.int .i64 y) ∧ w.cell? ⟨n, 2, none⟩ = some (.int .i64 z) :=
  ⟨by rw [cell_of_row w _ 0 _ 31 (0, 0) h]; rfl, by rw [cell_of_row w _ 1 _ 31 (0, 0) h]; rfl, by rw [cell_of_row w _ 2 _ 31 (0, 0) h]; rfl⟩
theorem set_all {w : World} {n : Nat} {x y z : Int} (h : w.heap[n]? = some (.cells #[.int .i64 x, .int .i64 y, .int .i64 z] 31 (0, 0))) (u v t : Int) :
    (((w.setCell ⟨n, 0, none⟩ (.int .i64 u)).setCell ⟨n, 1, none⟩ (.int .i64 v)).setCell ⟨n, 2, none⟩ (.int .i64 t)).heap[n]? = some (.cells #[.int .i64 u, .int .i64 v, .int .i64 t] 31 (0, 0)) :=
  set3_2 (set3_1 (set3_0 h _) _) _
def Tb (w : World) : Prop := Lib.TabIs Tryz.prog w "internal/strconv.uint64pow10" .u64 Lib.pow10Tab
theorem gPow : Tryz.prog.globalNamed "internal/strconv.uint64pow10" = some 3 := by kernel_rfl
theorem Tb.keep {w w' : World} (h : Tb w) (g : Gr w w') : Tb w' := Joins.tab_stays gPow h g (Nat.le_refl _)
theorem itoa_gr (n : Int) (h0 : -9223372036854775808 ≤ n) (h1 : n ≤ 9223372036854775807) (w : World) (ht : Tb w) :
    Calls Tryz.prog 41 #[.int .i64 n] w fun e w' => e = .returned (.string ⟨(Lib.itoa n).toArray⟩) ∧ Gr w w' :=
  (Tryz.strconv_Itoa n h0 h1 w ht).mono fun e w' ⟨h, k, os, hw⟩ => ⟨h, by rw [hw]; exact Lib.below_grow _ w (Nat.le_refl _) k os⟩
theorem itoa_q (n : Int) (h0 : -9223372036854775808 ≤ n) (h1 : n ≤ 9223372036854775807) (w : World) (ht : Tb w) (d : Nat) (os : Array Obj) :
    Calls Tryz.prog 41 #[.int .i64 n] (grow (redrawn w d) os) fun e w' => e = .returned (.string ⟨(Lib.itoa n).toArray⟩) ∧ ∃ p : Regrown, w' = grow (redrawn w p.d) p.os :=
  Calls.regrown_of (itoa_gr n h0 h1 _ (ht.keep (below_regrown w d os)))
def it (n : Int) : ByteArray := ⟨(Lib.itoa n).toArray⟩
def dot (A B C : ByteArray) : ByteArray := A ++ ⟨#[46]⟩ ++ B ++ ⟨#[46]⟩ ++ C
set_option maxHeartbeats 1000000 in
set_option maxRecDepth 10000 in
theorem text_good (a b c : Int) (w : World) (ht : Tb w) (hg : goodB a b c = true) : Calls Tryz.prog 72 #[.agg #[.int .i64 a, .int .i64 b, .int .i64 c]] w fun e w' => e = .returned (.string (dot (it a) (it b) (it c))) ∧ Gr w w' := by
  obtain ⟨r1, r2, r3, r4, r5, r6⟩ := good_iff.1 hg
  have l0 : (it a).size ≤ 21 := Lib.itoa_length_le a (by omega) (by omega)
  have l1 : (it b).size ≤ 21 := Lib.itoa_length_le b (by omega) (by omega)
  have l2 : (it c).size ≤ 21 := Lib.itoa_length_le c (by omega) (by omega)
  have Q0 : ∀ w1, Tb w1 → ∀ d os, Calls Tryz.prog 41 #[.int .i64 a] (grow (redrawn w1 d) os) fun e w' => e = .returned (.string (it a)) ∧ ∃ p : Regrown, w' = grow (redrawn w1 p.d) p.os := itoa_q a (by omega) (by omega)
  have Q1 : ∀ w1, Tb w1 → ∀ d os, Calls Tryz.prog 41 #[.int .i64 b] (grow (redrawn w1 d) os) fun e w' => e = .returned (.string (it b)) ∧ ∃ p : Regrown, w' = grow (redrawn w1 p.d) p.os := itoa_q b (by omega) (by omega)
  have Q2 : ∀ w1, Tb w1 → ∀ d os, Calls Tryz.prog 41 #[.int .i64 c] (grow (redrawn w1 d) os) fun e w' => e = .returned (.string (it c)) ∧ ∃ p : Regrown, w' = grow (redrawn w1 p.d) p.os := itoa_q c (by omega) (by omega)
  generalize it a = A at *
  generalize it b = B at *
  generalize it c = C at *
  go_enter Tryz.func72, Tryz.ntmps72
  go_wp2_with fail
  refine (good_any a b c _).mono ?_
  rintro e w1 ⟨rfl, g1⟩
  rw [hg]
  obtain ⟨c0, c1, c2⟩ := three_cells (g1.heap (heap_alloc_new w _))
  have G := Lib.hid (grown_trans ((Gr.refl w).alloc _ _) g1)
  have t1 := ht.keep G.out
  have k0 := cell_regrown c0
  have k1 := cell_regrown c1
  have k2 := cell_regrown c2
  have q0 := Q0 w1 t1
  have q1 := Q1 w1 t1
  have q2 := Q2 w1 t1
  clear g1 t1 ht hg r1 r2 r3 r4 r5 r6 Q0 Q1 Q2
  go_wp2_with fail
  have n1 : ¬ 9223372036854775807 < A.size + 1 := by omega
  have n2 : ¬ 9223372036854775807 < A.size + 1 + B.size := by omega
  have n3 : ¬ 9223372036854775807 < A.size + 1 + B.size + 1 := by omega
  have n4 : ¬ 9223372036854775807 < A.size + 1 + B.size + 1 + C.size := by omega
  refine wp_region_quiet_below (by kernel_rfl) (by kernel_rfl) ?_
  repeat (quiet_step (first | exact q0 _ _ | exact q1 _ _ | exact q2 _ _))
  refine wpQuiet_nil ?_
  intro _ hw'
  obtain ⟨⟨dq, osq⟩, hw''⟩ := hw'
  subst hw''
  go_wp2_with fail
  go_ret
  exact ⟨rfl, grown_trans G.out (below_regrown w1 dq osq)⟩
set_option maxHeartbeats 1000000 in
set_option maxRecDepth 10000 in
theorem textR_good (a b c : Int) (w : World) (ht : Tb w) (hg : goodB a b c = true) : Calls Tryz.prog 20 #[.agg #[.int .i64 a, .int .i64 b, .int .i64 c]] w fun e w' => e = .returned (.string (dot (it a) (it b) (it c))) ∧ Gr w w' := by
  obtain ⟨r1, r2, r3, r4, r5, r6⟩ := good_iff.1 hg
  have l0 : (it a).size ≤ 21 := Lib.itoa_length_le a (by omega) (by omega)
  have l1 : (it b).size ≤ 21 := Lib.itoa_length_le b (by omega) (by omega)
  have l2 : (it c).size ≤ 21 := Lib.itoa_length_le c (by omega) (by omega)
  have Q0 : ∀ w1, Tb w1 → ∀ d os, Calls Tryz.prog 41 #[.int .i64 a] (grow (redrawn w1 d) os) fun e w' => e = .returned (.string (it a)) ∧ ∃ p : Regrown, w' = grow (redrawn w1 p.d) p.os := itoa_q a (by omega) (by omega)
  have Q1 : ∀ w1, Tb w1 → ∀ d os, Calls Tryz.prog 41 #[.int .i64 b] (grow (redrawn w1 d) os) fun e w' => e = .returned (.string (it b)) ∧ ∃ p : Regrown, w' = grow (redrawn w1 p.d) p.os := itoa_q b (by omega) (by omega)
  have Q2 : ∀ w1, Tb w1 → ∀ d os, Calls Tryz.prog 41 #[.int .i64 c] (grow (redrawn w1 d) os) fun e w' => e = .returned (.string (it c)) ∧ ∃ p : Regrown, w' = grow (redrawn w1 p.d) p.os := itoa_q c (by omega) (by omega)
  generalize it a = A at *
  generalize it b = B at *
  generalize it c = C at *
  go_enter Tryz.func20, Tryz.ntmps20
  go_wp2_with fail
  refine (goodR_any a b c _).mono ?_
  rintro e w1 ⟨rfl, g1⟩
  rw [hg]
  obtain ⟨c0, c1, c2⟩ := three_cells (g1.heap (heap_alloc_new w _))
  have G := Lib.hid (grown_trans ((Gr.refl w).alloc _ _) g1)
  have t1 := ht.keep G.out
  have k0 := cell_regrown c0
  have k1 := cell_regrown c1
  have k2 := cell_regrown c2
  have q0 := Q0 w1 t1
  have q1 := Q1 w1 t1
  have q2 := Q2 w1 t1
  clear g1 t1 ht hg r1 r2 r3 r4 r5 r6 Q0 Q1 Q2
  go_wp2_with fail
  have n1 : ¬ 9223372036854775807 < A.size + 1 := by omega
  have n2 : ¬ 9223372036854775807 < A.size + 1 + B.size := by omega
  have n3 : ¬ 9223372036854775807 < A.size + 1 + B.size + 1 := by omega
  have n4 : ¬ 9223372036854775807 < A.size + 1 + B.size + 1 + C.size := by omega
  refine wp_region_quiet_below (by kernel_rfl) (by kernel_rfl) ?_
  repeat (quiet_step (first | exact q0 _ _ | exact q1 _ _ | exact q2 _ _))
  refine wpQuiet_nil ?_
  intro _ hw'
  obtain ⟨⟨dq, osq⟩, hw''⟩ := hw'
  subst hw''
  go_wp2_with fail
  go_ret
  exact ⟨rfl, grown_trans G.out (below_regrown w1 dq osq)⟩
theorem text_bad (a b c : Int) (w : World) (hg : goodB a b c = false) : Calls Tryz.prog 72 #[.agg #[.int .i64 a, .int .i64 b, .int .i64 c]] w fun e w' => e = .returned (.string ⟨#[]⟩) ∧ Gr w w' := by
  go_enter Tryz.func72, Tryz.ntmps72
  go_wp2_with fail
  refine (good_any a b c _).mono ?_
  rintro e w1 ⟨rfl, g1⟩
  rw [hg]
  clear hg
  go_wp2_with fail
  go_ret
  exact ⟨rfl, grown_trans ((Gr.refl w).alloc _ _) g1⟩
theorem textR_bad (a b c : Int) (w : World) (hg : goodB a b c = false) : Calls Tryz.prog 20 #[.agg #[.int .i64 a, .int .i64 b, .int .i64 c]] w fun e w' => e = .returned (.string ⟨#[]⟩) ∧ Gr w w' := by
  go_enter Tryz.func20, Tryz.ntmps20
  go_wp2_with fail
  refine (goodR_any a b c _).mono ?_
  rintro e w1 ⟨rfl, g1⟩
  rw [hg]
  clear hg
  go_wp2_with fail
  go_ret
  exact ⟨rfl, grown_trans ((Gr.refl w).alloc _ _) g1⟩
/- From the row's condition to the table's fact. -/
theorem tb_of {l : List (String × DataW Unit)} {W : World} (h : laidMet Tryz.prog l W) (hm : ("internal/strconv.uint64pow10", Rows.laid_internal_strconv_uint64pow10) ∈ l) : Tb W := by
  obtain ⟨g, t, cs, fuel, p, hg, ht, hv, hd⟩ := Lib.laidMet.reads h hm
  obtain rfl := Option.some.inj (gPow.symm.trans hg)
  obtain rfl := Option.some.inj ((show (Tryz.prog.globals[3]?).map (·.type) = some 139 by kernel_rfl).symm.trans ht)
  have e : (Rows.laid_internal_strconv_uint64pow10 : DataW Unit) = Lib.tabData .u64 Lib.pow10Tab := rfl
  rw [e] at hd
  unfold Tb Lib.TabIs
  rw [hv, ← Lib.cells_of_tab (n := 20) Tryz.underlying139 Tryz.underlying117 (by kernel_rfl) (by kernel_rfl) hd]
end Go.Proofs.YtaijhebjjbcdfaaGreatDoor.Ver
