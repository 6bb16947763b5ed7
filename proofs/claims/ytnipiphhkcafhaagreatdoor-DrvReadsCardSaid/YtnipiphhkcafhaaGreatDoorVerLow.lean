/- The contracts of Good, Number and Of, of the program and of the document. Condition: a part is an int. -/
import Derived.Test.YtnipiphhkcafhaaGreatDoorRows
import Derived.WalkKit
import Derived.ProofKit
import Derived.OpenShut
import Derived.ShutString
import Derived.Lib.Hide
import Derived.OneCell
import Derived.Below
import Derived.Test.YtnipiphhkcafhaaGreatDoorShelf
import Derived.Lib.SmallJoins
import Derived.LoopN
import Derived.Lib.QuietBelow
import Derived.Lib.AppendIntMem
import Derived.Lib.LaidTab
import Derived.Lib.LaidU8
import Derived.Lib.ItoaLen
import Derived.Lib.ItoaMem
import Derived.WalkSpells
import Derived.OwnWalk
import Derived.StillTailTactics
import Derived.Laws.OwnMore
import Derived.Lib.SplitLaws
import Derived.Lib.AtoiTie
namespace Go.Proofs.YtnipiphhkcafhaaGreatDoor.Ver
set_option linter.unusedVariables false
open Go.ChangeShapes Go.WideShapes Go.ChangeAt Go.RowKit
def Gr (w w' : World) : Prop := Below w.heap.size w w'
theorem Gr.refl (w : World) : Gr w w := Below.refl _ _
theorem Gr.alloc {a w : World} (h : Gr a w) (c : Array Value) (t : TypeId) : Gr a (w.alloc (.cells c t)) := Below.alloc h h.size _
theorem grown_trans {a b c : World} (h : Gr a b) (g : Gr b c) : Gr a c := Below.trans h (Below.mono g h.size)
theorem grown_cell {w w' : World} {b : Nat} {cs : Array Value} {t : TypeId} (h : Gr w w') (hb : w.heap[b]? = some (.cells cs t (0, 0))) (i : Nat) : w'.cell? ⟨b, i, none⟩ = cs[i]? :=
  cell_of_row w' b i cs t (0, 0) ((h.block b (lt_of_block hb)).trans hb)
theorem Gr.keep {w w' : World} (h : Gr w w') {a : Addr} {v : Value} (hv : w.cell? a = some v) : w'.cell? a = some v := by
  rw [← hv]
  exact h.cell (World.block_lt_of_cell? w a hv)
def goodB (a b c : Int) : Bool := decide (0 ≤ a ∧ a ≤ 999 ∧ 0 ≤ b ∧ b ≤ 999 ∧ 0 ≤ c ∧ c ≤ 999)
def Bo (x : Bool) (w : World) (e : Ending) (w' : World) : Prop := e = .returned (.bool x) ∧ Gr w w'
theorem ret_bool {a b : Bool} (h : a = b) : Ending.returned (.bool a) = .returned (.bool b) := by rw [h]
theorem ret_i64 {a b : Int} (h : a = b) : Ending.returned (.int .i64 a) = .returned (.int .i64 b) := by rw [h]
theorem good_yes {a b c : Int} (h : 0 ≤ a ∧ a ≤ 999 ∧ 0 ≤ b ∧ b ≤ 999 ∧ 0 ≤ c ∧ c ≤ 999) : goodB a b c = true := by unfold goodB; simpa using h
theorem good_no {a b c : Int} (h : ¬ (0 ≤ a ∧ a ≤ 999 ∧ 0 ≤ b ∧ b ≤ 999 ∧ 0 ≤ c ∧ c ≤ 999)) : goodB a b c = false := by unfold goodB; simpa using h
theorem good_iff {a b c : Int} : goodB a b c = true ↔ (0 ≤ a ∧ a ≤ 999 ∧ 0 ≤ b ∧ b ≤ 999 ∧ 0 ≤ c ∧ c ≤ 999) := by unfold goodB; simp
def GoodTo (k : Nat) (a b c : Int) : Prop := (1 ≤ k → 0 ≤ a ∧ a ≤ 999) ∧ (2 ≤ k → 0 ≤ b ∧ b ≤ 999) ∧ (3 ≤ k → 0 ≤ c ∧ c ≤ 999)
set_option maxHeartbeats 1000000 in
theorem good_any (a b c : Int) (w : World) : Calls Tryz.prog 25 #[.agg #[.int .i64 a, .int .i64 b, .int .i64 c]] w (Bo (goodB a b c) w) := by
  have i0 : ∀ w, (Instr.index 24 (.agg #[.int .i64 a, .int .i64 b, .int .i64 c]) (.int .i64 0)).run Tryz.prog w = .ok (.int .i64 a) w := fun _ => by kernel_rfl
  have i1 : ∀ w, (Instr.index 24 (.agg #[.int .i64 a, .int .i64 b, .int .i64 c]) (.int .i64 1)).run Tryz.prog w = .ok (.int .i64 b) w := fun _ => by kernel_rfl
  have i2 : ∀ w, (Instr.index 24 (.agg #[.int .i64 a, .int .i64 b, .int .i64 c]) (.int .i64 2)).run Tryz.prog w = .ok (.int .i64 c) w := fun _ => by kernel_rfl
  go_enter Tryz.func25, Tryz.ntmps25
  go_wp2
  go_loop [4, 6] (fun x i => ∃ k : Nat, k ≤ 3 ∧ i = .int .i64 k ∧ GoodTo k a b c) (fun _ i => 3 - (intOf i).toNat)
  case atStart => exact ⟨0, by omega, rfl, ⟨by omega, by omega, by omega⟩⟩
  case round =>
    obtain ⟨k, hk, rfl, hg⟩ := hrel
    have Hg := Lib.hid hg
    clear hg
    obtain rfl | rfl | rfl | rfl : k = 0 ∨ k = 1 ∨ k = 2 ∨ k = 3 := by omega
    · by_cases h1 : a < 0
      · go_wp2
        go_ret
        exact ⟨ret_bool (by rw [good_no (by omega)]), (Gr.refl _).alloc _ _⟩
      · by_cases h2 : 999 < a
        · go_wp2
          go_ret
          exact ⟨ret_bool (by rw [good_no (by omega)]), (Gr.refl _).alloc _ _⟩
        · go_wp2
          go_round
          case rel => exact ⟨1, by omega, by go_num, ⟨by omega, by omega, by omega⟩⟩
          case measure => simp [intOf]
    · have ha := Hg.out.1 (by omega)
      by_cases h1 : b < 0
      · go_wp2
        go_ret
        exact ⟨ret_bool (by rw [good_no (by omega)]), (Gr.refl _).alloc _ _⟩
      · by_cases h2 : 999 < b
        · go_wp2
          go_ret
          exact ⟨ret_bool (by rw [good_no (by omega)]), (Gr.refl _).alloc _ _⟩
        · go_wp2
          go_round
          case rel => exact ⟨2, by omega, by go_num, ⟨by omega, by omega, by omega⟩⟩
          case measure => simp [intOf]
    · have ha := Hg.out.1 (by omega)
      have hb := Hg.out.2.1 (by omega)
      by_cases h1 : c < 0
      · go_wp2
        go_ret
        exact ⟨ret_bool (by rw [good_no (by omega)]), (Gr.refl _).alloc _ _⟩
      · by_cases h2 : 999 < c
        · go_wp2
          go_ret
          exact ⟨ret_bool (by rw [good_no (by omega)]), (Gr.refl _).alloc _ _⟩
        · go_wp2
          go_round
          case rel => exact ⟨3, by omega, by go_num, ⟨by omega, by omega, by omega⟩⟩
          case measure => simp [intOf]
    · have ha := Hg.out.1 (by omega)
      have hb := Hg.out.2.1 (by omega)
      have hc := Hg.out.2.2 (by omega)
      go_wp2
      go_ret
      exact ⟨ret_bool (by rw [good_yes (by omega)]), (Gr.refl _).alloc _ _⟩
set_option maxHeartbeats 1000000 in
theorem goodR_any (a b c : Int) (w : World) : Calls Tryz.prog 33 #[.agg #[.int .i64 a, .int .i64 b, .int .i64 c]] w (Bo (goodB a b c) w) := by
  go_enter Tryz.func33, Tryz.ntmps33
  go_wp2
  all_goals
    go_ret
    refine ⟨ret_bool ?_, (Gr.refl _).alloc _ _⟩
    first
      | (show false = _; rw [good_no (by omega)])
      | (show decide (c ≤ 999) = _; unfold goodB; rw [decide_eq_decide]; omega)
def numI (a b c : Int) : Int := if goodB a b c then 1000000 * a + 1000 * b + c else -1
def Nu (x : Int) (w : World) (e : Ending) (w' : World) : Prop := e = .returned (.int .i64 x) ∧ Gr w w'
theorem num_yes {a b c : Int} (h : goodB a b c = true) : numI a b c = 1000000 * a + 1000 * b + c := by unfold numI; rw [h]; rfl
theorem num_no {a b c : Int} (h : goodB a b c = false) : numI a b c = -1 := by unfold numI; rw [h]; rfl
end Go.Proofs.YtnipiphhkcafhaaGreatDoor.Ver
namespace Go.Proofs.YtnipiphhkcafhaaGreatDoor.Ver
set_option linter.unusedVariables false
open Go.ChangeShapes Go.WideShapes Go.ChangeAt Go.RowKit
theorem atoi_gr (s : ByteArray) (n : Int) (hl : s.size ≤ 18) (h : Lib.atoi s.data.toList = some n) (w : World) :
    Calls Tryz.prog 62 #[.string s] w fun e w' => e = .returned (.tuple #[.int .i64 n, .nilIface]) ∧ Gr w w' :=
  (Tryz.strconv_Atoi s n hl h w).mono fun e w' ⟨h1, t, h2⟩ => ⟨h1, by rw [h2]; exact Joins.below_bytesWorld _ _ _ _ (Nat.le_refl _)⟩
def Digits (n : Int) (b : Bool) (w : World) (e : Ending) (w' : World) : Prop := e = .returned (.tuple #[.int .i64 n, .bool b]) ∧ Gr w w'
set_option maxHeartbeats 1000000 in
theorem digits_ok (s : ByteArray) (n : Nat) (w : World) (hl : s.size ≤ 18) (h : Lib.atoi s.data.toList = some (n : Int)) (hn : n < 100) (hd : Lib.decDigits n = s.data.toList) :
    Calls Tryz.prog 48 #[.string s] w (Digits n true w) := by
  have hx : (ByteArray.mk (Lib.decDigits n).toArray) = s := by rw [hd]
  have Hx := Lib.hid hx
  clear hx hd
  go_enter Tryz.func48, Tryz.ntmps48
  go_wp2_with fail
  refine (atoi_gr s n hl h w).mono ?_
  rintro e w1 ⟨rfl, hg⟩
  go_wp2_with fail
  refine (Tryz.strconv_Itoa_small n hn _).mono ?_
  rintro e w2 ⟨rfl, rfl⟩
  rw [Hx.out]
  go_wp2_with fail
  go_ret2
  exact ⟨rfl, hg⟩
set_option maxHeartbeats 1000000 in
theorem digits_bad (s : ByteArray) (n : Nat) (w : World) (hl : s.size ≤ 18) (h : Lib.atoi s.data.toList = some (n : Int)) (hn : n < 100) (hd : ¬ Lib.decDigits n = s.data.toList) :
    Calls Tryz.prog 48 #[.string s] w (Digits 0 false w) := by
  have hx : (!Lib.decDigits n == s.toList) = true := by rw [Lib.toList_data]; simp [hd]
  clear hd
  go_enter Tryz.func48, Tryz.ntmps48
  go_wp2_with fail
  refine (atoi_gr s n hl h w).mono ?_
  rintro e w1 ⟨rfl, hg⟩
  go_wp2_with fail
  refine (Tryz.strconv_Itoa_small n hn _).mono ?_
  rintro e w2 ⟨rfl, rfl⟩
  go_wp2_with fail
  go_ret2
  exact ⟨rfl, hg⟩
def Sp (ps : List ByteArray) (w : World) (e : Ending) (w' : World) : Prop := e = .returned (.slice (some ⟨w.heap.size, 0, none⟩) ps.length ps.length) ∧ w' = w.alloc (.cells (ps.map Value.string).toArray 9)
theorem split_eq (s : ByteArray) (ps : List ByteArray) (m : Int) (w : World) (hs : s.size < 4294967281) (hm : w.cell? ⟨1, 0, none⟩ = some (.int .i64 m)) (h1 : Lib.countB s ⟨#[46]⟩ + 1 = ps.length) (h2 : Lib.splitB ⟨#[46]⟩ 0 (Lib.countB s ⟨#[46]⟩) s = ps) :
    Calls Tryz.prog 47 #[.string s, .string ⟨#[46]⟩] w (Sp ps w) :=
  (Tryz.strings_Split s ⟨#[46]⟩ m w hs hm (by decide)).mono fun e w' ⟨q1, q2⟩ => ⟨by rw [q1, h1], by rw [q2, h2]⟩
theorem Gr.heap {a b : World} (h : Gr a b) {k : Nat} {o : Obj} (hk : a.heap[k]? = some o) : b.heap[k]? = some o := (h.block k (lt_of_block hk)).trans hk
theorem three (w : World) (x y z : Obj) : (((w.alloc x).alloc y).alloc z).heap[w.heap.size]? = some x ∧ (((w.alloc x).alloc y).alloc z).heap[w.heap.size + 1]? = some y ∧ (((w.alloc x).alloc y).alloc z).heap[w.heap.size + 1 + 1]? = some z := by
  have s1 : (w.alloc x).heap.size = w.heap.size + 1 := by show (w.heap.push _).size = _; simp
  have s2 : ((w.alloc x).alloc y).heap.size = w.heap.size + 1 + 1 := by show ((w.alloc x).heap.push _).size = _; rw [Array.size_push, s1]
  refine ⟨?_, ?_, ?_⟩
  · rw [Below.heap_alloc _ _ _ (by omega), Below.heap_alloc _ _ _ (by omega)]; exact heap_alloc_new w x
  · rw [Below.heap_alloc _ _ _ (by omega), ← s1]; exact heap_alloc_new _ y
  · rw [← s2]; exact heap_alloc_new _ z
theorem fz {w : World} {b : Nat} {cs : Array Value} {t : TypeId} (h : w.heap[b]? = some (.cells cs t (0, 0))) : ∀ i, w.frozen? ⟨b, i, none⟩ = false := by
  intro i; simp [World.frozen?, h]
theorem heap_set {w : World} {b i : Nat} {cs : Array Value} {t : TypeId} (h : w.heap[b]? = some (.cells cs t (0, 0))) (u : Value) :
    (w.setCell ⟨b, i, none⟩ u).heap[b]? = some (.cells (cs.setIfInBounds i u) t (0, 0)) := by
  have hlt := lt_of_block h
  have h' : w.heap[b] = .cells cs t (0, 0) := by simpa [Array.getElem?_eq_getElem hlt] using h
  show (w.heap.modify b _)[b]? = _
  rw [Array.getElem?_eq_getElem (by simpa using hlt), Array.getElem_modify_self, h']
  rfl
theorem set3_0 {w : World} {b : Nat} {x0 x1 x2 : Value} {t : TypeId} (h : w.heap[b]? = some (.cells #[x0, x1, x2] t (0, 0))) (u : Value) :
    (w.setCell ⟨b, 0, none⟩ u).heap[b]? = some (.cells #[u, x1, x2] t (0, 0)) := heap_set h u
theorem set3_1 {w : World} {b : Nat} {x0 x1 x2 : Value} {t : TypeId} (h : w.heap[b]? = some (.cells #[x0, x1, x2] t (0, 0))) (u : Value) :
    (w.setCell ⟨b, 1, none⟩ u).heap[b]? = some (.cells #[x0, u, x2] t (0, 0)) := heap_set h u
theorem set3_2 {w : World} {b : Nat} {x0 x1 x2 : Value} {t : TypeId} (h : w.heap[b]? = some (.cells #[x0, x1, x2] t (0, 0))) (u : Value) :
    (w.setCell ⟨b, 2, none⟩ u).heap[b]? = some (.cells #[x0, x1, u] t (0, 0)) := heap_set h u
theorem set3_other {w : World} {b c i : Nat} {o : Obj} (h : w.heap[b]? = some o) (hne : b ≠ c) (u : Value) : (w.setCell ⟨c, i, none⟩ u).heap[b]? = some o := by
  rw [Below.heap_setCell _ _ _ _ hne]; exact h
theorem Gr.set {a w : World} (h : Gr a w) {b i : Nat} (hb : a.heap.size ≤ b) (u : Value) : Gr a (w.setCell ⟨b, i, none⟩ u) := Below.setCell h (p := ⟨b, i, none⟩) hb u
structure V (w w' : World) (x y z : Int) : Prop where
  a : w'.heap[w.heap.size]? = some (.cells #[.int .i64 0, .int .i64 0, .int .i64 0] 24 (0, 0))
  b : w'.heap[w.heap.size + 1]? = some (.cells #[.int .i64 x, .int .i64 y, .int .i64 z] 24 (0, 0))
  c : w'.heap[w.heap.size + 1 + 1]? = some (.cells #[.string { data := #[49] }, .string { data := #[50, 48] }, .string { data := #[51] }] 9 (0, 0))
  g : Gr w w'
theorem V.gr {w w1 w2 : World} {x y z : Int} (h : V w w1 x y z) (g : Gr w1 w2) : V w w2 x y z := ⟨g.heap h.a, g.heap h.b, g.heap h.c, grown_trans h.g g⟩
theorem V.s0 {w w1 : World} {x y z : Int} (h : V w w1 x y z) (u : Int) : V w (w1.setCell ⟨w.heap.size + 1, 0, none⟩ (.int .i64 u)) u y z :=
  ⟨set3_other h.a (by omega) _, set3_0 h.b _, set3_other h.c (by omega) _, h.g.set (by omega) _⟩
theorem V.s1 {w w1 : World} {x y z : Int} (h : V w w1 x y z) (u : Int) : V w (w1.setCell ⟨w.heap.size + 1, 1, none⟩ (.int .i64 u)) x u z :=
  ⟨set3_other h.a (by omega) _, set3_1 h.b _, set3_other h.c (by omega) _, h.g.set (by omega) _⟩
theorem V.s2 {w w1 : World} {x y z : Int} (h : V w w1 x y z) (u : Int) : V w (w1.setCell ⟨w.heap.size + 1, 2, none⟩ (.int .i64 u)) x y u :=
  ⟨set3_other h.a (by omega) _, set3_2 h.b _, set3_other h.c (by omega) _, h.g.set (by omega) _⟩
theorem V.cells {w w' : World} {x y z : Int} (h : V w w' x y z) : w'.cell? ⟨w.heap.size + 1, 0, none⟩ = some (.int .i64 x) ∧ w'.cell? ⟨w.heap.size + 1, 1, none⟩ = some (.int .i64 y) ∧ w'.cell? ⟨w.heap.size + 1, 2, none⟩ = some (.int .i64 z) :=
  ⟨by rw [cell_of_row w' _ 0 _ 24 (0, 0) h.b]; rfl, by rw [cell_of_row w' _ 1 _ 24 (0, 0) h.b]; rfl, by rw [cell_of_row w' _ 2 _ 24 (0, 0) h.b]; rfl⟩
theorem V.parts {w w' : World} {x y z : Int} (h : V w w' x y z) : w'.cell? ⟨w.heap.size + 1 + 1, 0, none⟩ = some (.string { data := #[49] }) ∧ w'.cell? ⟨w.heap.size + 1 + 1, 1, none⟩ = some (.string { data := #[50, 48] }) ∧ w'.cell? ⟨w.heap.size + 1 + 1, 2, none⟩ = some (.string { data := #[51] }) :=
  ⟨by rw [cell_of_row w' _ 0 _ 9 (0, 0) h.c]; rfl, by rw [cell_of_row w' _ 1 _ 9 (0, 0) h.c]; rfl, by rw [cell_of_row w' _ 2 _ 9 (0, 0) h.c]; rfl⟩
theorem V.outs {w w' : World} {x y z : Int} (h : V w w' x y z) : w'.cell? ⟨w.heap.size, 0, none⟩ = some (.int .i64 0) ∧ w'.cell? ⟨w.heap.size, 1, none⟩ = some (.int .i64 0) ∧ w'.cell? ⟨w.heap.size, 2, none⟩ = some (.int .i64 0) :=
  ⟨by rw [cell_of_row w' _ 0 _ 24 (0, 0) h.a]; rfl, by rw [cell_of_row w' _ 1 _ 24 (0, 0) h.a]; rfl, by rw [cell_of_row w' _ 2 _ 24 (0, 0) h.a]; rfl⟩
end Go.Proofs.YtnipiphhkcafhaaGreatDoor.Ver
namespace Go.Proofs.YtnipiphhkcafhaaGreatDoor.Ver
set_option linter.unusedVariables false
open Go.ChangeShapes Go.WideShapes Go.ChangeAt Go.RowKit Go.Sort
theorem three_cells {w : World} {n : Nat} {x y z : Int} (h : w.heap[n]? = some (.cells #[.int .i64 x, .int .i64 y, .int .i64 z] 24 (0, 0))) :
    w.cell? ⟨n, 0, none⟩ = some (.int .i64 x) ∧ w.cell? ⟨n, 1, none⟩ = some (.int .i64 y) ∧ w.cell? ⟨n, 2, none⟩ = some (.int .i64 z) :=
  ⟨by rw [cell_of_row w _ 0 _ 24 (0, 0) h]; rfl, by rw [cell_of_row w _ 1 _ 24 (0, 0) h]; rfl, by rw [cell_of_row w _ 2 _ 24 (0, 0) h]; rfl⟩
theorem set_all {w : World} {n : Nat} {x y z : Int} (h : w.heap[n]? = some (.cells #[.int .i64 x, .int .i64 y, .int .i64 z] 24 (0, 0))) (u v t : Int) :
    (((w.setCell ⟨n, 0, none⟩ (.int .i64 u)).setCell ⟨n, 1, none⟩ (.int .i64 v)).setCell ⟨n, 2, none⟩ (.int .i64 t)).heap[n]? = some (.cells #[.int .i64 u, .int .i64 v, .int .i64 t] 24 (0, 0)) :=
  set3_2 (set3_1 (set3_0 h _) _) _
def Tb (w : World) : Prop := Lib.TabIs Tryz.prog w "internal/strconv.uint64pow10" .u64 Lib.pow10Tab
theorem gPow : Tryz.prog.globalNamed "internal/strconv.uint64pow10" = some 0 := by kernel_rfl
theorem Tb.keep {w w' : World} (h : Tb w) (g : Gr w w') : Tb w' := Joins.tab_stays gPow h g (Nat.le_refl _)
theorem itoa_gr (n : Int) (h0 : -9223372036854775808 ≤ n) (h1 : n ≤ 9223372036854775807) (w : World) (ht : Tb w) :
    Calls Tryz.prog 40 #[.int .i64 n] w fun e w' => e = .returned (.string ⟨(Lib.itoa n).toArray⟩) ∧ Gr w w' :=
  (Tryz.strconv_Itoa n h0 h1 w ht).mono fun e w' ⟨h, k, os, hw⟩ => ⟨h, by rw [hw]; exact Lib.below_grow _ w (Nat.le_refl _) k os⟩
theorem itoa_q (n : Int) (h0 : -9223372036854775808 ≤ n) (h1 : n ≤ 9223372036854775807) (w : World) (ht : Tb w) (d : Nat) (os : Array Obj) :
    Calls Tryz.prog 40 #[.int .i64 n] (grow (redrawn w d) os) fun e w' => e = .returned (.string ⟨(Lib.itoa n).toArray⟩) ∧ ∃ p : Regrown, w' = grow (redrawn w p.d) p.os :=
  Calls.regrown_of (itoa_gr n h0 h1 _ (ht.keep (below_regrown w d os)))
def it (n : Int) : ByteArray := ⟨(Lib.itoa n).toArray⟩
def dot (A B C : ByteArray) : ByteArray := A ++ ⟨#[46]⟩ ++ B ++ ⟨#[46]⟩ ++ C
set_option maxHeartbeats 1000000 in
set_option maxRecDepth 10000 in
theorem text_good (a b c : Int) (w : World) (ht : Tb w) (hg : goodB a b c = true) : Calls Tryz.prog 19 #[.agg #[.int .i64 a, .int .i64 b, .int .i64 c]] w fun e w' => e = .returned (.string (dot (it a) (it b) (it c))) ∧ Gr w w' := by
  obtain ⟨r1, r2, r3, r4, r5, r6⟩ := good_iff.1 hg
  have l0 : (it a).size ≤ 21 := Lib.itoa_length_le a (by omega) (by omega)
  have l1 : (it b).size ≤ 21 := Lib.itoa_length_le b (by omega) (by omega)
  have l2 : (it c).size ≤ 21 := Lib.itoa_length_le c (by omega) (by omega)
  have Q0 : ∀ w1, Tb w1 → ∀ d os, Calls Tryz.prog 40 #[.int .i64 a] (grow (redrawn w1 d) os) fun e w' => e = .returned (.string (it a)) ∧ ∃ p : Regrown, w' = grow (redrawn w1 p.d) p.os := itoa_q a (by omega) (by omega)
  have Q1 : ∀ w1, Tb w1 → ∀ d os, Calls Tryz.prog 40 #[.int .i64 b] (grow (redrawn w1 d) os) fun e w' => e = .returned (.string (it b)) ∧ ∃ p : Regrown, w' = grow (redrawn w1 p.d) p.os := itoa_q b (by omega) (by omega)
  have Q2 : ∀ w1, Tb w1 → ∀ d os, Calls Tryz.prog 40 #[.int .i64 c] (grow (redrawn w1 d) os) fun e w' => e = .returned (.string (it c)) ∧ ∃ p : Regrown, w' = grow (redrawn w1 p.d) p.os := itoa_q c (by omega) (by omega)
  generalize it a = A at *
  generalize it b = B at *
  generalize it c = C at *
  go_enter Tryz.func19, Tryz.ntmps19
  go_wp2_with fail
  refine (good_any a b c _).mono ?_
  rintro e w1 ⟨rfl, g1⟩
  rw [hg]
  obtain ⟨c0, c1, c2⟩ := three_cells (g1.heap (heap_alloc_new w _))
  have G := Lib.hid (grown_trans ((Gr.refl w).alloc _ _) g1)
  have t1 := ht.keep G.out
  have k0 := cell_regrown c0
  have k1 := cell_regrown c1
  have k2 := cell_regrown c2
  have q0 := Q0 w1 t1
  have q1 := Q1 w1 t1
  have q2 := Q2 w1 t1
  clear g1 t1 ht hg r1 r2 r3 r4 r5 r6 Q0 Q1 Q2
  go_wp2_with fail
  have n1 : ¬ 9223372036854775807 < A.size + 1 := by omega
  have n2 : ¬ 9223372036854775807 < A.size + 1 + B.size := by omega
  have n3 : ¬ 9223372036854775807 < A.size + 1 + B.size + 1 := by omega
  have n4 : ¬ 9223372036854775807 < A.size + 1 + B.size + 1 + C.size := by omega
  refine wp_region_quiet_below (by kernel_rfl) (by kernel_rfl) ?_
  repeat (quiet_step (first | exact q0 _ _ | exact q1 _ _ | exact q2 _ _))
  refine wpQuiet_nil ?_
  intro _ hw'
  obtain ⟨⟨dq, osq⟩, hw''⟩ := hw'
  subst hw''
  go_wp2_with fail
  go_ret
  exact ⟨rfl, grown_trans G.out (below_regrown w1 dq osq)⟩
set_option maxHeartbeats 1000000 in
set_option maxRecDepth 10000 in
theorem textR_good (a b c : Int) (w : World) (ht : Tb w) (hg : goodB a b c = true) : Calls Tryz.prog 38 #[.agg #[.int .i64 a, .int .i64 b, .int .i64 c]] w fun e w' => e = .returned (.string (dot (it a) (it b) (it c))) ∧ Gr w w' := by
  obtain ⟨r1, r2, r3, r4, r5, r6⟩ := good_iff.1 hg
  have l0 : (it a).size ≤ 21 := Lib.itoa_length_le a (by omega) (by omega)
  have l1 : (it b).size ≤ 21 := Lib.itoa_length_le b (by omega) (by omega)
  have l2 : (it c).size ≤ 21 := Lib.itoa_length_le c (by omega) (by omega)
  have Q0 : ∀ w1, Tb w1 → ∀ d os, Calls Tryz.prog 40 #[.int .i64 a] (grow (redrawn w1 d) os) fun e w' => e = .returned (.string (it a)) ∧ ∃ p : Regrown, w' = grow (redrawn w1 p.d) p.os := itoa_q a (by omega) (by omega)
  have Q1 : ∀ w1, Tb w1 → ∀ d os, Calls Tryz.prog 40 #[.int .i64 b] (grow (redrawn w1 d) os) fun e w' => e = .returned (.string (it b)) ∧ ∃ p : Regrown, w' = grow (redrawn w1 p.d) p.os := itoa_q b (by omega) (by omega)
  have Q2 : ∀ w1, Tb w1 → ∀ d os, Calls Tryz.prog 40 #[.int .i64 c] (grow (redrawn w1 d) os) fun e w' => e = .returned (.string (it c)) ∧ ∃ p : Regrown, w' = grow (redrawn w1 p.d) p.os := itoa_q c (by omega) (by omega)
  generalize it a = A at *
  generalize it b = B at *
  generalize it c = C at *
  go_enter Tryz.func38, Tryz.ntmps38
  go_wp2_with fail
  refine (goodR_any a b c _).mono ?_
  rintro e w1 ⟨rfl, g1⟩
  rw [hg]
  obtain ⟨c0, c1, c2⟩ := three_cells (g1.heap (heap_alloc_new w _))
  have G := Lib.hid (grown_trans ((Gr.refl w).alloc _ _) g1)
  have t1 := ht.keep G.out
  have k0 := cell_regrown c0
  have k1 := cell_regrown c1
  have k2 := cell_regrown c2
  have q0 := Q0 w1 t1
  have q1 := Q1 w1 t1
  have q2 := Q2 w1 t1
  clear g1 t1 ht hg r1 r2 r3 r4 r5 r6 Q0 Q1 Q2
  go_wp2_with fail
  have n1 : ¬ 9223372036854775807 < A.size + 1 := by omega
  have n2 : ¬ 9223372036854775807 < A.size + 1 + B.size := by omega
  have n3 : ¬ 9223372036854775807 < A.size + 1 + B.size + 1 := by omega
  have n4 : ¬ 9223372036854775807 < A.size + 1 + B.size + 1 + C.size := by omega
  refine wp_region_quiet_below (by kernel_rfl) (by kernel_rfl) ?_
  repeat (quiet_step (first | exact q0 _ _ | exact q1 _ _ | exact q2 _ _))
  refine wpQuiet_nil ?_
  intro _ hw'
  obtain ⟨⟨dq, osq⟩, hw''⟩ := hw'
  subst hw''
  go_wp2_with fail
  go_ret
  exact ⟨rfl, grown_trans G.out (below_regrown w1 dq osq)⟩
theorem text_bad (a b c : Int) (w : World) (hg : goodB a b c = false) : Calls Tryz.prog 19 #[.agg #[.int .i64 a, .int .i64 b, .int .i64 c]] w fun e w' => e = .returned (.string ⟨#[]⟩) ∧ Gr w w' := by
  go_enter Tryz.func19, Tryz.ntmps19
  go_wp2_with fail
  refine (good_any a b c _).mono ?_
  rintro e w1 ⟨rfl, g1⟩
  rw [hg]
  clear hg
  go_wp2_with fail
  go_ret
  exact ⟨rfl, grown_trans ((Gr.refl w).alloc _ _) g1⟩
theorem textR_bad (a b c : Int) (w : World) (hg : goodB a b c = false) : Calls Tryz.prog 38 #[.agg #[.int .i64 a, .int .i64 b, .int .i64 c]] w fun e w' => e = .returned (.string ⟨#[]⟩) ∧ Gr w w' := by
  go_enter Tryz.func38, Tryz.ntmps38
  go_wp2_with fail
  refine (goodR_any a b c _).mono ?_
  rintro e w1 ⟨rfl, g1⟩
  rw [hg]
  clear hg
  go_wp2_with fail
  go_ret
  exact ⟨rfl, grown_trans ((Gr.refl w).alloc _ _) g1⟩
/- From the row's condition to the table's fact. -/
end Go.Proofs.YtnipiphhkcafhaaGreatDoor.Ver
namespace Go.Proofs.YtnipiphhkcafhaaGreatDoor.Ver
open Go.RowKit
theorem dec_eq (u : Nat) : Lib.decDigits u = if u < 10 then [UInt8.ofNat (48 + u)] else Lib.decDigits (u / 10) ++ [UInt8.ofNat (48 + u % 10)] := by
  rw [Lib.decDigits]
  split <;> simp_all
theorem dig_nat (d : Nat) (h : d < 10) : (UInt8.ofNat (48 + d)).toNat = 48 + d := by
  rw [UInt8.toNat_ofNat']
  omega
theorem dec_in (u : Nat) : ∀ b ∈ Lib.decDigits u, 48 ≤ b.toNat ∧ b.toNat ≤ 57 := by
  induction u using Nat.strongRecOn with
  | _ u ih =>
    intro b hb
    rw [dec_eq] at hb
    split at hb
    · rename_i h
      have : b = UInt8.ofNat (48 + u) := by simpa using hb
      rw [this, dig_nat u h]
      omega
    · rename_i h
      rcases List.mem_append.1 hb with hb | hb
      · exact ih (u / 10) (by omega) b hb
      · have : b = UInt8.ofNat (48 + u % 10) := by simpa using hb
        rw [this, dig_nat (u % 10) (by omega)]
        omega
def val (l : List UInt8) : Nat := l.foldl (fun n b => n * 10 + (b.toNat - 48)) 0
theorem val_snoc (l : List UInt8) (b : UInt8) : val (l ++ [b]) = val l * 10 + (b.toNat - 48) := by simp [val]
theorem val_dec (u : Nat) : val (Lib.decDigits u) = u := by
  induction u using Nat.strongRecOn with
  | _ u ih =>
    rw [dec_eq]
    split
    · rename_i h
      show (0 * 10 + ((UInt8.ofNat (48 + u)).toNat - 48)) = u
      rw [dig_nat u h]
      omega
    · rename_i h
      rw [val_snoc, ih (u / 10) (by omega), dig_nat (u % 10) (by omega)]
      omega
theorem dec_inj {u v : Nat} (h : Lib.decDigits u = Lib.decDigits v) : u = v := by rw [← val_dec u, ← val_dec v, h]
theorem dec_nodot (u : Nat) : (46 : UInt8) ∉ Lib.decDigits u := fun h => by
  have := (dec_in u 46 h).1
  exact absurd this (by decide)
theorem cut_first {l m r s : List UInt8} {x : UInt8} (hl : x ∉ l) (hm : x ∉ m) (h : l ++ x :: r = m ++ x :: s) : l = m ∧ r = s := by
  induction l generalizing m with
  | nil =>
    cases m with
    | nil => exact ⟨rfl, by simpa using h⟩
    | cons c m => simp at h; exact absurd h.1 (fun e => hm (by simp [e]))
  | cons c l ih =>
    cases m with
    | nil => simp at h; exact absurd h.1.symm (fun e => hl (by simp [e]))
    | cons d m =>
      simp at h
      obtain ⟨rfl, h⟩ := h
      obtain ⟨h1, h2⟩ := ih (fun e => hl (by simp [e])) (fun e => hm (by simp [e])) h
      exact ⟨by rw [h1], h2⟩
theorem it_nat (u : Nat) : (it (u : Int)).data.toList = Lib.decDigits u := by
  show (Lib.itoa (u : Int)).toArray.toList = _
  rw [Lib.itoa_nonneg]
def dotL (a b c : Nat) : List UInt8 := Lib.decDigits a ++ 46 :: (Lib.decDigits b ++ 46 :: Lib.decDigits c)
theorem dot_list (a b c : Nat) : (dot (it a) (it b) (it c)).data.toList = dotL a b c := by
  unfold dot dotL
  simp only [ByteArray.data_append, Array.toList_append, it_nat]
  simp
theorem dotL_inj {a b c x y z : Nat} (h : dotL a b c = dotL x y z) : a = x ∧ b = y ∧ c = z := by
  obtain ⟨h1, h2⟩ := cut_first (dec_nodot a) (dec_nodot x) h
  obtain ⟨h3, h4⟩ := cut_first (dec_nodot b) (dec_nodot y) h2
  exact ⟨dec_inj h1, dec_inj h3, dec_inj h4⟩
theorem dot_ne {a b c x y z : Nat} (h : ¬ (a = x ∧ b = y ∧ c = z)) : ¬ dot (it a) (it b) (it c) = dot (it x) (it y) (it z) := fun e => by
  have := congrArg (fun t => t.data.toList) e
  rw [dot_list, dot_list] at this
  exact h (dotL_inj this)
end Go.Proofs.YtnipiphhkcafhaaGreatDoor.Ver
namespace Go.Proofs.YtnipiphhkcafhaaGreatDoor.Ver
set_option linter.unusedVariables false
open Go.ChangeShapes Go.WideShapes Go.ChangeAt Go.RowKit Go.Sort
def pstep (c : UInt8) (ps : List (List UInt8)) (b : UInt8) : List (List UInt8) := if b = c then ps ++ [[]] else ps.dropLast ++ [ps.getLastD [] ++ [b]]
def pcs (c : UInt8) (l : List UInt8) : List (List UInt8) := l.foldl (pstep c) [[]]
theorem pcs_nil (c : UInt8) : pcs c [] = [[]] := rfl
theorem pcs_snoc (c b : UInt8) (l : List UInt8) : pcs c (l ++ [b]) = pstep c (pcs c l) b := by simp [pcs]
theorem pstep_tail (c b : UInt8) (acc : List (List UInt8)) (p : List UInt8) : pstep c (acc ++ [p]) b = if b = c then acc ++ [p] ++ [[]] else acc ++ [p ++ [b]] := by
  unfold pstep
  split <;> simp
theorem pfold_tail (c : UInt8) (l : List UInt8) : ∀ (acc : List (List UInt8)) (p : List UInt8), l.foldl (pstep c) (acc ++ [p]) = acc ++ l.foldl (pstep c) [p] := by
  induction l with
  | nil => intro acc p; rfl
  | cons b l ih =>
    intro acc p
    simp only [List.foldl_cons]
    rw [pstep_tail]
    have e := pstep_tail c b [] p
    simp only [List.nil_append] at e
    rw [e]
    by_cases h : b = c
    · rw [if_pos h, if_pos h, ih (acc ++ [p]) [], ih [p] []]
      simp
    · rw [if_neg h, if_neg h, ih acc (p ++ [b])]
theorem pfold_free (c : UInt8) (l : List UInt8) (h : c ∉ l) : ∀ (p : List UInt8), l.foldl (pstep c) [p] = [p ++ l] := by
  induction l with
  | nil => intro p; simp
  | cons b l ih =>
    intro p
    have hb : ¬ b = c := fun e => h (by simp [e])
    have e := pstep_tail c b [] p
    simp only [List.nil_append] at e
    simp only [List.foldl_cons]
    rw [e, if_neg hb, ih (fun hm => h (by simp [hm]))]
    simp
theorem pcs_free {c : UInt8} {l : List UInt8} (h : c ∉ l) : pcs c l = [l] := by
  have := pfold_free c l h []
  simpa [pcs] using this
theorem pcs_cut {c : UInt8} {l r : List UInt8} (h : c ∉ l) : pcs c (l ++ c :: r) = l :: pcs c r := by
  unfold pcs
  rw [List.foldl_append, show l.foldl (pstep c) [[]] = [l] from pcs_free h, List.foldl_cons]
  have e := pstep_tail c c [] l
  simp only [List.nil_append] at e
  rw [e, if_pos True.intro, pfold_tail c r [l] []]
  rfl
theorem rev_ind {p : List UInt8 → Prop} (h0 : p []) (h1 : ∀ l b, p l → p (l ++ [b])) (l : List UInt8) : p l := by
  have h : ∀ m : List UInt8, p m.reverse := by
    intro m
    induction m with
    | nil => exact h0
    | cons b m ih => rw [List.reverse_cons]; exact h1 _ _ ih
  have := h l.reverse
  rwa [List.reverse_reverse] at this
theorem pcs_ne (c : UInt8) (l : List UInt8) : ∃ ini q, pcs c l = ini ++ [q] := by
  refine rev_ind (p := fun l => ∃ ini q, pcs c l = ini ++ [q]) ⟨[], [], rfl⟩ (fun l b ih => ?_) l
  rw [pcs_snoc]
  unfold pstep
  split
  · exact ⟨_, _, rfl⟩
  · exact ⟨_, _, rfl⟩
theorem pcs_len (c : UInt8) (l : List UInt8) : (pcs c l).length ≤ l.length + 1 := by
  refine rev_ind (p := fun l => (pcs c l).length ≤ l.length + 1) (by simp [pcs_nil]) (fun l b ih => ?_) l
  rw [pcs_snoc]
  unfold pstep
  split
  · simp; omega
  · simp; omega
theorem pcs_small (c : UInt8) (l : List UInt8) : ∀ p ∈ pcs c l, p.length ≤ l.length := by
  refine rev_ind (p := fun l => ∀ p ∈ pcs c l, p.length ≤ l.length) (by simp [pcs_nil]) (fun l b ih => ?_) l
  rw [pcs_snoc]
  unfold pstep
  intro p hp
  split at hp
  · rcases List.mem_append.1 hp with h | h
    · have := ih p h; simp; omega
    · simp at h; subst h; simp
  · rcases List.mem_append.1 hp with h | h
    · have := ih p (List.dropLast_subset _ h); simp; omega
    · simp at h
      subst h
      obtain ⟨ini, q, e⟩ := pcs_ne c l
      have := ih q (by rw [e]; simp)
      rw [e]
      simp
      omega
def strs (ps : List (List UInt8)) : List Value := ps.map fun p => .string ⟨p.toArray⟩
theorem strs_one (ps : List (List UInt8)) : ∀ u ∈ strs ps, u.oneCell' = true := by
  intro u hu
  obtain ⟨p, _, rfl⟩ := List.mem_map.1 hu
  rfl
theorem strs_len (ps : List (List UInt8)) : (strs ps).length = ps.length := by simp [strs]
/-- A slice of texts that the call has made. -/
def Sl (w0 w : World) (v : Value) (ps : List (List UInt8)) : Prop := w.ownsRow w0.heap.size 9 1 v ps.length (strs ps) ∧ Gr w0 w
theorem gr_grown {w0 w w' : World} {row : Option Nat} (h : Gr w0 w) (hg : w.grownBy w' row) (hr : ∀ k, row = some k → w0.heap.size ≤ k) : Gr w0 w' :=
  ⟨hg.os.trans h.os, hg.tape.trans h.tape, hg.output.trans h.output, Nat.le_trans h.size hg.size, fun k hk => (hg.block k (Nat.lt_of_lt_of_le hk h.size) (fun e => by have := hr k e.symm; omega)).trans (h.block k hk)⟩
theorem Sl.form {w0 w : World} {v : Value} {ps : List (List UInt8)} (h : Sl w0 w v ps) (hn : 0 < ps.length) : ∃ g cap, v = .slice (some ⟨g, 0, none⟩) ps.length cap ∧ w0.heap.size ≤ g ∧ ps.length ≤ cap := by
  rcases h.1.2 with ⟨_, h0⟩ | ⟨g, cap, cur, hv, hb, _, hc, _⟩
  · omega
  · exact ⟨g, cap, hv, hb, hc⟩
theorem info9 : (Tryz.prog.info? 9).map (fun i => (i.zero, i.size, i.bytes)) = some (some (.string ⟨#[]⟩), 1, 16) := by kernel_rfl
theorem take_one_drop (s : ByteArray) (k : Nat) (h : k < s.size) : (s.data.toList.drop k).take (k + 1 - k) = [s[k]] := by
  rw [List.drop_eq_getElem_cons (by simpa using h), show k + 1 - k = 1 by omega]
  rfl
theorem take_more (s : ByteArray) (k : Nat) (h : k < s.size) : s.data.toList.take (k + 1) = s.data.toList.take k ++ [s[k]] := by
  rw [List.take_succ_eq_append_getElem (by simpa using h)]
  rfl
set_option maxHeartbeats 2000000 in
set_option maxRecDepth 10000 in
theorem pieces_any (s : ByteArray) (c : UInt8) (w : World) (hs : s.size ≤ 65536) : Calls Tryz.prog 31 #[.string s, .int .u8 (c.toNat : Int)] w fun e w' => ∃ v, e = .returned v ∧ Sl w w' v (pcs c s.data.toList) := by
  go_enter Tryz.func31, Tryz.ntmps31
  go_wp2_with fail
  go_loopw [5, 6] (fun o i wr => ∃ k : Nat, k ≤ s.size ∧ i = .int .i64 k ∧ Sl w wr o (pcs c (s.data.toList.take k))) (fun _ i _ => s.size - (intOf i).toNat)
  case atStart => exact ⟨0, by omega, rfl, World.ownsRow_lit w #[.string ⟨#[]⟩] 1 (Nat.le_refl _) (by decide) rfl, (Gr.refl _).alloc _ _⟩
  case round =>
    obtain ⟨k, hk, rfl, hsl⟩ := hrel
    by_cases hlt : k < s.size
    · have hlen := pcs_len c (s.data.toList.take k)
      have hlt' : (s.data.toList.take k).length = k := by rw [List.length_take]; have : s.data.toList.length = s.size := by simp; 
                                                          omega
      rw [hlt'] at hlen
      have hmore := take_more s k hlt
      have Hst := Lib.hid (pcs_snoc c s[k] (s.data.toList.take k))
      rw [← hmore] at Hst
      obtain ⟨ini, q, hps⟩ := pcs_ne c (s.data.toList.take k)
      have hq : q.length ≤ k := by
        have := pcs_small c (s.data.toList.take k) q (by rw [hps]; simp)
        rwa [hlt'] at this
      rw [hps] at hsl Hst hlen
      have hpos : 0 < (ini ++ [q]).length := by simp
      obtain ⟨g, cap, rfl, hg, hcap⟩ := hsl.form hpos
      have Hsl := Lib.hid hsl
      clear hsl hmore hlt' hps
      by_cases hc : s[k] = c
      · have hst : pcs c (s.data.toList.take (k + 1)) = (ini ++ [q]) ++ [[]] := by rw [Hst.out, pstep_tail, if_pos hc]
        have Hst2 := Lib.hid hst
        have hd : (((s[k]).toNat : Int) == (c.toNat : Int)) = true := by rw [hc]; simp
        clear hst Hst
        obtain ⟨i0, hi, hz0, hz1, hz2⟩ := info_parts info9
        have Hown := Lib.hid (Hsl.out.1.alloc (.cells #[.string ⟨#[]⟩] 9))
        go_wp2_with (at_builtin; refine wpList_append_own _ rfl _ _ 65 rfl w.heap.size 9 i0 (.string ⟨#[]⟩) 1 16 Tryz.underlying65 hi hz0 hz1 hz2 rfl (by decide) _ _ _ rfl Hown.out ⟨wr.heap.size, 0, none⟩ 1 1 [.string ⟨#[]⟩] rfl ?c0 ?c1 ?c2 ?c3 ?c4 ?c5 ?_)
        case c0 => rfl
        case c1 =>
          intro j u hj
          cases j with
          | zero =>
            have hn := cell_of_row _ wr.heap.size 0 _ 9 (0, 0) (heap_alloc_new wr (.cells #[.string ⟨#[]⟩] 9))
            simp at hj
            subst hj
            exact hn
          | succ j => simp at hj
        case c2 => intro u hu; simp at hu; subst hu; rfl
        case c3 => unfold maxLen; omega
        case c4 => omega
        case c5 => have := Hsl.out.2.size; show w.heap.size ≤ (wr.heap.push _).size; simp; omega
        intro v' w' hown' hgr hnil
        have Hnew := Lib.hid (show Sl w w' v' (pcs c (s.data.toList.take (k + 1))) by
          rw [Hst2.out]
          refine ⟨?_, gr_grown (Hsl.out.2.alloc _ _) hgr (fun k hk => by simp [Value.ownBlock] at hk; omega)⟩
          have e : (ini ++ [q] ++ [[]]).length = ini.length + 1 + 1 := by simp
          rw [e]
          simpa [strs] using hown')
        clear hown' hgr hnil Hown hi hz0 hz1 hz2
        go_wp2_with fail
        go_round
        case rel => exact ⟨k + 1, by omega, by go_num, Hnew.out⟩
        case measure => simp [intOf]; omega
      · have hst : pcs c (s.data.toList.take (k + 1)) = ini ++ [q ++ [s[k]]] := by rw [Hst.out, pstep_tail, if_neg hc]
        have Hst2 := Lib.hid hst
        have hd : (((s[k]).toNat : Int) == (c.toNat : Int)) = false := by
          rw [beq_eq_false_iff_ne]; intro e; exact hc (UInt8.toNat_inj.1 (by omega))
        clear hst Hst
        obtain ⟨Q, hQ⟩ : ∃ Q : ByteArray, ⟨q.toArray⟩ = Q := ⟨_, rfl⟩
        have hQs : ¬ 9223372036854775807 < Q.size + 1 := by
          have : Q.size = q.length := by rw [← hQ]; simp [ByteArray.size]
          omega
        obtain ⟨X, hX⟩ : ∃ X : ByteArray, s.extract k (k + 1) = X := ⟨_, rfl⟩
        have hXl : X.data.toList = [s[k]] := by
          rw [← hX, ByteArray.data_extract, Array.toList_extract, List.extract_eq_take_drop, take_one_drop s k hlt]
        have hXs : X.size = 1 := by
          have := congrArg List.length hXl
          simpa using this
        have c0 : wr.drew.cell? ⟨g, ini.length, none⟩ = some (.string Q) := by
          rw [Hsl.out.1.drew.cellAt ini.length (by simp), ← hQ]
          simp [strs]
        have HQ := Lib.hid hQ
        have HXl := Lib.hid hXl
        have HX := Lib.hid hX
        clear hQ hXl
        have f0 : wr.drew.frozen? ⟨g, ini.length, none⟩ = false := Hsl.out.1.drew.frozenAt ini.length
        have hil : ini.length ≤ k := by simpa using hlen
        have hwr1 : IntKind.i64.wrap ((k : Int) + 1) = (k : Int) + 1 := by rw [IntKind.wrap_i64]; omega
        have hwr2 : IntKind.i64.wrap (ini.length : Int) = (ini.length : Int) := by rw [IntKind.wrap_i64]; omega
        have hb0 : (ini.length : Int) < (ini.length : Int) + 1 := by omega
        have hb1 : (k : Int) + 1 ≤ (s.size : Int) := by omega
        have hb2 : (k : Int) < (s.size : Int) := by omega
        have hb3 : (0 : Int) ≤ (k : Int) + 1 := by omega
        have hb4 : (k : Int) ≤ (k : Int) + 1 := by omega
        go_wp2_with fail
        refine wp_region_still_tail 17 (by kernel_rfl) (by kernel_rfl) ?_
        simp only [List.take_succ_cons, List.take_zero, List.drop_succ_cons, List.drop_zero]
        change wpStill _ _ wr.drew (fun a' => wpList _ _ _ _ a' wr.drew) _ _
        repeat still_step
        refine wpStill_nil ?_
        have Hnew := Lib.hid (show Sl w (wr.drew.setCell ⟨g, ini.length, none⟩ (.string (Q ++ X))) (.slice (some ⟨g, 0, none⟩) (ini.length + 1) cap) (pcs c (s.data.toList.take (k + 1))) by
          have hown := Hsl.out.1.drew
          have e0 : (ini ++ [q]).length = ini.length + 1 := by simp
          rw [e0] at hown
          obtain ⟨h1, h2⟩ := hown.stored ini.length (.string (Q ++ X))
          rw [Hst2.out]
          refine ⟨?_, gr_grown Hsl.out.2.drew h2 (fun k hk => by simp at hk; omega)⟩
          have e1 : (ini ++ [q ++ [s[k]]]).length = ini.length + 1 := by simp
          rw [e1]
          have e2 : (Q ++ X : ByteArray) = ⟨(q ++ [s[k]]).toArray⟩ := by
            apply ByteArray.ext
            apply Array.ext'
            rw [ByteArray.data_append, Array.toList_append, HXl.out, ← HQ.out]
          have e3 : (strs (ini ++ [q])).set ini.length (.string (Q ++ X)) = strs (ini ++ [q ++ [s[k]]]) := by
            rw [e2]; simp [strs]
          rwa [e3] at h1)
        go_wp2_with fail
        go_round
        case rel => exact ⟨k + 1, by omega, by go_num, Hnew.out⟩
        case measure => simp [intOf]; omega
    · obtain rfl : k = s.size := by omega
      have hall : s.data.toList.take s.size = s.data.toList := List.take_of_length_le (by simp)
      rw [hall] at hsl
      have Hsl := Lib.hid hsl
      clear hsl hall
      go_wp2_with fail
      go_ret
      exact ⟨_, rfl, Hsl.out⟩
end Go.Proofs.YtnipiphhkcafhaaGreatDoor.Ver
namespace Go.Proofs.YtnipiphhkcafhaaGreatDoor.Ver
set_option linter.unusedVariables false
open Go.RowKit
theorem index_pre {c : UInt8} {l r : List UInt8} (h : c ∉ l) : Lib.index (l ++ c :: r) [c] = (l.length : Int) := by
  induction l with
  | nil => simp [Lib.index, List.isPrefixOf]
  | cons b l ih =>
    have hb : ¬ c = b := fun e => h (by simp [e])
    have hi := ih (fun e => h (by simp [e]))
    rw [List.cons_append, Lib.index, hi]
    have hp : ([c] : List UInt8).isPrefixOf (b :: (l ++ c :: r)) = false := by simp [List.isPrefixOf, hb]
    rw [hp]
    have : ((l.length : Int) == -1) = false := by rw [beq_eq_false_iff_ne]; omega
    simp [this]
theorem index_not {c : UInt8} {l : List UInt8} (h : c ∉ l) : Lib.index l [c] = -1 := by
  induction l with
  | nil => simp [Lib.index]
  | cons b l ih =>
    have hb : ¬ c = b := fun e => h (by simp [e])
    rw [Lib.index, ih (fun e => h (by simp [e]))]
    have hp : ([c] : List UInt8).isPrefixOf (b :: l) = false := by simp [List.isPrefixOf, hb]
    rw [hp]
    rfl
theorem first_split {c : UInt8} {l : List UInt8} (h : c ∈ l) : ∃ p r, l = p ++ c :: r ∧ c ∉ p := by
  induction l with
  | nil => cases h
  | cons b l ih =>
    by_cases hb : b = c
    · exact ⟨[], l, by simp [hb], by simp⟩
    · obtain ⟨p, r, e, hp⟩ := ih (by rcases List.mem_cons.1 h with e | e; · exact absurd e.symm hb
                                     · exact e)
      exact ⟨b :: p, r, by rw [e]; rfl, by simp [hp, Ne.symm hb]⟩
theorem split_pcs (c : UInt8) : ∀ (n : Nat) (l : List UInt8), l.length ≤ n → Lib.splitK [c] 0 (Lib.count l [c]) l = pcs c l ∧ (pcs c l).length = Lib.count l [c] + 1 := by
  intro n
  induction n with
  | zero =>
    intro l hl
    have : l = [] := List.eq_nil_of_length_eq_zero (by omega)
    subst this
    rw [Lib.count_miss (index_not (by simp))]
    exact ⟨rfl, rfl⟩
  | succ n ih =>
    intro l hl
    by_cases h : c ∈ l
    · obtain ⟨p, r, rfl, hp⟩ := first_split h
      have hi := index_pre (r := r) hp
      have hd : (p ++ c :: r).drop (p.length + [c].length) = r := by
        rw [← List.drop_drop, List.drop_left]
        rfl
      have hc := Lib.count_hit (sub := [c]) (by simp) hi
      rw [hd] at hc
      obtain ⟨e1, e2⟩ := ih r (by simp at hl; omega)
      rw [hc, pcs_cut hp, Nat.add_comm 1]
      constructor
      · rw [Lib.splitK, hi]
        have : ((p.length : Int) == -1) = false := by rw [beq_eq_false_iff_ne]; omega
        rw [this]
        simp only [Bool.false_eq_true, if_false, Int.toNat_natCast, Nat.add_zero]
        rw [hd, e1, List.take_left']
        rfl
      · rw [List.length_cons, e2]
    · rw [Lib.count_miss (index_not h), pcs_free h]
      exact ⟨rfl, rfl⟩
theorem pcs_one {c : UInt8} {l q : List UInt8} (h : pcs c l = [q]) : l = q ∧ c ∉ l := by
  by_cases hm : c ∈ l
  · obtain ⟨p, r, rfl, hp⟩ := first_split hm
    rw [pcs_cut hp] at h
    obtain ⟨ini, z, e⟩ := pcs_ne c r
    rw [e] at h
    simp at h
  · rw [pcs_free hm] at h
    exact ⟨by simpa using h, hm⟩
theorem pcs_more {c : UInt8} {l q : List UInt8} {qs : List (List UInt8)} (h : pcs c l = q :: qs) (hq : qs ≠ []) : ∃ r, l = q ++ c :: r ∧ pcs c r = qs ∧ c ∉ q := by
  by_cases hm : c ∈ l
  · obtain ⟨p, r, rfl, hp⟩ := first_split hm
    rw [pcs_cut hp] at h
    simp at h
    exact ⟨r, by rw [h.1], h.2, by rw [← h.1]; exact hp⟩
  · rw [pcs_free hm] at h
    simp at h
    exact absurd h.2 hq
theorem pcs_three {c : UInt8} {l p q r : List UInt8} (h : pcs c l = [p, q, r]) : l = p ++ c :: (q ++ c :: r) := by
  obtain ⟨l1, rfl, h1, _⟩ := pcs_more h (by simp)
  obtain ⟨l2, rfl, h2, _⟩ := pcs_more h1 (by simp)
  rw [(pcs_one h2).1]
/- a part's digits -/
def okP (l : List UInt8) : Bool := !l.isEmpty && decide (l.length ≤ 3) && l.all (fun b => decide (48 ≤ b.toNat ∧ b.toNat ≤ 57)) && (decide (l.head? ≠ some 48) || decide (l.length = 1))
theorem okP_dec (u : Nat) (h : u < 1000) : okP (Lib.decDigits u) = true := by
  have h1 : ∀ b ∈ Lib.decDigits u, 48 ≤ b.toNat ∧ b.toNat ≤ 57 := dec_in u
  have hall : (Lib.decDigits u).all (fun b => decide (48 ≤ b.toNat ∧ b.toNat ≤ 57)) = true := by
    rw [List.all_eq_true]; intro b hb; simpa using h1 b hb
  unfold okP
  rw [hall]
  by_cases h10 : u < 10
  · rw [dec_eq, if_pos h10]; simp
  · have hx : ∀ d, 1 ≤ d → d < 10 → ¬ UInt8.ofNat d = 0 := fun d hd1 hd2 e => by
      have := congrArg UInt8.toNat e
      rw [UInt8.toNat_ofNat'] at this
      have h0 : (0 : UInt8).toNat = 0 := rfl
      omega
    by_cases h100 : u < 100
    · rw [dec_eq, if_neg h10, dec_eq, if_pos (by omega)]
      simp [hx (u / 10) (by omega) (by omega)]
    · rw [dec_eq, if_neg h10, dec_eq, if_neg (by omega), dec_eq, if_pos (by omega)]
      simp [hx (u / 10 / 10) (by omega) (by omega)]
theorem okP_parts {l : List UInt8} (h : okP l = true) : l ≠ [] ∧ l.length ≤ 3 ∧ (∀ b ∈ l, 48 ≤ b.toNat ∧ b.toNat ≤ 57) ∧ (l.head? = some 48 → l.length = 1) := by
  unfold okP at h
  simp only [Bool.and_eq_true, Bool.or_eq_true, decide_eq_true_eq, Bool.not_eq_true', List.isEmpty_eq_false_iff, List.all_eq_true] at h
  obtain ⟨⟨⟨h1, h2⟩, h3⟩, h4⟩ := h
  exact ⟨h1, h2, h3, fun e => by rcases h4 with h4 | h4; · exact absurd e h4
                                 · exact h4⟩
theorem dig_back (b : UInt8) (h : 48 ≤ b.toNat ∧ b.toNat ≤ 57) : UInt8.ofNat (48 + (b.toNat - 48)) = b := by
  apply UInt8.toNat_inj.1
  rw [dig_nat _ (by omega)]
  omega
theorem okP_back {l : List UInt8} (h : okP l = true) : Lib.decDigits (val l) = l ∧ val l < 1000 := by
  obtain ⟨h1, h2, h3, h4⟩ := okP_parts h
  match l, h1, h2, h3, h4 with
  | [a], _, _, h3, _ =>
    have ha := h3 a (by simp)
    have e : val [a] = a.toNat - 48 := by simp [val]
    rw [e, dec_eq, if_pos (by omega), dig_back a ha]
    exact ⟨rfl, by omega⟩
  | [a, b], _, _, h3, h4 =>
    have ha := h3 a (by simp)
    have hb := h3 b (by simp)
    have hn : ¬ a.toNat = 48 := fun e => by
      have : a = 48 := UInt8.toNat_inj.1 e
      have := h4 (by simp [this])
      simp at this
    have e : val [a, b] = (a.toNat - 48) * 10 + (b.toNat - 48) := by simp [val]
    rw [e, dec_eq, if_neg (by omega), dec_eq, if_pos (by omega)]
    have e1 : ((a.toNat - 48) * 10 + (b.toNat - 48)) / 10 = a.toNat - 48 := by omega
    have e2 : ((a.toNat - 48) * 10 + (b.toNat - 48)) % 10 = b.toNat - 48 := by omega
    rw [e1, e2, dig_back a ha, dig_back b hb]
    exact ⟨rfl, by omega⟩
  | [a, b, c], _, _, h3, h4 =>
    have ha := h3 a (by simp)
    have hb := h3 b (by simp)
    have hc := h3 c (by simp)
    have hn : ¬ a.toNat = 48 := fun e => by
      have : a = 48 := UInt8.toNat_inj.1 e
      have := h4 (by simp [this])
      simp at this
    have e : val [a, b, c] = ((a.toNat - 48) * 10 + (b.toNat - 48)) * 10 + (c.toNat - 48) := by simp [val]
    rw [e, dec_eq, if_neg (by omega), dec_eq, if_neg (by omega), dec_eq, if_pos (by omega)]
    have e1 : (((a.toNat - 48) * 10 + (b.toNat - 48)) * 10 + (c.toNat - 48)) / 10 / 10 = a.toNat - 48 := by omega
    have e2 : (((a.toNat - 48) * 10 + (b.toNat - 48)) * 10 + (c.toNat - 48)) / 10 % 10 = b.toNat - 48 := by omega
    have e3 : (((a.toNat - 48) * 10 + (b.toNat - 48)) * 10 + (c.toNat - 48)) % 10 = c.toNat - 48 := by omega
    rw [e1, e2, e3, dig_back a ha, dig_back b hb, dig_back c hc]
    exact ⟨rfl, by omega⟩
theorem atoi_dec : ∀ u : Fin 1000, Lib.atoi (Lib.decDigits u.val) = some (u.val : Int) := by decide +kernel
/-- What the program's own reader of digits says. -/
def digR (l : List UInt8) : Option Int := match Lib.atoi l with | none => none | some n => if Lib.itoa n = l then some n else none
theorem digR_ok {l : List UInt8} (h : okP l = true) : digR l = some (val l : Int) := by
  obtain ⟨h1, h2⟩ := okP_back h
  have := atoi_dec ⟨val l, h2⟩
  simp only at this
  unfold digR
  rw [h1] at this
  rw [this]
  simp only
  rw [Lib.itoa_nonneg, h1, if_pos rfl]
theorem digR_in {l : List UInt8} {n : Int} (h : digR l = some n) (h0 : 0 ≤ n) (h1 : n ≤ 999) : okP l = true := by
  unfold digR at h
  cases ha : Lib.atoi l with
  | none => rw [ha] at h; cases h
  | some m =>
    rw [ha] at h
    simp only at h
    split at h
    · rename_i e
      cases h
      obtain ⟨u, rfl⟩ := Int.eq_ofNat_of_zero_le h0
      rw [Lib.itoa_nonneg] at e
      rw [← e]
      exact okP_dec u (by omega)
    · cases h
/-- The version that a text is. -/
def verL (l : List UInt8) : Option (Nat × Nat × Nat) := match pcs 46 l with
  | [p, q, r] => if okP p && (okP q && okP r) then some (val p, val q, val r) else none
  | _ => none
theorem verL_some {l : List UInt8} {a b c : Nat} (h : verL l = some (a, b, c)) : ∃ p q r, pcs 46 l = [p, q, r] ∧ okP p = true ∧ okP q = true ∧ okP r = true ∧ a = val p ∧ b = val q ∧ c = val r := by
  unfold verL at h
  split at h
  · rename_i p q r e
    split at h
    · rename_i hk
      simp only [Bool.and_eq_true] at hk
      simp only [Option.some.injEq, Prod.mk.injEq] at h
      exact ⟨p, q, r, e, hk.1, hk.2.1, hk.2.2, h.1.symm, h.2.1.symm, h.2.2.symm⟩
    · cases h
  · cases h
theorem verL_text {l : List UInt8} {a b c : Nat} (h : verL l = some (a, b, c)) : dotL a b c = l ∧ a < 1000 ∧ b < 1000 ∧ c < 1000 := by
  obtain ⟨p, q, r, e, h1, h2, h3, rfl, rfl, rfl⟩ := verL_some h
  unfold dotL
  rw [(okP_back h1).1, (okP_back h2).1, (okP_back h3).1, pcs_three e]
  exact ⟨rfl, (okP_back h1).2, (okP_back h2).2, (okP_back h3).2⟩
theorem verL_dot {a b c : Nat} (h1 : a < 1000) (h2 : b < 1000) (h3 : c < 1000) : verL (dotL a b c) = some (a, b, c) := by
  unfold verL dotL
  rw [pcs_cut (dec_nodot a), pcs_cut (dec_nodot b), pcs_free (dec_nodot c)]
  simp only
  rw [okP_dec a h1, okP_dec b h2, okP_dec c h3, val_dec, val_dec, val_dec]
  rfl
end Go.Proofs.YtnipiphhkcafhaaGreatDoor.Ver
