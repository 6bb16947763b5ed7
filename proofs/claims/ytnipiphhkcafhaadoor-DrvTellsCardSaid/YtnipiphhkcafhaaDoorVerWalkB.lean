/- The contracts of the digits' reading and of the statements' own guard. Condition: the library's own variable holds some number. -/
import Derived.Test.YtnipiphhkcafhaaDoorVerWalkA
import Derived.Test.YtnipiphhkcafhaaDoorShelf
import Derived.Lib.SmallJoins
import Derived.LoopN
namespace Go.Proofs.YtnipiphhkcafhaaDoor.Ver
set_option linter.unusedVariables false
open Go.ChangeShapes Go.WideShapes Go.ChangeAt Go.RowKit
theorem atoi_gr (s : ByteArray) (n : Int) (hl : s.size ≤ 18) (h : Lib.atoi s.data.toList = some n) (w : World) :
    Calls Tryd.prog 78 #[.string s] w fun e w' => e = .returned (.tuple #[.int .i64 n, .nilIface]) ∧ Gr w w' :=
  (Tryd.strconv_Atoi s n hl h w).mono fun e w' ⟨h1, t, h2⟩ => ⟨h1, by rw [h2]; exact Joins.below_bytesWorld _ _ _ _ (Nat.le_refl _)⟩
def Digits (n : Int) (b : Bool) (w : World) (e : Ending) (w' : World) : Prop := e = .returned (.tuple #[.int .i64 n, .bool b]) ∧ Gr w w'
set_option maxHeartbeats 1000000 in
theorem digits_ok (s : ByteArray) (n : Nat) (w : World) (hl : s.size ≤ 18) (h : Lib.atoi s.data.toList = some (n : Int)) (hn : n < 100) (hd : Lib.decDigits n = s.data.toList) :
    Calls Tryd.prog 70 #[.string s] w (Digits n true w) := by
  have hx : (ByteArray.mk (Lib.decDigits n).toArray) = s := by rw [hd]
  have Hx := Lib.hid hx
  clear hx hd
  go_enter Tryd.func70, Tryd.ntmps70
  go_wp2_with fail
  refine (atoi_gr s n hl h w).mono ?_
  rintro e w1 ⟨rfl, hg⟩
  go_wp2_with fail
  refine (Tryd.strconv_Itoa_small n hn _).mono ?_
  rintro e w2 ⟨rfl, rfl⟩
  rw [Hx.out]
  go_wp2_with fail
  go_ret2
  exact ⟨rfl, hg⟩
set_option maxHeartbeats 1000000 in
theorem digits_bad (s : ByteArray) (n : Nat) (w : World) (hl : s.size ≤ 18) (h : Lib.atoi s.data.toList = some (n : Int)) (hn : n < 100) (hd : ¬ Lib.decDigits n = s.data.toList) :
    Calls Tryd.prog 70 #[.string s] w (Digits 0 false w) := by
  have hx : (!Lib.decDigits n == s.toList) = true := by rw [Lib.toList_data]; simp [hd]
  clear hd
  go_enter Tryd.func70, Tryd.ntmps70
  go_wp2_with fail
  refine (atoi_gr s n hl h w).mono ?_
  rintro e w1 ⟨rfl, hg⟩
  go_wp2_with fail
  refine (Tryd.strconv_Itoa_small n hn _).mono ?_
  rintro e w2 ⟨rfl, rfl⟩
  go_wp2_with fail
  go_ret2
  exact ⟨rfl, hg⟩
def Sp (ps : List ByteArray) (w : World) (e : Ending) (w' : World) : Prop := e = .returned (.slice (some ⟨w.heap.size, 0, none⟩) ps.length ps.length) ∧ w' = w.alloc (.cells (ps.map Value.string).toArray 9)
theorem split_eq (s : ByteArray) (ps : List ByteArray) (m : Int) (w : World) (hs : s.size < 4294967281) (hm : w.cell? ⟨1, 0, none⟩ = some (.int .i64 m)) (h1 : Lib.countB s ⟨#[46]⟩ + 1 = ps.length) (h2 : Lib.splitB ⟨#[46]⟩ 0 (Lib.countB s ⟨#[46]⟩) s = ps) :
    Calls Tryd.prog 69 #[.string s, .string ⟨#[46]⟩] w (Sp ps w) :=
  (Tryd.strings_Split s ⟨#[46]⟩ m w hs hm (by decide)).mono fun e w' ⟨q1, q2⟩ => ⟨by rw [q1, h1], by rw [q2, h2]⟩
theorem Gr.heap {a b : World} (h : Gr a b) {k : Nat} {o : Obj} (hk : a.heap[k]? = some o) : b.heap[k]? = some o := (h.block k (lt_of_block hk)).trans hk
theorem three (w : World) (x y z : Obj) : (((w.alloc x).alloc y).alloc z).heap[w.heap.size]? = some x ∧ (((w.alloc x).alloc y).alloc z).heap[w.heap.size + 1]? = some y ∧ (((w.alloc x).alloc y).alloc z).heap[w.heap.size + 1 + 1]? = some z := by
  have s1 : (w.alloc x).heap.size = w.heap.size + 1 := by show (w.heap.push _).size = _; simp
  have s2 : ((w.alloc x).alloc y).heap.size = w.heap.size + 1 + 1 := by show ((w.alloc x).heap.push _).size = _; rw [Array.size_push, s1]
  refine ⟨?_, ?_, ?_⟩
  · rw [Below.heap_alloc _ _ _ (by omega), Below.heap_alloc _ _ _ (by omega)]; exact heap_alloc_new w x
  · rw [Below.heap_alloc _ _ _ (by omega), ← s1]; exact heap_alloc_new _ y
  · rw [← s2]; exact heap_alloc_new _ z
theorem fz {w : World} {b : Nat} {cs : Array Value} {t : TypeId} (h : w.heap[b]? = some (.cells cs t (0, 0))) : ∀ i, w.frozen? ⟨b, i, none⟩ = false := by
  intro i; simp [World.frozen?, h]
theorem heap_set {w : World} {b i : Nat} {cs : Array Value} {t : TypeId} (h : w.heap[b]? = some (.cells cs t (0, 0))) (u : Value) :
    (w.setCell ⟨b, i, none⟩ u).heap[b]? = some (.cells (cs.setIfInBounds i u) t (0, 0)) := by
  have hlt := lt_of_block h
  have h' : w.heap[b] = .cells cs t (0, 0) := by simpa [Array.getElem?_eq_getElem hlt] using h
  show (w.heap.modify b _)[b]? = _
  rw [Array.getElem?_eq_getElem (by simpa using hlt), Array.getElem_modify_self, h']
  rfl
theorem set3_0 {w : World} {b : Nat} {x0 x1 x2 : Value} {t : TypeId} (h : w.heap[b]? = some (.cells #[x0, x1, x2] t (0, 0))) (u : Value) :
    (w.setCell ⟨b, 0, none⟩ u).heap[b]? = some (.cells #[u, x1, x2] t (0, 0)) := heap_set h u
theorem set3_1 {w : World} {b : Nat} {x0 x1 x2 : Value} {t : TypeId} (h : w.heap[b]? = some (.cells #[x0, x1, x2] t (0, 0))) (u : Value) :
    (w.setCell ⟨b, 1, none⟩ u).heap[b]? = some (.cells #[x0, u, x2] t (0, 0)) := heap_set h u
theorem set3_2 {w : World} {b : Nat} {x0 x1 x2 : Value} {t : TypeId} (h : w.heap[b]? = some (.cells #[x0, x1, x2] t (0, 0))) (u : Value) :
    (w.setCell ⟨b, 2, none⟩ u).heap[b]? = some (.cells #[x0, x1, u] t (0, 0)) := heap_set h u
theorem set3_other {w : World} {b c i : Nat} {o : Obj} (h : w.heap[b]? = some o) (hne : b ≠ c) (u : Value) : (w.setCell ⟨c, i, none⟩ u).heap[b]? = some o := by
  rw [Below.heap_setCell _ _ _ _ hne]; exact h
theorem Gr.set {a w : World} (h : Gr a w) {b i : Nat} (hb : a.heap.size ≤ b) (u : Value) : Gr a (w.setCell ⟨b, i, none⟩ u) := Below.setCell h (p := ⟨b, i, none⟩) hb u
structure V (w w' : World) (x y z : Int) : Prop where
  a : w'.heap[w.heap.size]? = some (.cells #[.int .i64 0, .int .i64 0, .int .i64 0] 23 (0, 0))
  b : w'.heap[w.heap.size + 1]? = some (.cells #[.int .i64 x, .int .i64 y, .int .i64 z] 23 (0, 0))
  c : w'.heap[w.heap.size + 1 + 1]? = some (.cells #[.string { data := #[49] }, .string { data := #[50, 48] }, .string { data := #[51] }] 9 (0, 0))
  g : Gr w w'
theorem V.gr {w w1 w2 : World} {x y z : Int} (h : V w w1 x y z) (g : Gr w1 w2) : V w w2 x y z := ⟨g.heap h.a, g.heap h.b, g.heap h.c, grown_trans h.g g⟩
theorem V.s0 {w w1 : World} {x y z : Int} (h : V w w1 x y z) (u : Int) : V w (w1.setCell ⟨w.heap.size + 1, 0, none⟩ (.int .i64 u)) u y z :=
  ⟨set3_other h.a (by omega) _, set3_0 h.b _, set3_other h.c (by omega) _, h.g.set (by omega) _⟩
theorem V.s1 {w w1 : World} {x y z : Int} (h : V w w1 x y z) (u : Int) : V w (w1.setCell ⟨w.heap.size + 1, 1, none⟩ (.int .i64 u)) x u z :=
  ⟨set3_other h.a (by omega) _, set3_1 h.b _, set3_other h.c (by omega) _, h.g.set (by omega) _⟩
theorem V.s2 {w w1 : World} {x y z : Int} (h : V w w1 x y z) (u : Int) : V w (w1.setCell ⟨w.heap.size + 1, 2, none⟩ (.int .i64 u)) x y u :=
  ⟨set3_other h.a (by omega) _, set3_2 h.b _, set3_other h.c (by omega) _, h.g.set (by omega) _⟩
theorem V.cells {w w' : World} {x y z : Int} (h : V w w' x y z) : w'.cell? ⟨w.heap.size + 1, 0, none⟩ = some (.int .i64 x) ∧ w'.cell? ⟨w.heap.size + 1, 1, none⟩ = some (.int .i64 y) ∧ w'.cell? ⟨w.heap.size + 1, 2, none⟩ = some (.int .i64 z) :=
  ⟨by rw [cell_of_row w' _ 0 _ 23 (0, 0) h.b]; rfl, by rw [cell_of_row w' _ 1 _ 23 (0, 0) h.b]; rfl, by rw [cell_of_row w' _ 2 _ 23 (0, 0) h.b]; rfl⟩
theorem V.parts {w w' : World} {x y z : Int} (h : V w w' x y z) : w'.cell? ⟨w.heap.size + 1 + 1, 0, none⟩ = some (.string { data := #[49] }) ∧ w'.cell? ⟨w.heap.size + 1 + 1, 1, none⟩ = some (.string { data := #[50, 48] }) ∧ w'.cell? ⟨w.heap.size + 1 + 1, 2, none⟩ = some (.string { data := #[51] }) :=
  ⟨by rw [cell_of_row w' _ 0 _ 9 (0, 0) h.c]; rfl, by rw [cell_of_row w' _ 1 _ 9 (0, 0) h.c]; rfl, by rw [cell_of_row w' _ 2 _ 9 (0, 0) h.c]; rfl⟩
theorem V.outs {w w' : World} {x y z : Int} (h : V w w' x y z) : w'.cell? ⟨w.heap.size, 0, none⟩ = some (.int .i64 0) ∧ w'.cell? ⟨w.heap.size, 1, none⟩ = some (.int .i64 0) ∧ w'.cell? ⟨w.heap.size, 2, none⟩ = some (.int .i64 0) :=
  ⟨by rw [cell_of_row w' _ 0 _ 23 (0, 0) h.a]; rfl, by rw [cell_of_row w' _ 1 _ 23 (0, 0) h.a]; rfl, by rw [cell_of_row w' _ 2 _ 23 (0, 0) h.a]; rfl⟩
end Go.Proofs.YtnipiphhkcafhaaDoor.Ver
