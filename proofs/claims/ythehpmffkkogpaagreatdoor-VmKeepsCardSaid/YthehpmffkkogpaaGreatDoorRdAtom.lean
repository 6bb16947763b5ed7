/- The contract of the reader's atom. Condition: at most 2^20 bytes; the library's variables. -/
import Derived.Test.YthehpmffkkogpaaGreatDoorNdLib
import Derived.Test.YthehpmffkkogpaaGreatDoorNdCopies
import Derived.Test.YthehpmffkkogpaaGreatDoorApp
namespace Go.Proofs.YthehpmffkkogpaaGreatDoor
set_option linter.unusedVariables false
open Go.ChangeShapes Go.WideShapes Go.ChangeAt Go.RowKit
/- the reader at block b has these bytes before it -/
def OneB (b : Nat) : Nat → Prop := fun k => k = b
def nodeZ : Value := .agg #[.bool false, .string ⟨#[]⟩, .slice none 0 0]
/- what is new -/
def NewB (w w' : World) : Nat → Prop := fun x => w.heap.size ≤ x ∧ x < w'.heap.size
/- new since lo, and no cell of it frozen -/
def Nw (lo : Nat) (w : World) (x : Nat) : Prop := (lo ≤ x ∧ x < w.heap.size) ∧ ∀ j, w.frozen? ⟨x, j, none⟩ = false
theorem Nw.keep {lo : Nat} {w w' : World} {T : Nat → Prop} {x : Nat} (h : Nw lo w x) (hc : Chg T w w') (hx : ¬ T x) : Nw lo w' x :=
  ⟨⟨h.1.1, Nat.lt_of_lt_of_le h.1.2 hc.size⟩, fun j => (World.frozen?_of_block (w := w) (a := ⟨x, j, none⟩) (hc.block x h.1.2 hx)).trans (h.2 j)⟩
theorem Nw.le {lo N : Nat} {w : World} {x : Nat} (h : Nw N w x) (hl : lo ≤ N) : Nw lo w x := ⟨⟨Nat.le_trans hl h.1.1, h.1.2⟩, h.2⟩
def NewZ (w w' : World) : Nat → Prop := Nw w.heap.size w'
/- what a reading answers -/
theorem tx_drop (s : List UInt8) (n : Nat) : (tx s).extract n (tx s).size = tx (s.drop n) := by
  rw [Lib.extract_eq, tx_list, tx_size, List.take_of_length_le (by rw [List.length_drop]; omega)]
  rfl
theorem tx_take (s : List UInt8) (n : Nat) : (tx s).extract 0 n = tx (s.take n) := by
  rw [Lib.extract_eq, tx_list]
  simp [tx]
theorem atomNew (w : World) (a : List UInt8) (ha : a.length ≤ maxLen) (S : Nat → Prop) : NdV w S (.agg #[.bool true, .string (tx a), .slice none 0 0]) (.mk true ⟨a.toArray⟩ []) :=
  ⟨by show (tx a).size ≤ _; rw [tx_size]; exact ha, _, 0, 0, rfl, NdS.nil _ _⟩
/- a result in a box -/
theorem box3 {w : World} {b : Nat} {x0 x1 x2 : Value} {t : TypeId} (h : w.heap[b]? = some (.cells #[x0, x1, x2] t (0, 0))) (u0 u1 u2 : Value) :
    (((w.setCell ⟨b, 0, none⟩ u0).setCell ⟨b, 1, none⟩ u1).setCell ⟨b, 2, none⟩ u2).heap[b]? = some (.cells #[u0, u1, u2] t (0, 0)) :=
  heap_set (heap_set (heap_set h u0) u1) u2
theorem box3_chg {S : Nat → Prop} {a w : World} {b : Nat} (h : Chg S a w) (hb : a.heap.size ≤ b) (u0 u1 u2 : Value) : Chg S a (((w.setCell ⟨b, 0, none⟩ u0).setCell ⟨b, 1, none⟩ u1).setCell ⟨b, 2, none⟩ u2) :=
  ((h.setCell (p := ⟨b, 0, none⟩) (.inr hb) u0).setCell (p := ⟨b, 1, none⟩) (.inr hb) u1).setCell (p := ⟨b, 2, none⟩) (.inr hb) u2
theorem row_free {w : World} {b : Nat} {cs : Array Value} {t : TypeId} (h : w.heap[b]? = some (.cells cs t (0, 0))) : ∀ j, w.frozen? ⟨b, j, none⟩ = false := fun j => by simp [World.frozen?, h]
def atR (s : List UInt8) : Except Int (Nd × List UInt8) := match atomL s with
  | none => .error 5
  | some (a, r) => .ok (.mk true ⟨a.toArray⟩ [], r)
theorem atR_cut {s : List UInt8} (h : cutC 58 s = none) : atR s = .error 5 := by
  unfold atR atomL
  rw [h]
theorem atR_num {s c r : List UInt8} (h : cutC 58 s = some (c, r)) (hn : ∀ n : Nat, numL c = some n → r.length < n) : atR s = .error 5 := by
  unfold atR atomL
  rw [h]
  simp only
  cases hc : numL c with
  | none => rfl
  | some n =>
    simp only
    rw [if_pos (hn n hc)]
theorem atR_ok {s c r : List UInt8} {n : Nat} (h : cutC 58 s = some (c, r)) (hn : numL c = some n) (hl : n ≤ r.length) : atR s = .ok (.mk true ⟨(r.take n).toArray⟩ [], r.drop n) := by
  unfold atR atomL
  rw [h]
  simp only
  rw [hn]
  simp only
  rw [if_neg (by omega)]
theorem cut_len {c : UInt8} {l p r : List UInt8} (h : cutC c l = some (p, r)) : p.length ≤ l.length ∧ r.length ≤ l.length := by
  obtain ⟨rfl, _⟩ := cutC_some.1 h
  simp only [List.length_append, List.length_cons]
  omega
end Go.Proofs.YthehpmffkkogpaaGreatDoor
