/- The contracts of the document's room, Put and Encode, and of the program's Encode. Condition: at most 2^20 nodes and bytes; the library's variables. -/
import Derived.Test.YthehpmffkkogpaaGreatDoorWrNode
namespace Go.Proofs.YthehpmffkkogpaaGreatDoor
set_option linter.unusedVariables false
open Go.ChangeShapes Go.WideShapes Go.ChangeAt Go.RowKit
theorem Own.app {w' : World} {base : Nat} {v' : Value} {xs ys : List UInt8} {n m : Nat} {us : List Value} (hn : n = xs.length) (hm : m = ys.length) (hu : us = bytesV ys) (h : w'.ownsRow base 5 1 v' (n + m) (bytesV xs ++ us)) : Own w' base v' (xs ++ ys) := by
  subst hn hm hu
  unfold Own
  rw [bytesV_append, List.length_append]
  exact h
theorem lit_one (w : World) (c : Int) : ∀ (j : Nat) (u : Value), [Value.int .u8 c][j]? = some u → (w.alloc (.cells #[.int .u8 c] 5)).cell? ((⟨w.heap.size, 0, none⟩ : Addr).add j) = some u := by
  intro j u hj
  match j, hj with
  | 0, hj =>
    simp only [List.getElem?_cons_zero, Option.some.injEq] at hj
    subst hj
    have := cell_of_row (w.alloc (.cells #[.int .u8 c] 5)) w.heap.size 0 _ 5 (0, 0) (heap_alloc_new w _)
    simp [Addr.add]
theorem one_u8 (c : Int) : ∀ u ∈ [Value.int .u8 c], u.oneCell' = true := by
  intro u hu
  simp only [List.mem_singleton] at hu
  subst hu
  rfl
theorem AbB.grown {w w' : World} {base : Nat} {v : Value} {xs : List UInt8} (ho : Own w base v xs) (hg : w.grownBy w' v.ownBlock) : Chg (AbB base) w w' := (Chg.refl (AbB base) w).grown hg fun k hk => .inl (ho.lt k hk).1
theorem Own.keepB {w w' : World} {base : Nat} {v : Value} {xs : List UInt8} (h : Own w base v xs) (hc : Chg NoB w w') : Own w' base v xs := h.chg hc fun _ _ => id
/- one byte of a literal behind own bytes: what the walk has then -/
/- what a writing of the document's answers -/
theorem room_far {xs : List UInt8} {a : ByteArray} (h : 65536 < a.size) : room (xs ++ atomB a.data.toList) = .error 3 := by
  unfold room
  have : a.data.toList.length = a.size := by simp
  rw [if_pos]
  unfold atomB
  simp; omega
/- under way among the kids: the first k are written, or one of them has been refused -/
def LpSt (base : Nat) (R : Except Int (List UInt8)) (ks : List Nd) (d k : Nat) (v : Value) (y : Int) (w : World) : Prop :=
  (y = 0 ∧ ∃ ys, Own w base v ys ∧ ys.length ≤ 65536 ∧ putL (ks.drop k) (d + 1) ys = R) ∨ (0 < y ∧ y < 10 ∧ R = .error y)
def openR (ks : List Nd) (d : Nat) (xs : List UInt8) : Except Int (List UInt8) := match room (xs ++ [40]) with
  | .error e => .error e
  | .ok b1 => putL ks (d + 1) b1
theorem put_list (ks : List Nd) (d : Nat) (xs : List UInt8) (hd : d < 32) : putN (.mk false ⟨#[]⟩ ks) d xs = match openR ks d xs with | .error e => .error e | .ok b2 => room (b2 ++ [41]) := by
  rw [putN]
  simp only [Bool.false_eq_true, if_false]
  rw [if_neg (by decide), if_neg (by omega)]
  unfold openR
  cases room (xs ++ [40]) with
  | error y => rfl
  | ok b => 
    simp only
    cases putL ks (d + 1) b <;> rfl
/- what an encoding answers -/
def EncP (r : Except Int (List UInt8)) (w : World) (e : Ending) (w' : World) : Prop := Chg NoB w w' ∧ match r with
  | .error y => e = .returned (.tuple #[.string (tx []), .int .i64 y])
  | .ok ys => e = .returned (.tuple #[.string (tx ys), .int .i64 0])
theorem chg_up {base : Nat} {w w' : World} (h : Chg (AbB base) w w') (hb : w.heap.size ≤ base) : Chg NoB w w' := ⟨h.os, h.tape, h.output, h.size, fun k hk _ => h.block k hk fun x => by unfold AbB at x; omega⟩
theorem Own.nilB (w : World) (base : Nat) : Own w base (.slice none 0 0) [] := ⟨rfl, .inl ⟨rfl, rfl⟩⟩
end Go.Proofs.YthehpmffkkogpaaGreatDoor
