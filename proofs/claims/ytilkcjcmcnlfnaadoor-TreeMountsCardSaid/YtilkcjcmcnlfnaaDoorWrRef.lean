/- The contracts of the document's room, Put and Encode, and of the program's Encode. Condition: at most 2^20 nodes and bytes; the library's variables. -/
import Derived.Test.YtilkcjcmcnlfnaaDoorWrNode
namespace Go.Proofs.YtilkcjcmcnlfnaaDoor
set_option linter.unusedVariables false
open Go.ChangeShapes Go.WideShapes Go.ChangeAt Go.RowKit
theorem Kp.alloc {a w : World} (h : Kp a w) (o : Obj) : Kp a (w.alloc o) := fun k cs t h1 h2 hk => row_kept ((Chg.refl NoB w).alloc o) (h k cs t h1 h2 hk) id
theorem Kp.drew {a w : World} (h : Kp a w) : Kp a w.drew := fun k cs t h1 h2 hk => h k cs t h1 h2 hk
theorem Kp.of {w w' : World} (h : Chg NoB w w') : Kp w w' := fun k cs t h1 h2 hk => row_kept h hk id
theorem Kp.grown {w w' : World} {base : Nat} {v : Value} {xs : List UInt8} (ho : Own w base v xs) (hg : w.grownBy w' v.ownBlock) : Kp w w' := fun k cs t h1 h2 hk =>
  (hg.block k (lt_of_block hk) (fun e => own_ne ho hk h2 k e.symm rfl)).trans hk
theorem Own.app {w' : World} {base : Nat} {v' : Value} {xs ys : List UInt8} {n m : Nat} {us : List Value} (hn : n = xs.length) (hm : m = ys.length) (hu : us = bytesV ys) (h : w'.ownsRow base 5 1 v' (n + m) (bytesV xs ++ us)) : Own w' base v' (xs ++ ys) := by
  subst hn hm hu
  unfold Own
  rw [bytesV_append, List.length_append]
  exact h
theorem lit_one (w : World) (c : Int) : ∀ (j : Nat) (u : Value), [Value.int .u8 c][j]? = some u → (w.alloc (.cells #[.int .u8 c] 5)).cell? ((⟨w.heap.size, 0, none⟩ : Addr).add j) = some u := by
  intro j u hj
  match j, hj with
  | 0, hj =>
    simp only [List.getElem?_cons_zero, Option.some.injEq] at hj
    subst hj
    have := cell_of_row (w.alloc (.cells #[.int .u8 c] 5)) w.heap.size 0 _ 5 (0, 0) (heap_alloc_new w _)
    simp [Addr.add]
theorem one_u8 (c : Int) : ∀ u ∈ [Value.int .u8 c], u.oneCell' = true := by
  intro u hu
  simp only [List.mem_singleton] at hu
  subst hu
  rfl
theorem AbB.grown {w w' : World} {base : Nat} {v : Value} {xs : List UInt8} (ho : Own w base v xs) (hg : w.grownBy w' v.ownBlock) : Chg (AbB base) w w' := (Chg.refl (AbB base) w).grown hg fun k hk => .inl (ho.lt k hk).1
theorem Own.keepB {w w' : World} {base : Nat} {v : Value} {xs : List UInt8} (h : Own w base v xs) (hc : Chg NoB w w') : Own w' base v xs := h.chg hc fun _ _ => id
/- one byte of a literal behind own bytes: what the walk has then -/
structure Ap (base : Nat) (xs : List UInt8) (w : World) (v' : Value) (w' : World) : Prop where
  own : Own w' base v' xs
  chg : Chg (AbB base) w w'
  kp : Kp w w'
/- what a writing of the document's answers -/
def RefP (base : Nat) (r : Except Int (List UInt8)) (w : World) (e : Ending) (w' : World) : Prop := Chg (AbB base) w w' ∧ Kp w w' ∧ match r with
  | .error y => e = .returned (.tuple #[.slice none 0 0, .int .i64 y])
  | .ok ys => ∃ v, e = .returned (.tuple #[v, .int .i64 0]) ∧ Own w' base v ys
theorem room_far {xs : List UInt8} {a : ByteArray} (h : 65536 < a.size) : room (xs ++ atomB a.data.toList) = .error 3 := by
  unfold room
  have : a.data.toList.length = a.size := by simp
  rw [if_pos]
  unfold atomB
  simp; omega
/- under way among the kids: the first k are written, or one of them has been refused -/
def LpSt (base : Nat) (R : Except Int (List UInt8)) (ks : List Nd) (d k : Nat) (v : Value) (y : Int) (w : World) : Prop :=
  (y = 0 ∧ ∃ ys, Own w base v ys ∧ ys.length ≤ 65536 ∧ putL (ks.drop k) (d + 1) ys = R) ∨ (0 < y ∧ y < 10 ∧ R = .error y)
def openR (ks : List Nd) (d : Nat) (xs : List UInt8) : Except Int (List UInt8) := match room (xs ++ [40]) with
  | .error e => .error e
  | .ok b1 => putL ks (d + 1) b1
theorem put_list (ks : List Nd) (d : Nat) (xs : List UInt8) (hd : d < 32) : putN (.mk false ⟨#[]⟩ ks) d xs = match openR ks d xs with | .error e => .error e | .ok b2 => room (b2 ++ [41]) := by
  rw [putN]
  simp only [Bool.false_eq_true, if_false]
  rw [if_neg (by decide), if_neg (by omega)]
  unfold openR
  cases room (xs ++ [40]) with
  | error y => rfl
  | ok b => 
    simp only
    cases putL ks (d + 1) b <;> rfl
/- what an encoding answers -/
def EncP (r : Except Int (List UInt8)) (w : World) (e : Ending) (w' : World) : Prop := Chg NoB w w' ∧ match r with
  | .error y => e = .returned (.tuple #[.string (tx []), .int .i64 y])
  | .ok ys => e = .returned (.tuple #[.string (tx ys), .int .i64 0])
theorem chg_up {base : Nat} {w w' : World} (h : Chg (AbB base) w w') (hb : w.heap.size ≤ base) : Chg NoB w w' := ⟨h.os, h.tape, h.output, h.size, fun k hk _ => h.block k hk fun x => by unfold AbB at x; omega⟩
theorem Own.nilB (w : World) (base : Nat) : Own w base (.slice none 0 0) [] := ⟨rfl, .inl ⟨rfl, rfl⟩⟩
set_option maxHeartbeats 1000000 in
theorem enc_any (n : Nd) (hn : n.count ≤ 1048576) (S : Nat → Prop) (v : Value) (w : World) (hv : NdV w S v n) (hS : ∀ k, S k → k < w.heap.size) (hl : Lw w.heap.size w) :
    Calls Tryd.prog 23 #[v] w (EncP (putN n 0 []) w) := by
  have Hv := Lib.hid hv
  obtain ⟨ha, s, kb, ko, rfl, hs⟩ := hv
  have hal := (Chg.refl NoB w).alloc (.cells #[.bool n.leaf, .string n.atom, s] 51)
  obtain ⟨⟨q, c, rfl, hkc, hcm, hqq⟩, hk⟩ := hs
  have hblk := heap_alloc_new w (.cells #[.bool n.leaf, .string n.atom, .slice q n.kids.length c] 51)
  obtain ⟨vb, hvb⟩ : ∃ vb, vb = w.heap.size := ⟨_, rfl⟩
  have Hvb := Lib.hid hvb
  rw [← hvb] at hblk
  have Hblk := Lib.hid hblk
  have hl1 := Lib.hid (hl.keep hal)
  have HvA := Lib.hid (Hv.out.keep hal fun _ _ => id)
  have Hal := Lib.hid hal
  have HS := Lib.hid hS
  clear hk hqq hal hS hl hvb hblk
  go_enter Tryd.func23, Tryd.ntmps23
  go_upto_region 1 with fail
  rw [← Hvb.out]
  generalize w.alloc (.cells #[.bool n.leaf, .string n.atom, .slice q n.kids.length c] 51) = w1 at *
  have hal2 := (Chg.refl NoB w1).alloc (.cells #[.slice none 0 0] 71)
  obtain ⟨v0, v1, v2⟩ := var3 (row_kept hal2 Hblk.out id)
  have hw0 : w.heap.size ≤ w1.heap.size := Hal.out.size
  have hwr : Wr (w1.alloc (.cells #[.slice none 0 0] 71)) w.heap.size w1.heap.size [] := ⟨hw0, _, heap_alloc_new w1 _, Own.nilB _ _⟩
  have Hnode := Lib.hid (node_any 1048576 (Nat.le_refl _) n hn S _ 0 [] w.heap.size w1.heap.size _ (HvA.out.keep hal2 fun _ _ => id) HS.out hwr (hl1.out.keep hal2) (by decide) (by decide))
  have Hal2 := Lib.hid hal2
  clear hal2 hwr hw0
  cases hp : putN n 0 [] with
  | error y =>
    obtain ⟨y0, y1⟩ := putN_err _ _ _ _ hp
    have hyb : (y == 0) = false := by rw [beq_eq_false_iff_ne]; omega
    rw [hp] at Hnode
    have Hp := Lib.hid hp
    clear hp
    go_wp2_with fail
    refine Hnode.out.mono ?_
    rintro e w2 ⟨hc2, rfl⟩
    have Hc2 := Lib.hid hc2
    clear hc2
    go_wp2_with fail
    go_ret2
    refine ⟨chg_up ((Hal.out.mono fun _ _ x => x.elim).trans ((Hal2.out.mono fun _ _ x => x.elim).trans Hc2.out)) (Nat.le_refl _), ?_⟩
    rw [Hp.out]
    rfl
  | ok ys =>
    rw [hp] at Hnode
    have Hp := Lib.hid hp
    clear hp
    go_wp2_with fail
    refine Hnode.out.mono ?_
    rintro e w2 ⟨hc2, rfl, _, v3, hr3, ho3⟩
    have Hc2 := Lib.hid hc2
    have hcv := ho3.src.conv
    have hcl : w2.cell? ⟨w1.heap.size, 0, none⟩ = some v3 := by rw [cell_of_row _ _ 0 _ _ (0, 0) hr3]; rfl
    obtain ⟨ad, n2, cap, rfl⟩ := ho3.shape2
    clear hc2 ho3 hr3
    go_wp2_with fail
    go_ret2
    refine ⟨chg_up ((Hal.out.mono fun _ _ x => x.elim).trans ((Hal2.out.mono fun _ _ x => x.elim).trans Hc2.out)) (Nat.le_refl _), ?_⟩
    rw [Hp.out]
    rfl
end Go.Proofs.YtilkcjcmcnlfnaaDoor
