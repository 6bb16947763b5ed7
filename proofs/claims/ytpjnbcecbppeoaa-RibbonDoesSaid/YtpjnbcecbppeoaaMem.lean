/- Plain facts on worlds: what changed, what a slice of bytes reads as, what is owned. No condition. -/
import Derived.Test.YtpjnbcecbppeoaaRows
import Derived.WalkKit
import Derived.ProofKit
import Derived.OpenShut
import Derived.ShutString
import Derived.Lib.Hide
import Derived.Below
import Derived.OneCell
import Derived.Lib.BufferRead
import Derived.Laws.AppendOwnNone
namespace Go.Proofs.Ytpjnbcecbppeoaa
set_option linter.unusedVariables false
open Go.ChangeShapes Go.WideShapes Go.ChangeAt Go.RowKit

/- outside the blocks S nothing that was there has changed -/
structure Chg (S : Nat → Prop) (w w' : World) : Prop where
  os : w'.os = w.os
  tape : w'.tape = w.tape
  output : w'.output = w.output
  size : w.heap.size ≤ w'.heap.size
  block : ∀ k, k < w.heap.size → ¬ S k → w'.heap[k]? = w.heap[k]?
def NoB : Nat → Prop := fun _ => False
theorem Chg.refl (S : Nat → Prop) (w : World) : Chg S w w := ⟨rfl, rfl, rfl, Nat.le_refl _, fun _ _ _ => rfl⟩
theorem Chg.trans {S : Nat → Prop} {a b c : World} (h : Chg S a b) (g : Chg S b c) : Chg S a c :=
  ⟨g.os.trans h.os, g.tape.trans h.tape, g.output.trans h.output, Nat.le_trans h.size g.size, fun k hk hs => (g.block k (Nat.lt_of_lt_of_le hk h.size) hs).trans (h.block k hk hs)⟩
theorem Chg.mono {S T : Nat → Prop} {a b : World} (h : Chg S a b) (hst : ∀ k, k < a.heap.size → S k → T k) : Chg T a b :=
  ⟨h.os, h.tape, h.output, h.size, fun k hk hs => h.block k hk fun x => hs (hst k hk x)⟩
theorem Chg.drew {S : Nat → Prop} {a w : World} (h : Chg S a w) : Chg S a w.drew := ⟨h.os, h.tape, h.output, h.size, h.block⟩
theorem Chg.alloc {S : Nat → Prop} {a w : World} (h : Chg S a w) (o : Obj) : Chg S a (w.alloc o) :=
  ⟨h.os, h.tape, h.output, Nat.le_trans h.size (by show w.heap.size ≤ (w.heap.push _).size; simp), fun k hk hs => (Below.heap_alloc w o k (Nat.lt_of_lt_of_le hk h.size)).trans (h.block k hk hs)⟩
theorem Chg.setCell {S : Nat → Prop} {a w : World} (h : Chg S a w) {p : Addr} (hp : S p.block ∨ a.heap.size ≤ p.block) (u : Value) : Chg S a (w.setCell p u) :=
  ⟨h.os, h.tape, h.output, by simpa [World.setCell] using h.size, fun k hk hs => (Below.heap_setCell w p u k (by rintro rfl; rcases hp with hp | hp; exact hs hp; omega)).trans (h.block k hk hs)⟩
theorem Chg.grown {S : Nat → Prop} {a w w' : World} {row : Option Nat} (h : Chg S a w) (hg : w.grownBy w' row) (hr : ∀ k, row = some k → S k ∨ a.heap.size ≤ k) : Chg S a w' :=
  ⟨hg.os.trans h.os, hg.tape.trans h.tape, hg.output.trans h.output, Nat.le_trans h.size hg.size, fun k hk hs => (hg.block k (Nat.lt_of_lt_of_le hk h.size) (fun e => by rcases hr k e.symm with x | x; exact hs x; omega)).trans (h.block k hk hs)⟩
theorem Chg.below {w w' : World} (h : Chg NoB w w') : Below w.heap.size w w' := ⟨h.os, h.tape, h.output, h.size, fun k hk => h.block k hk id⟩
theorem Chg.above {S : Nat → Prop} {a b c : World} (h : Chg NoB a b) (g : Chg S b c) (hS : ∀ k, S k → a.heap.size ≤ k) : Chg NoB a c :=
  ⟨g.os.trans h.os, g.tape.trans h.tape, g.output.trans h.output, Nat.le_trans h.size g.size, fun k hk _ => (g.block k (Nat.lt_of_lt_of_le hk h.size) (fun s => by have := hS k s; omega)).trans (h.block k hk id)⟩

theorem Chg.keep {a w : World} (h : Chg NoB a w) {p : Addr} {u : Value} (hp : a.cell? p = some u) : w.cell? p = some u := by
  rw [← hp]
  exact World.cell?_of_block (h.block _ (World.block_lt_of_cell? a p hp) id)
def bytesV (l : List UInt8) : List Value := l.map fun c => Value.int .u8 (c.toNat : Int)
theorem bytesV_len (l : List UInt8) : (bytesV l).length = l.length := by simp [bytesV]
theorem bytesV_append (a b : List UInt8) : bytesV (a ++ b) = bytesV a ++ bytesV b := by simp [bytesV]
theorem bytesV_take (a : List UInt8) (n : Nat) : bytesV (a.take n) = (bytesV a).take n := by simp [bytesV, List.map_take]
theorem bytesV_at (l : List UInt8) (j : Nat) (u : Value) (h : (bytesV l)[j]? = some u) : ∃ hj : j < l.length, u = .int .u8 (l[j].toNat : Int) := by
  have hj : j < l.length := by
    have := (List.getElem?_eq_some_iff.1 h).1
    rwa [bytesV_len] at this
  refine ⟨hj, ?_⟩
  simp [bytesV, List.getElem?_eq_getElem hj] at h
  exact h.symm

/- a slice that reads as these bytes -/
def Src (w : World) (v : Value) (xs : List UInt8) : Prop :=
  (v = .slice none 0 0 ∧ xs = []) ∨ ∃ a cap, v = .slice (some a) xs.length cap ∧ xs.length ≤ cap ∧ cap ≤ maxLen ∧ ∀ j (hj : j < xs.length), w.cell? (a.add j) = some (.int .u8 (xs[j].toNat : Int))
/- a slice of the call's own -/
def Own (w : World) (base : Nat) (v : Value) (xs : List UInt8) : Prop := w.ownsRow base 5 1 v xs.length (bytesV xs)

theorem Own.src {w : World} {base : Nat} {v : Value} {xs : List UInt8} (h : Own w base v xs) : Src w v xs := by
  rcases h.2 with ⟨rfl, hn⟩ | ⟨g, cap, cur, rfl, hb, hh, hn, hc, hs, ht⟩
  · exact .inl ⟨rfl, List.eq_nil_of_length_eq_zero hn⟩
  · refine .inr ⟨_, cap, rfl, hn, hc, fun j hj => ?_⟩
    exact World.ownsRow.cells h (g := g) rfl j _ (by simp [bytesV, List.getElem?_eq_getElem hj])
theorem Own.lt {w : World} {base : Nat} {v : Value} {xs : List UInt8} (h : Own w base v xs) : ∀ k, v.ownBlock = some k → base ≤ k ∧ k < w.heap.size := World.ownsRow.lt h
theorem Own.chg {w w' : World} {S : Nat → Prop} {base : Nat} {v : Value} {xs : List UInt8} (h : Own w base v xs) (hc : Chg S w w') (hS : ∀ k, v.ownBlock = some k → ¬ S k) : Own w' base v xs := by
  refine ⟨h.1, ?_⟩
  have hl := h.lt
  rcases h.2 with x | ⟨g, cap, cur, rfl, hb, hh, r⟩
  · exact .inl x
  · exact .inr ⟨g, cap, cur, rfl, hb, by rw [hc.block g (hl g rfl).2 (hS g rfl)]; exact hh, r⟩
theorem Own.shape {w : World} {base : Nat} {v : Value} {xs : List UInt8} (h : Own w base v xs) : ∃ ad cap, v = .slice ad xs.length cap ∧ xs.length ≤ cap ∧ cap ≤ maxLen ∧ (ad = none → xs = [] ∧ cap = 0) := by
  rcases h.2 with ⟨rfl, hn⟩ | ⟨g, cap, cur, rfl, hb, hh, hn, hc, hs, ht⟩
  · exact ⟨none, 0, by rw [hn], by omega, by omega, fun _ => ⟨List.eq_nil_of_length_eq_zero hn, rfl⟩⟩
  · exact ⟨_, cap, rfl, hn, hc, fun h => by simp at h⟩
theorem Src.chg {w w' : World} {S : Nat → Prop} {v : Value} {xs : List UInt8} (h : Src w v xs) (hc : Chg S w w') (hS : ∀ k, v.ownBlock = some k → ¬ S k) : Src w' v xs := by
  rcases h with x | ⟨a, cap, rfl, h1, h2, h3⟩
  · exact .inl x
  · refine .inr ⟨a, cap, rfl, h1, h2, fun j hj => ?_⟩
    have hb : (a.add j).block = a.block := by unfold Addr.add; split <;> rfl
    have := h3 j hj
    rw [← this]
    refine World.cell?_of_block (hc.block _ (World.block_lt_of_cell? w _ this) ?_)
    rw [hb]
    exact hS _ rfl
theorem Src.conv {w : World} {v : Value} {xs : List UInt8} (h : Src w v xs) : (convert 22 9 v).run Try.prog w = .ok (.string ⟨xs.toArray⟩) w := by
  rcases h with ⟨rfl, rfl⟩ | ⟨a, cap, rfl, h1, h2, h3⟩
  · exact Lib.run_convert_nil_bytes (P := Try.prog) w 22 9 5 0 Try.underlying22 Try.underlying5 Try.underlying9
  · exact run_convert_bytes_back (P := Try.prog) w 22 9 5 a cap xs Try.underlying22 Try.underlying5 Try.underlying9 h3
theorem heap_set {w : World} {b i : Nat} {cs : Array Value} {t : TypeId} (h : w.heap[b]? = some (.cells cs t (0, 0))) (u : Value) :
    (w.setCell ⟨b, i, none⟩ u).heap[b]? = some (.cells (cs.setIfInBounds i u) t (0, 0)) := by
  have hlt := lt_of_block h
  have h' : w.heap[b] = .cells cs t (0, 0) := by simpa [Array.getElem?_eq_getElem hlt] using h
  show (w.heap.modify b _)[b]? = _
  rw [Array.getElem?_eq_getElem (by simpa using hlt), Array.getElem_modify_self, h']
  rfl
theorem Own.take {w : World} {base : Nat} {ad : Option Addr} {cap : Nat} {xs : List UInt8} (h : Own w base (.slice ad xs.length cap) xs) (n : Nat) (hn : n ≤ xs.length) : Own w base (.slice ad n cap) (xs.take n) := by
  have hl : (xs.take n).length = n := by rw [List.length_take]; omega
  refine ⟨by rw [bytesV_len]; omega, ?_⟩
  rw [hl]
  rcases h.2 with ⟨he, hz⟩ | ⟨g, c, cur, he, hb, hh, hnc, hc, hs, ht⟩
  · simp only [Value.slice.injEq] at he
    obtain ⟨rfl, h0, rfl⟩ := he
    have : n = 0 := by omega
    subst this
    exact .inl ⟨rfl, rfl⟩
  · simp only [Value.slice.injEq] at he
    obtain ⟨rfl, _, rfl⟩ := he
    refine .inr ⟨g, cap, cur, rfl, hb, hh, by omega, hc, hs, ?_⟩
    rw [bytesV_take, ← ht, List.take_take]
    congr 1; omega
/- the state of a ribbon -/
structure RS where
  xs : List UInt8
  safe : Nat
  down : Bool
  acts : Nat
  armed : Nat
  keep : Int
def RS.ok (s : RS) : Prop := s.safe ≤ s.xs.length ∧ s.xs.length ≤ 1048576 ∧ s.acts ≤ 1000000000 ∧ s.armed ≤ 9223372036854775807
/- the ribbon at block b, whose blocks are among R -/
def Rb (w : World) (b : Nat) (R : Nat → Prop) (s : RS) : Prop :=
  s.ok ∧ R b ∧ ∃ ad cap, w.heap[b]? = some (.cells #[.slice ad s.xs.length cap, .int .i64 s.safe, .bool s.down, .int .i64 s.acts, .int .i64 s.armed, .int .i64 s.keep] 49 (0, 0)) ∧
    Own w 0 (.slice ad s.xs.length cap) s.xs ∧ ∀ k, (Value.slice ad s.xs.length cap).ownBlock = some k → R k ∧ k ≠ b
theorem Rb.chg {w w' : World} {b : Nat} {R S : Nat → Prop} {s : RS} (h : Rb w b R s) (hc : Chg S w w') (hS : ∀ k, R k → ¬ S k) : Rb w' b R s := by
  obtain ⟨h0, h1, ad, cap, h2, h3, h4⟩ := h
  exact ⟨h0, h1, ad, cap, by rw [hc.block b (lt_of_block h2) (hS b h1)]; exact h2, h3.chg hc fun k hk => hS k (h4 k hk).1, h4⟩
theorem Rb.lt {w : World} {b : Nat} {R : Nat → Prop} {s : RS} (h : Rb w b R s) : b < w.heap.size := by
  obtain ⟨h0, h1, ad, cap, h2, h3, h4⟩ := h
  exact lt_of_block h2
/- what a call may do to the ribbon's blocks -/
structure Went (R R' : Nat → Prop) (w w' : World) : Prop where
  chg : Chg R w w'
  ext : ∀ k, R' k → R k ∨ (w.heap.size ≤ k ∧ k < w'.heap.size)
  old : ∀ k, R k → R' k
theorem Went.refl (R : Nat → Prop) (w : World) : Went R R w w := ⟨Chg.refl _ _, fun k h => .inl h, fun k h => h⟩
theorem Went.same {R : Nat → Prop} {w w' : World} (h : Chg R w w') : Went R R w w' := ⟨h, fun k h => .inl h, fun k h => h⟩
theorem Went.trans {R R' R'' : Nat → Prop} {a b c : World} (h : Went R R' a b) (g : Went R' R'' b c) : Went R R'' a c := by
  refine ⟨⟨g.chg.os.trans h.chg.os, g.chg.tape.trans h.chg.tape, g.chg.output.trans h.chg.output, Nat.le_trans h.chg.size g.chg.size, fun k hk hs => ?_⟩, fun k hk => ?_, fun k hk => g.old k (h.old k hk)⟩
  · refine (g.chg.block k (Nat.lt_of_lt_of_le hk h.chg.size) fun x => ?_).trans (h.chg.block k hk hs)
    rcases h.ext k x with y | y
    · exact hs y
    · omega
  · rcases g.ext k hk with y | y
    · rcases h.ext k y with z | z
      · exact .inl z
      · exact .inr ⟨z.1, Nat.lt_of_lt_of_le z.2 g.chg.size⟩
    · exact .inr ⟨Nat.le_trans h.chg.size y.1, y.2⟩
def RS.off (s : RS) (k : Int) : RS :=
  if s.down then s else
    let n := s.safe + min k.toNat (s.xs.length - s.safe)
    { xs := s.xs.take n, safe := n, down := true, acts := s.acts, armed := 0, keep := 0 }
def RS.actTo (s : RS) : RS :=
  if s.armed = 0 then { s with acts := s.acts + 1 } else
    if s.armed = 1 then RS.off { s with acts := s.acts + 1, armed := 0 } s.keep else { s with acts := s.acts + 1, armed := s.armed - 1 }
theorem set_0 {w : World} {b : Nat} {x0 x1 x2 x3 x4 x5 : Value} {t : TypeId} (h : w.heap[b]? = some (.cells #[x0, x1, x2, x3, x4, x5] t (0, 0))) (u : Value) :
    (w.setCell ⟨b, 0, none⟩ u).heap[b]? = some (.cells #[u, x1, x2, x3, x4, x5] t (0, 0)) := heap_set h u
theorem set_1 {w : World} {b : Nat} {x0 x1 x2 x3 x4 x5 : Value} {t : TypeId} (h : w.heap[b]? = some (.cells #[x0, x1, x2, x3, x4, x5] t (0, 0))) (u : Value) :
    (w.setCell ⟨b, 1, none⟩ u).heap[b]? = some (.cells #[x0, u, x2, x3, x4, x5] t (0, 0)) := heap_set h u
theorem set_2 {w : World} {b : Nat} {x0 x1 x2 x3 x4 x5 : Value} {t : TypeId} (h : w.heap[b]? = some (.cells #[x0, x1, x2, x3, x4, x5] t (0, 0))) (u : Value) :
    (w.setCell ⟨b, 2, none⟩ u).heap[b]? = some (.cells #[x0, x1, u, x3, x4, x5] t (0, 0)) := heap_set h u
theorem set_3 {w : World} {b : Nat} {x0 x1 x2 x3 x4 x5 : Value} {t : TypeId} (h : w.heap[b]? = some (.cells #[x0, x1, x2, x3, x4, x5] t (0, 0))) (u : Value) :
    (w.setCell ⟨b, 3, none⟩ u).heap[b]? = some (.cells #[x0, x1, x2, u, x4, x5] t (0, 0)) := heap_set h u
theorem set_4 {w : World} {b : Nat} {x0 x1 x2 x3 x4 x5 : Value} {t : TypeId} (h : w.heap[b]? = some (.cells #[x0, x1, x2, x3, x4, x5] t (0, 0))) (u : Value) :
    (w.setCell ⟨b, 4, none⟩ u).heap[b]? = some (.cells #[x0, x1, x2, x3, u, x5] t (0, 0)) := heap_set h u
theorem set_5 {w : World} {b : Nat} {x0 x1 x2 x3 x4 x5 : Value} {t : TypeId} (h : w.heap[b]? = some (.cells #[x0, x1, x2, x3, x4, x5] t (0, 0))) (u : Value) :
    (w.setCell ⟨b, 5, none⟩ u).heap[b]? = some (.cells #[x0, x1, x2, x3, x4, u] t (0, 0)) := heap_set h u
end Go.Proofs.Ytpjnbcecbppeoaa
