/- What a round of a loop over an iterator keeps: all cells but those of the blocks T (the body's own variables). No condition. -/
import Derived.Test.YtaihgciokfkonaaDoorBase
import Derived.RangeFuncNested
import Derived.RangeFuncBound
import Derived.RangeFuncCalls
import Derived.RangeFuncLeaves
import Derived.Shelf.Abstract
import Derived.WalkKit
import Derived.OwnWalkIn
import Derived.TacticsInMore
import Derived.LoopNIn
import Derived.LoopIn
import Derived.Laws.EntriesVeiled
namespace Go.Proofs.YtaihgciokfkonaaDoor
set_option linter.unusedVariables false
open Go.ChangeShapes Go.WideShapes Go.ChangeAt Go.RowKit
structure KeepT (T : Nat → Prop) (W W' : World) : Prop where
  size : W.heap.size ≤ W'.heap.size
  same : ∀ (k : Nat) (o : Obj), W.heap[k]? = some o → o.isCells = true → ¬ T k → W'.heap[k]? = some o
theorem KeepT.refl (T : Nat → Prop) (W : World) : KeepT T W W := ⟨Nat.le_refl _, fun _ _ h _ _ => h⟩
theorem KeepT.trans {T : Nat → Prop} {A B C : World} (h : KeepT T A B) (k : KeepT T B C) : KeepT T A C := ⟨Nat.le_trans h.size k.size, fun i o hi ho ht => k.same i o (h.same i o hi ho ht) ho ht⟩
theorem KeepT.putObj {T : Nat → Prop} (W : World) (l : Nat) (o o' : Obj) (h : W.heap[l]? = some o) (hc : o.isCells = false) : KeepT T W (W.putObj l o') :=
  ⟨by simp, fun k x hk hx _ => by
    have hne : k ≠ l := fun e => by subst e; rw [h] at hk; cases hk; rw [hc] at hx; cases hx
    exact (World.putObj_heap_other (fun e => hne e)).trans hk⟩
theorem Chg.keepT {S T : Nat → Prop} {W W' : World} (h : Chg S W W') (hST : ∀ k, S k → T k) : KeepT T W W' :=
  ⟨h.size, fun k o hk _ ht => (h.block k (Array.getElem?_eq_some_iff.1 hk).1 fun hs => ht (hST k hs)).trans hk⟩
theorem KeepT.cell {T : Nat → Prop} {W W' : World} (h : KeepT T W W') {p : Addr} {u : Value} (hp : W.cell? p = some u) (ht : ¬ T p.block) : W'.cell? p = some u := by
  unfold World.cell? at hp ⊢
  split at hp
  · rename_i c t f he
    rw [h.same _ _ he rfl ht]
    exact hp
  · cases hp
theorem KeepT.row {T : Nat → Prop} {W W' : World} (h : KeepT T W W') {b : Nat} {cs : Array Value} {t : TypeId} {f : Nat × Nat} (hp : W.heap[b]? = some (.cells cs t f)) (ht : ¬ T b) : W'.heap[b]? = some (.cells cs t f) := h.same b _ hp rfl ht
theorem room_of_none {F : Fence} (hd : F.depth = none) (k : Nat) : F.room k := fun d h => by rw [hd] at h; cases h
theorem RoundIn.anyDepth {F : Fence} (hd : F.depth = none) {m m' : Nat} {P : Program} {l : Nat} {f : FuncId} {tmps : Array Value} {assign body : Code} {w : World} {R : Ending → World → Prop}
    (h : RoundIn F m P l f tmps assign body w R) : RoundIn F m' P l f tmps assign body w R := ⟨h.1, fun c cs _ => h.2 c cs (room_of_none hd _)⟩
theorem YieldAt.anyDepth {F : Fence} (hd : F.depth = none) {m : Nat} (m' : Nat) {P : Program} {l : Nat} {args : Array Value} {W : World} {R : Ending → World → Prop} (h : YieldAt F m P l args W R) : YieldAt F m' P l args W R := by
  obtain ⟨fn, tmps, assign, body, hy, hR⟩ := h
  exact ⟨fn, tmps, assign, body, hy, RoundIn.anyDepth hd hR⟩
theorem abides_alloc {β : Type} {B : Nat} {J : β → World → Prop} (h : AbidesFrom B J) {s : β} {W : World} (o : Obj) (hs : J s W) : J s (W.alloc o) := h s W _ none hs (World.grownBy_alloc W o none) (fun r e => by cases e)
end Go.Proofs.YtaihgciokfkonaaDoor
