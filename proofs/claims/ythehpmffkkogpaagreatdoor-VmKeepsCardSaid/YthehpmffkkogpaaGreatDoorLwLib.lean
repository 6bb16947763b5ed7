/- What the writer wants of the library's variables alone: the table of powers. Conditions: it reads as listed, whatever is done from block base on. -/
import Derived.Test.YthehpmffkkogpaaGreatDoorNdLib
namespace Go.Proofs.YthehpmffkkogpaaGreatDoor
set_option linter.unusedVariables false
open Go.ChangeShapes Go.WideShapes Go.ChangeAt Go.RowKit
structure Lw (base : Nat) (w : World) : Prop where
  le : base ≤ w.heap.size
  tab : Lib.TabBelow Tryz.prog base w "internal/strconv.uint64pow10" .u64 Lib.pow10Tab
theorem Lb.lw {base : Nat} {w : World} (h : Lb base w) : Lw base w := ⟨h.le, h.tab⟩
theorem Lw.on {base : Nat} {w w' : World} (h : Lw base w) (hb : Below base w w') : Lw base w' := ⟨Nat.le_trans h.le hb.size, h.tab.on hb⟩
theorem Lw.chg {S : Nat → Prop} {base : Nat} {w w' : World} (h : Lw base w) (hc : Chg S w w') (hS : ∀ k, S k → base ≤ k) : Lw base w' := h.on (hc.belowB h.le hS)
theorem Lw.keep {base : Nat} {w w' : World} (h : Lw base w) (hc : Chg NoB w w') : Lw base w' := h.chg hc fun _ => False.elim
theorem Lw.up {base base' : Nat} {w : World} (h : Lw base w) (hb : base ≤ base') (hl : base' ≤ w.heap.size) : Lw base' w :=
  ⟨hl, fun v hv => h.tab v ⟨hv.os, hv.tape, hv.output, hv.size, fun k hk => hv.block k (by omega)⟩⟩
theorem Lw.top {base : Nat} {w : World} (h : Lw base w) : Lw w.heap.size w := h.up h.le (Nat.le_refl _)
theorem Lb.top {base : Nat} {w : World} (h : Lb base w) : Lb w.heap.size w := h.up h.le (Nat.le_refl _)
theorem itoaW_any (n : Int) (h0 : -9223372036854775808 ≤ n) (h1 : n ≤ 9223372036854775807) (base : Nat) (w : World) (h : Lw base w) :
    Calls Tryz.prog 31 #[.int .i64 n] w fun e w' => e = .returned (.string ⟨(Lib.itoa n).toArray⟩) ∧ Chg NoB w w' :=
  (Tryz.strconv_Itoa n h0 h1 w h.tab.here).mono fun e w' ⟨he, k, os, hw⟩ => ⟨he, by rw [hw]; exact chg_of_below (Lib.below_grow _ w (Nat.le_refl _) k os)⟩
end Go.Proofs.YthehpmffkkogpaaGreatDoor
