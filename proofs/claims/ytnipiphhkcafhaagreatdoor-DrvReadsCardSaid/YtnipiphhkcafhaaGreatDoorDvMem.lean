/- Inputs and builds in memory. No condition. -/
import Derived.Test.YtnipiphhkcafhaaGreatDoorDvMath
import Derived.Test.YtnipiphhkcafhaaGreatDoorNdCopies
namespace Go.Proofs.YtnipiphhkcafhaaGreatDoor
set_option linter.unusedVariables false
open Go.ChangeShapes Go.WideShapes Go.ChangeAt Go.RowKit
abbrev InL := List UInt8 × List UInt8
structure InpS (w : World) (S : Nat → Prop) (v : Value) (xs : List InL) (kb ko : Nat) : Prop where
  sh : ∃ q c, v = .slice q xs.length c ∧ xs.length ≤ c ∧ c ≤ maxLen ∧ (xs ≠ [] → q = some ⟨kb, ko, none⟩ ∧ S kb)
  at' : ∀ i (hi : i < xs.length), w.cell? ⟨kb, ko + i * 2, none⟩ = some (.string (tx xs[i].1)) ∧ w.cell? ⟨kb, ko + i * 2 + 1, none⟩ = some (.string (tx xs[i].2))
theorem InpS.keep {w w' : World} {S T : Nat → Prop} (hc : Chg T w w') (hST : ∀ k, S k → ¬ T k) {v : Value} {xs : List InL} {kb ko : Nat} (h : InpS w S v xs kb ko) : InpS w' S v xs kb ko := by
  obtain ⟨hsh, hat⟩ := h
  refine ⟨hsh, fun i hi => ?_⟩
  obtain ⟨q, c, _, _, _, hq⟩ := hsh
  have hne : xs ≠ [] := by rintro rfl; simp at hi
  have hS := hST kb (hq hne).2
  obtain ⟨h1, h2⟩ := hat i hi
  exact ⟨hc.cell h1 hS, hc.cell h2 hS⟩
theorem InpS.mono {w : World} {S T : Nat → Prop} (hST : ∀ k, S k → T k) {v : Value} {xs : List InL} {kb ko : Nat} (h : InpS w S v xs kb ko) : InpS w T v xs kb ko := by
  obtain ⟨⟨q, c, h1, h2, h3, h4⟩, hat⟩ := h
  exact ⟨⟨q, c, h1, h2, h3, fun hn => ⟨(h4 hn).1, hST _ (h4 hn).2⟩⟩, hat⟩
theorem InpS.nil (w : World) (S : Nat → Prop) : InpS w S (.slice none 0 0) [] 0 0 := ⟨⟨none, 0, rfl, Nat.le_refl _, Nat.zero_le _, fun h => absurd rfl h⟩, fun i hi => by simp at hi⟩
/- what the lengths may be, and the numbers -/
structure DrvL.wf (d : DrvL) : Prop where
  name : d.name.length ≤ 65536
  tool : d.tool.length ≤ 65536
  a : -9223372036854775808 ≤ d.a ∧ d.a ≤ 9223372036854775807
  b : -9223372036854775808 ≤ d.b ∧ d.b ≤ 9223372036854775807
  c : -9223372036854775808 ≤ d.c ∧ d.c ≤ 9223372036854775807
  len : d.ins.length ≤ 65536
  ins : ∀ i (hi : i < d.ins.length), d.ins[i].1.length ≤ 65536 ∧ d.ins[i].2.length ≤ 65536
def drvC (d : DrvL) (s : Value) : Array Value := #[.string (tx d.name), .int .i64 d.a, .int .i64 d.b, .int .i64 d.c, .string (tx d.tool), s]
def DrvV (w : World) (S : Nat → Prop) (v : Value) (d : DrvL) : Prop := ∃ s kb ko, v = .agg (drvC d s) ∧ InpS w S s d.ins kb ko
theorem DrvV.keep {w w' : World} {S T : Nat → Prop} (hc : Chg T w w') (hST : ∀ k, S k → ¬ T k) {v : Value} {d : DrvL} (h : DrvV w S v d) : DrvV w' S v d := by
  obtain ⟨s, kb, ko, e, hs⟩ := h
  exact ⟨s, kb, ko, e, hs.keep hc hST⟩
theorem var6 {w : World} {b : Nat} {x0 x1 x2 x3 x4 x5 : Value} {t : TypeId} (h : w.heap[b]? = some (.cells #[x0, x1, x2, x3, x4, x5] t (0, 0))) : w.cell? ⟨b, 0, none⟩ = some x0 ∧ w.cell? ⟨b, 1, none⟩ = some x1 ∧ w.cell? ⟨b, 2, none⟩ = some x2 ∧ w.cell? ⟨b, 3, none⟩ = some x3 ∧ w.cell? ⟨b, 4, none⟩ = some x4 ∧ w.cell? ⟨b, 5, none⟩ = some x5 := by
  have c := fun i => cell_of_row w b i _ _ (0, 0) h
  exact ⟨by rw [c]; rfl, by rw [c]; rfl, by rw [c]; rfl, by rw [c]; rfl, by rw [c]; rfl, by rw [c]; rfl⟩
theorem var4 {w : World} {b : Nat} {x0 x1 x2 x3 : Value} {t : TypeId} (h : w.heap[b]? = some (.cells #[x0, x1, x2, x3] t (0, 0))) : w.cell? ⟨b, 0, none⟩ = some x0 ∧ w.cell? ⟨b, 1, none⟩ = some x1 ∧ w.cell? ⟨b, 2, none⟩ = some x2 ∧ w.cell? ⟨b, 3, none⟩ = some x3 := by
  have c := fun i => cell_of_row w b i _ _ (0, 0) h
  exact ⟨by rw [c]; rfl, by rw [c]; rfl, by rw [c]; rfl, by rw [c]; rfl⟩
theorem var2 {w : World} {b : Nat} {x0 x1 : Value} {t : TypeId} (h : w.heap[b]? = some (.cells #[x0, x1] t (0, 0))) : w.cell? ⟨b, 0, none⟩ = some x0 ∧ w.cell? ⟨b, 1, none⟩ = some x1 := by
  have c := fun i => cell_of_row w b i _ _ (0, 0) h
  exact ⟨by rw [c]; rfl, by rw [c]; rfl⟩
def SayB (b : Bool) (w : World) (e : Ending) (w' : World) : Prop := e = .returned (.bool b) ∧ Chg NoB w w'
end Go.Proofs.YtnipiphhkcafhaaGreatDoor
