/- copies: the same nodes in new memory. Condition: at most 2^20 nodes and bytes. -/
import Derived.Test.YthehpmffkkogpaaGreatDoorNdCount
import Derived.Laws.MakeOwn
import Derived.Deep.RegionHeld3
import Derived.Deep.CutRange
namespace Go.Proofs.YthehpmffkkogpaaGreatDoor
set_option linter.unusedVariables false
open Go.ChangeShapes Go.WideShapes Go.ChangeAt Go.RowKit
theorem Nd.len_counts (ks : List Nd) : ks.length ≤ Nd.counts ks := by
  induction ks with
  | nil => exact Nat.zero_le _
  | cons k r ih =>
    rw [Nd.counts]
    have := k.count_pos
    simp only [List.length_cons]; omega
def Copied (ks : List Nd) (w : World) (e : Ending) (w' : World) : Prop := ∃ v kb ko, e = .returned v ∧ NdS w' (fun x => w.heap.size ≤ x ∧ x < w'.heap.size) v ks kb ko ∧ Chg NoB w w'
theorem st3 (w : World) {g : Nat} (k : Nat) (a b c : Value) : Chg (fun x => x = g) w (((w.setCell ⟨g, k, none⟩ a).setCell ⟨g, k + 1, none⟩ b).setCell ⟨g, k + 2, none⟩ c) := by
  have h1 : Chg (fun x => x = g) w (w.setCell ⟨g, k, none⟩ a) := (Chg.refl (fun x => x = g) w).setCell (p := ⟨g, k, none⟩) (.inl rfl) a
  have h2 := h1.setCell (p := ⟨g, k + 1, none⟩) (.inl rfl) b
  exact h2.setCell (p := ⟨g, k + 2, none⟩) (.inl rfl) c
theorem Laid.step {w0 wr w6 : World} {g : Nat} {t : TypeId} {ks : List Nd} {k : Nat} (h : Laid w0 wr g t ks k) (hlt : k < ks.length) (hc : Chg NoB wr w6) (lo : Nat) (hlo : wr.heap.size ≤ lo) {s : Value} {kb ko : Nat} {kd : Nd} (hkd : kd = ks[k])
    (hN : NdS w6 (fun x => lo ≤ x ∧ x < w6.heap.size) s kd.kids kb ko) (ha : kd.atom.size ≤ maxLen) :
    Laid w0 (((w6.setCell ⟨g, k * 3, none⟩ (.bool kd.leaf)).setCell ⟨g, k * 3 + 1, none⟩ (.string kd.atom)).setCell ⟨g, k * 3 + 2, none⟩ s) g t ks (k + 1) := by
  have hs := st3 w6 (g := g) (k * 3) (.bool kd.leaf) (.string kd.atom) s
  obtain ⟨cur, hcur, hsz⟩ := h.row
  have hcur6 := row_kept hc hcur id
  have hf := heap_set (heap_set (heap_set hcur6 (i := k * 3) (.bool kd.leaf)) (i := k * 3 + 1) (.string kd.atom)) (i := k * 3 + 2) s
  have hz : (((w6.setCell ⟨g, k * 3, none⟩ (.bool kd.leaf)).setCell ⟨g, k * 3 + 1, none⟩ (.string kd.atom)).setCell ⟨g, k * 3 + 2, none⟩ s).heap.size = w6.heap.size := by simp [World.setCell]
  have z6 := hc.size
  have hgl := h.lt
  have hle := h.le
  have z0 := h.chg.size
  generalize ((w6.setCell ⟨g, k * 3, none⟩ (.bool kd.leaf)).setCell ⟨g, k * 3 + 1, none⟩ (.string kd.atom)).setCell ⟨g, k * 3 + 2, none⟩ s = wf at *
  have cf := fun j => cell_of_row wf g j _ t (0, 0) hf
  have c6 := fun j => cell_of_row w6 g j _ t (0, 0) hcur6
  refine ⟨Chg.above (h.chg.trans hc) hs fun x hx => by rw [hx]; exact h.le, h.le, by omega, ⟨_, hf, by simp [hsz]⟩, fun i hi hik => ?_⟩
  by_cases e : i = k
  · subst e
    rw [← hkd]
    refine ⟨ha, s, kb, ko, ?_, ?_, ?_, (hN.mono fun x hx => ?_).keep hs fun x hx => ?_⟩
    · rw [cf]; simp [Array.getElem?_setIfInBounds]; omega
    · rw [cf]; simp [Array.getElem?_setIfInBounds]; omega
    · rw [cf]; simp [Array.getElem?_setIfInBounds]; omega
    · exact (⟨⟨by omega, by rw [hz]; exact hx.2⟩, by have := hx.1; omega⟩ : (w0.heap.size ≤ x ∧ x < wf.heap.size) ∧ x ≠ g)
    · exact hx.2
  · obtain ⟨hai, si, kbi, koi, d0, d1, d2, hsi⟩ := h.done i hi (by omega)
    have d0' := hc.keep d0
    have d1' := hc.keep d1
    have d2' := hc.keep d2
    rw [c6] at d0' d1' d2'
    refine ⟨hai, si, kbi, koi, ?_, ?_, ?_, ((hsi.keep hc fun _ _ => id).keep hs fun x hx => hx.2).mono fun x hx => ⟨⟨hx.1.1, by have := hx.1.2; omega⟩, hx.2⟩⟩
    · rw [cf, ← d0']; simp only [Array.getElem?_setIfInBounds]; rw [if_neg (by omega), if_neg (by omega), if_neg (by omega)]
    · rw [cf, ← d1']; simp only [Array.getElem?_setIfInBounds]; rw [if_neg (by omega), if_neg (by omega), if_neg (by omega)]
    · rw [cf, ← d2']; simp only [Array.getElem?_setIfInBounds]; rw [if_neg (by omega), if_neg (by omega), if_neg (by omega)]
theorem row_three {w : World} {b : Nat} {cur : Array Value} {t : TypeId} (h : w.heap[b]? = some (.cells cur t (0, 0))) (i : Nat) (hi : i + 2 < cur.size) :
    ∃ y0 y1 y2, w.cell? ⟨b, i, none⟩ = some y0 ∧ w.cell? ⟨b, i + 1, none⟩ = some y1 ∧ w.cell? ⟨b, i + 2, none⟩ = some y2 ∧ ∀ j, w.frozen? ⟨b, j, none⟩ = false := by
  have c := fun i => cell_of_row w b i _ t (0, 0) h
  refine ⟨cur[i], cur[i + 1], cur[i + 2], by rw [c i]; exact Array.getElem?_eq_getElem _, by rw [c (i + 1)]; exact Array.getElem?_eq_getElem _, by rw [c (i + 2)]; exact Array.getElem?_eq_getElem _, fun j => ?_⟩
  simp [World.frozen?, h]
theorem var3 {w : World} {b : Nat} {x0 x1 x2 : Value} {t : TypeId} (h : w.heap[b]? = some (.cells #[x0, x1, x2] t (0, 0))) : w.cell? ⟨b, 0, none⟩ = some x0 ∧ w.cell? ⟨b, 1, none⟩ = some x1 ∧ w.cell? ⟨b, 2, none⟩ = some x2 := by
  have c := fun i => cell_of_row w b i _ t (0, 0) h
  exact ⟨by rw [c 0]; rfl, by rw [c 1]; rfl, by rw [c 2]; rfl⟩
end Go.Proofs.YthehpmffkkogpaaGreatDoor
