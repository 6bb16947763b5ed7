/- A row of texts of the call's own. No condition. (The same stands in SxLv and SxGone of layer 1's own seat.) -/
import Derived.Test.YthehpmffkkogpaaGreatDoorRdKids
import Derived.Laws.AppendOwnNone
namespace Go.Proofs.YthehpmffkkogpaaGreatDoor
set_option linter.unusedVariables false
open Go.ChangeShapes Go.WideShapes Go.ChangeAt Go.RowKit
/- a row of texts of the call's own -/
def TxRow (w : World) (lo : Nat) (v : Value) (ts : List ByteArray) : Prop := w.ownsRow lo 9 1 v ts.length (ts.map .string)
theorem TxRow.le {w : World} {lo lo' : Nat} {v : Value} {ts : List ByteArray} (h : TxRow w lo v ts) (hl : lo' ≤ lo) : TxRow w lo' v ts := by
  refine ⟨h.1, ?_⟩
  rcases h.2 with x | ⟨g, cap, cur, h1, h2, h3⟩
  · exact .inl x
  · exact .inr ⟨g, cap, cur, h1, Nat.le_trans hl h2, h3⟩
theorem TxRow.keep {w w' : World} {S : Nat → Prop} {lo : Nat} {v : Value} {ts : List ByteArray} (h : TxRow w lo v ts) (hc : Chg S w w') (hS : ∀ k, v.ownBlock = some k → ¬ S k) : TxRow w' lo v ts := ownsRow_chg h hc hS
theorem stringInfo : (Tryz.prog.info? 9).map (fun i => (i.zero, i.size, i.bytes)) = some (some (.string ⟨#[]⟩), 1, 16) := by kernel_rfl
theorem one_strings (ts : List ByteArray) : ∀ u ∈ ts.map Value.string, u.oneCell' = true := by
  intro u hu
  obtain ⟨a, _, rfl⟩ := List.mem_map.1 hu
  rfl
/- a list of texts, as it is read -/
theorem TxRow.shape {w : World} {lo : Nat} {v : Value} {ts : List ByteArray} (h : TxRow w lo v ts) : ∃ a cap, v = .slice a ts.length cap ∧ (ts ≠ [] → ∃ g, a = some ⟨g, 0, none⟩ ∧ lo ≤ g ∧ g < w.heap.size ∧ ∀ j (hj : j < ts.length), w.cell? ⟨g, j, none⟩ = some (.string ts[j])) := by
  have hlt := World.ownsRow.lt h
  have hcl := fun g hg => World.ownsRow.cells (g := g) h hg
  rcases h.2 with ⟨rfl, h0⟩ | ⟨g, cap, cur, rfl, hb, hh, h3, h4, _⟩
  · exact ⟨none, 0, by rw [h0], fun hn => absurd (List.eq_nil_of_length_eq_zero h0) hn⟩
  · refine ⟨_, cap, rfl, fun _ => ⟨g, rfl, hb, (hlt g rfl).2, fun j hj => ?_⟩⟩
    have := hcl g rfl j (.string ts[j]) (by rw [List.getElem?_map, List.getElem?_eq_getElem hj]; rfl)
    rwa [add_zero_off] at this
end Go.Proofs.YthehpmffkkogpaaGreatDoor
