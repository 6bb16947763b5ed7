/- The contract of the writer's piece. Condition: the pieces have at most 2^40 bytes; what is written at most 2^16. -/
import Derived.Test.YthehpmffkkogpaaGreatDoorNdCopies
import Derived.Lib.AppendStr
namespace Go.Proofs.YthehpmffkkogpaaGreatDoor
set_option linter.unusedVariables false
open Go.ChangeShapes Go.WideShapes Go.ChangeAt Go.RowKit
theorem info5 : (Tryz.prog.info? 5).map (fun i => (i.zero, i.size, i.bytes)) = some (some (.int .u8 0), 1, 1) := by kernel_rfl
theorem str_bytes (s : ByteArray) : Lib.strCells s = bytesV s.data.toList := rfl
/- the writer at block b has these bytes; its row is of the call's own -/
def AbB (base : Nat) : Nat → Prop := fun k => base ≤ k
theorem own_ne {w : World} {base : Nat} {v : Value} {xs : List UInt8} {b : Nat} {cs : Array Value} {t : TypeId} (h : Own w base v xs) (hb : w.heap[b]? = some (.cells cs t (0, 0))) (ht : t ≠ 5) : ∀ k, v.ownBlock = some k → k ≠ b := by
  rintro k hk rfl
  rcases h.2 with ⟨rfl, _⟩ | ⟨g, cap, cur, rfl, _, hh, _⟩
  · simp [Value.ownBlock] at hk
  · simp only [Value.ownBlock, Option.some.injEq] at hk
    subst hk
    rw [hh] at hb
    simp only [Option.some.injEq, Obj.cells.injEq] at hb
    exact ht hb.2.1.symm
theorem Own.shape2 {w : World} {base : Nat} {v : Value} {xs : List UInt8} (h : Own w base v xs) : ∃ ad n cap, v = .slice ad n cap := by
  obtain ⟨ad, cap, e, _⟩ := h.shape
  exact ⟨ad, _, cap, e⟩
/- all rows that are neither a writer nor bytes stand -/
/- what a writing answers -/
def cat (ps : List ByteArray) : List UInt8 := (ps.map fun p => p.data.toList).flatten
theorem cat_take (ps : List ByteArray) (k : Nat) (h : k < ps.length) : cat (ps.take (k + 1)) = cat (ps.take k) ++ ps[k].data.toList := by
  unfold cat
  rw [List.take_add_one, List.getElem?_eq_getElem h, List.map_append, List.flatten_append]
  simp
theorem cat_le (ps : List ByteArray) (k : Nat) : (cat (ps.take k)).length ≤ (cat ps).length := by
  have h : cat ps = cat (ps.take k) ++ cat (ps.drop k) := by
    unfold cat
    rw [← List.flatten_append, ← List.map_append, List.take_append_drop]
  rw [h, List.length_append]; omega
end Go.Proofs.YthehpmffkkogpaaGreatDoor
