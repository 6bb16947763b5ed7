/- The contracts of the document's Pieces and Good. Condition: the text is at most 2^16 bytes. -/
import Derived.Test.YtilkcjcmcnlfnaaDoorPthWalkC
import Derived.OwnWalk
import Derived.Laws.OwnMore
import Derived.StillTailTactics
namespace Go.Proofs.YtilkcjcmcnlfnaaDoor.Pth
set_option linter.unusedVariables false
open Go.ChangeShapes Go.WideShapes Go.ChangeAt Go.RowKit
def strs (ps : List (List UInt8)) : List Value := ps.map fun p => .string ⟨p.toArray⟩
theorem strs_one (ps : List (List UInt8)) : ∀ u ∈ strs ps, u.oneCell' = true := by
  intro u hu
  obtain ⟨p, _, rfl⟩ := List.mem_map.1 hu
  rfl
theorem strs_len (ps : List (List UInt8)) : (strs ps).length = ps.length := by simp [strs]
/-- A slice of texts that the call has made. -/
def Sl (w0 w : World) (v : Value) (ps : List (List UInt8)) : Prop := w.ownsRow w0.heap.size 9 1 v ps.length (strs ps) ∧ Gr w0 w
theorem gr_grown {w0 w w' : World} {row : Option Nat} (h : Gr w0 w) (hg : w.grownBy w' row) (hr : ∀ k, row = some k → w0.heap.size ≤ k) : Gr w0 w' :=
  ⟨hg.os.trans h.os, hg.tape.trans h.tape, hg.output.trans h.output, Nat.le_trans h.size hg.size, fun k hk => (hg.block k (Nat.lt_of_lt_of_le hk h.size) (fun e => by have := hr k e.symm; omega)).trans (h.block k hk)⟩
theorem Sl.form {w0 w : World} {v : Value} {ps : List (List UInt8)} (h : Sl w0 w v ps) (hn : 0 < ps.length) : ∃ g cap, v = .slice (some ⟨g, 0, none⟩) ps.length cap ∧ w0.heap.size ≤ g ∧ ps.length ≤ cap := by
  rcases h.1.2 with ⟨_, h0⟩ | ⟨g, cap, cur, hv, hb, _, hc, _⟩
  · omega
  · exact ⟨g, cap, hv, hb, hc⟩
theorem infoStr : (Tryd.prog.info? 9).map (fun i => (i.zero, i.size, i.bytes)) = some (some (.string ⟨#[]⟩), 1, 16) := by kernel_rfl
theorem take_one_drop (s : ByteArray) (k : Nat) (h : k < s.size) : (s.data.toList.drop k).take (k + 1 - k) = [s[k]] := by
  rw [List.drop_eq_getElem_cons (by simpa using h), show k + 1 - k = 1 by omega]
  rfl
/- the pieces, as a slice of texts -/
def PcsAt (c : UInt8) (l : List UInt8) (ps : List ByteArray) (w : World) (e : Ending) (w' : World) : Prop :=
  ps.map (·.data.toList) = pcs c l ∧ ∃ b cap, e = .returned (.slice (some ⟨b, 0, none⟩) ps.length cap) ∧ w.heap.size ≤ b ∧ b < w'.heap.size ∧ Txts w' b ps ∧ Gr w w' ∧ ps.length ≤ cap
theorem map_back (l : List (List UInt8)) : (l.map fun p => (⟨p.toArray⟩ : ByteArray)).map (·.data.toList) = l := by
  induction l with
  | nil => rfl
  | cons p l ih => rw [List.map_cons, List.map_cons, ih]
end Go.Proofs.YtilkcjcmcnlfnaaDoor.Pth