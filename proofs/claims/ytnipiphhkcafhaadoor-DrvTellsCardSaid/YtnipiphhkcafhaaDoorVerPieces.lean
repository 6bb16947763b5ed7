/- What stands between the bytes of one kind, and the contract of the document's Pieces. Condition: the text is at most 2^16 bytes. -/
import Derived.Test.YtnipiphhkcafhaaDoorVerTextMath
import Derived.WalkSpells
import Derived.OwnWalk
import Derived.Laws.OwnMore
namespace Go.Proofs.YtnipiphhkcafhaaDoor.Ver
set_option linter.unusedVariables false
open Go.ChangeShapes Go.WideShapes Go.ChangeAt Go.RowKit Go.Sort
def pstep (c : UInt8) (ps : List (List UInt8)) (b : UInt8) : List (List UInt8) := if b = c then ps ++ [[]] else ps.dropLast ++ [ps.getLastD [] ++ [b]]
def pcs (c : UInt8) (l : List UInt8) : List (List UInt8) := l.foldl (pstep c) [[]]
theorem pcs_nil (c : UInt8) : pcs c [] = [[]] := rfl
theorem pcs_snoc (c b : UInt8) (l : List UInt8) : pcs c (l ++ [b]) = pstep c (pcs c l) b := by simp [pcs]
theorem pstep_tail (c b : UInt8) (acc : List (List UInt8)) (p : List UInt8) : pstep c (acc ++ [p]) b = if b = c then acc ++ [p] ++ [[]] else acc ++ [p ++ [b]] := by
  unfold pstep
  split <;> simp
theorem pfold_tail (c : UInt8) (l : List UInt8) : ∀ (acc : List (List UInt8)) (p : List UInt8), l.foldl (pstep c) (acc ++ [p]) = acc ++ l.foldl (pstep c) [p] := by
  induction l with
  | nil => intro acc p; rfl
  | cons b l ih =>
    intro acc p
    simp only [List.foldl_cons]
    rw [pstep_tail]
    have e := pstep_tail c b [] p
    simp only [List.nil_append] at e
    rw [e]
    by_cases h : b = c
    · rw [if_pos h, if_pos h, ih (acc ++ [p]) [], ih [p] []]
      simp
    · rw [if_neg h, if_neg h, ih acc (p ++ [b])]
theorem pfold_free (c : UInt8) (l : List UInt8) (h : c ∉ l) : ∀ (p : List UInt8), l.foldl (pstep c) [p] = [p ++ l] := by
  induction l with
  | nil => intro p; simp
  | cons b l ih =>
    intro p
    have hb : ¬ b = c := fun e => h (by simp [e])
    have e := pstep_tail c b [] p
    simp only [List.nil_append] at e
    simp only [List.foldl_cons]
    rw [e, if_neg hb, ih (fun hm => h (by simp [hm]))]
    simp
theorem pcs_free {c : UInt8} {l : List UInt8} (h : c ∉ l) : pcs c l = [l] := by
  have := pfold_free c l h []
  simpa [pcs] using this
theorem pcs_cut {c : UInt8} {l r : List UInt8} (h : c ∉ l) : pcs c (l ++ c :: r) = l :: pcs c r := by
  unfold pcs
  rw [List.foldl_append, show l.foldl (pstep c) [[]] = [l] from pcs_free h, List.foldl_cons]
  have e := pstep_tail c c [] l
  simp only [List.nil_append] at e
  rw [e, if_pos True.intro, pfold_tail c r [l] []]
  rfl
theorem rev_ind {p : List UInt8 → Prop} (h0 : p []) (h1 : ∀ l b, p l → p (l ++ [b])) (l : List UInt8) : p l := by
  have h : ∀ m : List UInt8, p m.reverse := by
    intro m
    induction m with
    | nil => exact h0
    | cons b m ih => rw [List.reverse_cons]; exact h1 _ _ ih
  have := h l.reverse
  rwa [List.reverse_reverse] at this
theorem pcs_ne (c : UInt8) (l : List UInt8) : ∃ ini q, pcs c l = ini ++ [q] := by
  refine rev_ind (p := fun l => ∃ ini q, pcs c l = ini ++ [q]) ⟨[], [], rfl⟩ (fun l b ih => ?_) l
  rw [pcs_snoc]
  unfold pstep
  split
  · exact ⟨_, _, rfl⟩
  · exact ⟨_, _, rfl⟩
theorem pcs_len (c : UInt8) (l : List UInt8) : (pcs c l).length ≤ l.length + 1 := by
  refine rev_ind (p := fun l => (pcs c l).length ≤ l.length + 1) (by simp [pcs_nil]) (fun l b ih => ?_) l
  rw [pcs_snoc]
  unfold pstep
  split
  · simp; omega
  · simp; omega
theorem pcs_small (c : UInt8) (l : List UInt8) : ∀ p ∈ pcs c l, p.length ≤ l.length := by
  refine rev_ind (p := fun l => ∀ p ∈ pcs c l, p.length ≤ l.length) (by simp [pcs_nil]) (fun l b ih => ?_) l
  rw [pcs_snoc]
  unfold pstep
  intro p hp
  split at hp
  · rcases List.mem_append.1 hp with h | h
    · have := ih p h; simp; omega
    · simp at h; subst h; simp
  · rcases List.mem_append.1 hp with h | h
    · have := ih p (List.dropLast_subset _ h); simp; omega
    · simp at h
      subst h
      obtain ⟨ini, q, e⟩ := pcs_ne c l
      have := ih q (by rw [e]; simp)
      rw [e]
      simp
      omega
def strs (ps : List (List UInt8)) : List Value := ps.map fun p => .string ⟨p.toArray⟩
theorem strs_one (ps : List (List UInt8)) : ∀ u ∈ strs ps, u.oneCell' = true := by
  intro u hu
  obtain ⟨p, _, rfl⟩ := List.mem_map.1 hu
  rfl
theorem strs_len (ps : List (List UInt8)) : (strs ps).length = ps.length := by simp [strs]
/-- A slice of texts that the call has made. -/
def Sl (w0 w : World) (v : Value) (ps : List (List UInt8)) : Prop := w.ownsRow w0.heap.size 9 1 v ps.length (strs ps) ∧ Gr w0 w
theorem gr_grown {w0 w w' : World} {row : Option Nat} (h : Gr w0 w) (hg : w.grownBy w' row) (hr : ∀ k, row = some k → w0.heap.size ≤ k) : Gr w0 w' :=
  ⟨hg.os.trans h.os, hg.tape.trans h.tape, hg.output.trans h.output, Nat.le_trans h.size hg.size, fun k hk => (hg.block k (Nat.lt_of_lt_of_le hk h.size) (fun e => by have := hr k e.symm; omega)).trans (h.block k hk)⟩
theorem Sl.form {w0 w : World} {v : Value} {ps : List (List UInt8)} (h : Sl w0 w v ps) (hn : 0 < ps.length) : ∃ g cap, v = .slice (some ⟨g, 0, none⟩) ps.length cap ∧ w0.heap.size ≤ g ∧ ps.length ≤ cap := by
  rcases h.1.2 with ⟨_, h0⟩ | ⟨g, cap, cur, hv, hb, _, hc, _⟩
  · omega
  · exact ⟨g, cap, hv, hb, hc⟩
theorem take_one_drop (s : ByteArray) (k : Nat) (h : k < s.size) : (s.data.toList.drop k).take (k + 1 - k) = [s[k]] := by
  rw [List.drop_eq_getElem_cons (by simpa using h), show k + 1 - k = 1 by omega]
  rfl
theorem take_more (s : ByteArray) (k : Nat) (h : k < s.size) : s.data.toList.take (k + 1) = s.data.toList.take k ++ [s[k]] := by
  rw [List.take_succ_eq_append_getElem (by simpa using h)]
  rfl
end Go.Proofs.YtnipiphhkcafhaaDoor.Ver
