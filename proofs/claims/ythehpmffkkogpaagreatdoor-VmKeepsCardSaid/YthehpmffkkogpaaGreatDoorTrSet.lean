/- A row of files of the call's own, written over in place; makes of files that are turned round. No condition. -/
import Derived.Test.YthehpmffkkogpaaGreatDoorTrEnc
namespace Go.Proofs.YthehpmffkkogpaaGreatDoor
set_option linter.unusedVariables false
open Go.ChangeShapes Go.WideShapes Go.ChangeAt Go.RowKit
theorem flatP_set : ∀ (xs : List FileL) (i : Nat) (x : FileL), flatP (xs.set i x) = ((flatP xs).set (i * 2) (.string (tx x.1))).set (i * 2 + 1) (.string (tx x.2))
  | [], i, x => by simp [flatP]
  | y :: r, 0, x => by rfl
  | y :: r, i + 1, x => by
    have e : (i + 1) * 2 = i * 2 + 2 := by omega
    rw [List.set_cons_succ, flatP, flatP_set r i x, flatP, e]
    rfl
theorem row_set {w : World} {base g n cap i : Nat} {xs : List FileL} (h : w.ownsRow base 43 2 (.slice (some ⟨g, 0, none⟩) n cap) n (flatP xs)) (hi : i < n) (x : FileL) :
    ((w.setCell ⟨g, i * 2, none⟩ (.string (tx x.1))).setCell ⟨g, i * 2 + 1, none⟩ (.string (tx x.2))).ownsRow base 43 2 (.slice (some ⟨g, 0, none⟩) n cap) n (flatP (xs.set i x)) := by
  have hl : (flatP xs).length = n * 2 := h.1
  rcases h.2 with ⟨e, _⟩ | ⟨g', cap', cur, e, hb, hh, h1, h2, h3, h4⟩
  · cases e
  · cases e
    refine ⟨by rw [flatP_set, List.length_set, List.length_set]; exact hl, .inr ⟨g, cap, _, rfl, hb, heap_set (heap_set hh (i := i * 2) _) (i := i * 2 + 1) _, h1, h2, by simpa using h3, ?_⟩⟩
    rw [flatP_set, ← h4]
    simp only [Array.toList_setIfInBounds]
    rw [List.take_set, List.take_set]
theorem set_chg {w : World} {g i : Nat} (u1 u2 : Value) : Chg (fun y => y = g) w ((w.setCell ⟨g, i * 2, none⟩ u1).setCell ⟨g, i * 2 + 1, none⟩ u2) :=
  ((Chg.refl (fun y => y = g) w).setCell (p := ⟨g, i * 2, none⟩) (.inl rfl) u1).setCell (p := ⟨g, i * 2 + 1, none⟩) (.inl rfl) u2
theorem swap_perm {xs : List FileL} {i : Nat} (h : i + 1 < xs.length) : ((xs.set i xs[i + 1]).set (i + 1) (xs[i]'(by omega))).Perm xs := by
  have e : xs = xs.take i ++ xs[i]'(by omega) :: xs[i + 1] :: xs.drop (i + 2) := by
    rw [← List.drop_eq_getElem_cons h, ← List.drop_eq_getElem_cons (by omega), List.take_append_drop]
  have hl : (xs.take i).length = i := by rw [List.length_take]; omega
  generalize xs[i + 1] = b at *
  generalize xs[i]'(by omega) = a at *
  generalize xs.take i = p at *
  generalize xs.drop (i + 2) = r at *
  subst e
  rw [List.set_append_right _ _ (by omega), hl, Nat.sub_self, List.set_cons_zero, List.set_append_right _ _ (by omega), hl]
  have e2 : i + 1 - i = 1 := by omega
  rw [e2, List.set_cons_succ, List.set_cons_zero]
  exact List.Perm.append_left p (List.Perm.swap _ _ _)
theorem badF_perm {l m : List FileL} (h : l.Perm m) : badF l = none ↔ badF m = none := by
  rw [badF_none, badF_none]
  exact ⟨fun x f hf => x f (h.mem_iff.2 hf), fun x f hf => x f (h.mem_iff.1 hf)⟩
theorem badF_two {l : List FileL} {y : Int} (h : badF l = some y) : y = 10 ∨ y = 3 := by
  induction l with
  | nil => cases h
  | cons f r ih =>
    rw [badF] at h
    split at h
    · cases h; exact .inl rfl
    · split at h
      · cases h; exact .inr rfl
      · exact ih h
theorem make_perm {l m : List FileL} (h : l.Perm m) : makeF l = makeF m ∨ ∃ y z : Int, makeF l = .error y ∧ makeF m = .error z ∧ (y = 10 ∨ y = 3) ∧ (z = 10 ∨ z = 3) := by
  have hlen := h.length_eq
  by_cases h32 : 32 < l.length
  · exact .inl (by rw [make_many h32, make_many (by omega)])
  · have h32' : ¬ 32 < m.length := by omega
    cases hb : badF l with
    | some y =>
      cases hb' : badF m with
      | some z => exact .inr ⟨y, z, make_bad h32 hb, make_bad h32' hb', badF_two hb, badF_two hb'⟩
      | none => rw [(badF_perm h).2 hb'] at hb; cases hb
    | none =>
      have hb' := (badF_perm h).1 hb
      have hk : (keysL l).Nodup ↔ (keysL m).Nodup := List.Perm.nodup_iff (h.map (fun x : FileL => x.1))
      by_cases hn : (keysL l).Nodup
      · have hn' := hk.1 hn
        have hc := clashF_perm h
        have hs : sortF l = sortF m := asc_perm (sortF_asc l) (sortF_asc m) ((sortF_perm hn).trans (h.trans (sortF_perm hn').symm))
        left
        cases hcl : clashF l with
        | true => rw [make_clash h32 hb hn hcl, make_clash h32' hb' hn' (by rw [← hc]; exact hcl)]
        | false => rw [make_ok h32 hb hn hcl, make_ok h32' hb' hn' (by rw [← hc]; exact hcl), hs]
      · exact .inl (by rw [make_two h32 hb hn, make_two h32' hb' fun e => hn (hk.2 e)])
end Go.Proofs.YthehpmffkkogpaaGreatDoor
