/- Lines with a note and an empty line put among them (AsmNotes): the texts, their pieces, their lengths. No condition. -/
import Derived.Test.YtaihgciokfkonaaDoorAmLaw
namespace Go.Proofs.YtaihgciokfkonaaDoor
set_option linter.unusedVariables false
theorem joinN_snoc' (l : List (List UInt8)) (t : List UInt8) : joinN (l ++ [t]) = joinN l ++ t ++ [10] := by
  rw [joinN_app]; simp [joinN]
/- the lines with the note among them -/
def twoF (a : Nat) (note : List UInt8) (l : List (List UInt8)) : List (List UInt8) := if a < l.length then l.take a ++ (59 :: note) :: [] :: l.drop a else l
theorem twoF_snoc (a : Nat) (note : List UInt8) (l : List (List UInt8)) (x : List UInt8) : twoF a note (l ++ [x]) = if l.length = a then l ++ [59 :: note, [], x] else twoF a note l ++ [x] := by
  unfold twoF
  rw [List.length_append, List.length_singleton]
  by_cases h : l.length = a
  · subst h
    rw [if_pos (by omega), if_pos rfl, List.take_left, List.drop_left]
  · rw [if_neg h]
    by_cases h2 : a < l.length
    · rw [if_pos (by omega), if_pos h2, List.take_append_of_le_length (by omega), List.drop_append_of_le_length (by omega)]
      simp
    · rw [if_neg (by omega), if_neg h2]
/- behind k lines of L: the two texts -/
structure NoteT (ls : List (List UInt8)) (a : Nat) (note : List UInt8) (k : Nat) (S T : List UInt8) : Prop where
  s0 : k = 0 → S = [] ∧ T = []
  s1 : 0 < k → S ++ [10] = joinN (ls.take k)
  t0 : k < ls.length → T = joinN (twoF a note (ls.take k))
  t1 : 0 < k → k = ls.length → T ++ [10] = joinN (twoF a note (ls.take k))
  sl : S.length ≤ 16385
  tl : T.length ≤ S.length + 1 + (if a < k then note.length + 3 else 0)
  nl : ∀ x ∈ ls.take k, (10 : UInt8) ∉ x
theorem NoteT.zero (ls : List (List UInt8)) (a : Nat) (note : List UInt8) : NoteT ls a note 0 [] [] :=
  ⟨fun _ => ⟨rfl, rfl⟩, fun h => absurd h (by omega), fun _ => by simp [twoF, joinN], fun h => absurd h (by omega), by simp, by simp, fun x hx => by simp at hx⟩
theorem NoteT.step {ls : List (List UInt8)} {a : Nat} {note : List UInt8} {k : Nat} {S T : List UInt8} (h : NoteT ls a note k S T) (hk : k < ls.length) (x : List UInt8) (hx : ls.take (k + 1) = ls.take k ++ [x]) (hn : (10 : UInt8) ∉ x) (hl : S.length + x.length ≤ 16384) :
    NoteT ls a note (k + 1) ((if 0 < k then S ++ [10] else S) ++ x) ((if k = a then T ++ [59] ++ note ++ [10, 10] else T) ++ x ++ (if k + 1 < ls.length then [10] else [])) := by
  obtain ⟨s0, s1, t0, t1, sl, tl, nl⟩ := h
  have hlen : (ls.take k).length = k := by rw [List.length_take]; omega
  have hjS : joinN (ls.take (k + 1)) = (if 0 < k then S ++ [10] else S) ++ x ++ [10] := by
    rw [hx, joinN_snoc']
    by_cases h0 : 0 < k
    · rw [if_pos h0, s1 h0]
    · obtain rfl : k = 0 := by omega
      rw [if_neg h0, (s0 rfl).1]; simp [joinN]
  have hjT : joinN (twoF a note (ls.take (k + 1))) = (if k = a then T ++ [59] ++ note ++ [10, 10] else T) ++ x ++ [10] := by
    rw [hx, twoF_snoc, hlen]
    by_cases h0 : k = a
    · rw [if_pos h0, if_pos h0]
      have ht := t0 hk
      unfold twoF at ht
      rw [if_neg (by rw [hlen]; omega)] at ht
      rw [joinN_app, ← ht]
      simp [joinN]
    · rw [if_neg h0, if_neg h0, joinN_snoc', t0 hk]
  refine ⟨fun h => absurd h (by omega), fun _ => hjS.symm, fun h => ?_, fun _ h => ?_, ?_, ?_, ?_⟩
  · rw [hjT, if_pos h]
  · rw [hjT, if_neg (show ¬ k + 1 < ls.length by omega), List.append_nil]
  · by_cases h0 : 0 < k
    · rw [if_pos h0]; simp; omega
    · rw [if_neg h0]; simp; omega
  · by_cases h0 : 0 < k
    · rw [if_pos h0]
      by_cases h1 : k = a
      · rw [if_pos h1, if_pos (show a < k + 1 by omega)]
        rw [if_neg (show ¬ a < k by omega)] at tl
        split <;> simp <;> omega
      · rw [if_neg h1]
        by_cases h2 : a < k
        · rw [if_pos h2] at tl
          rw [if_pos (show a < k + 1 by omega)]
          split <;> simp <;> omega
        · rw [if_neg h2] at tl
          rw [if_neg (show ¬ a < k + 1 by omega)]
          split <;> simp <;> omega
    · obtain rfl : k = 0 := by omega
      rw [if_neg h0]
      obtain ⟨rfl, rfl⟩ := s0 rfl
      by_cases h1 : 0 = a
      · rw [if_pos h1, if_pos (show a < 0 + 1 by omega)]
        split <;> simp <;> omega
      · rw [if_neg h1, if_neg (show ¬ a < 0 + 1 by omega)]
        split <;> simp
  · intro y hy
    rw [hx] at hy
    rcases List.mem_append.1 hy with h | h
    · exact nl y h
    · rw [List.mem_singleton.1 h]; exact hn
theorem pcs_lined {ls : List (List UInt8)} (hn : ∀ x ∈ ls, (10 : UInt8) ∉ x) {s : List UInt8} (hs : s ++ [10] = joinN ls) : Pth.pcs 10 s = ls := by
  have h1 := pcs_lines ls [] hn
  rw [List.append_nil, ← hs, Pth.pcs_snoc] at h1
  obtain ⟨pre, q, hq⟩ := Pth.pcs_ne 10 s
  rw [hq, Pth.pstep_tail, if_pos rfl] at h1
  rw [hq]
  exact List.append_cancel_right h1
/- the two programs, when all lines are done -/
theorem NoteT.both {ls : List (List UInt8)} {a : Nat} {note : List UInt8} {S T : List UInt8} (h : NoteT ls a note ls.length S T) (ha : a ≤ ls.length) (hno : (10 : UInt8) ∉ note) (hnl : note.length ≤ 1000) :
    asmF T = ((asmF S).1, if a < ls.length then laterN a (asmF S).2.1 else (asmF S).2.1, (asmF S).2.2) := by
  obtain ⟨s0, s1, t0, t1, sl, tl, nl⟩ := h
  rw [List.take_length] at s1 t1 nl
  by_cases h0 : 0 < ls.length
  · have hps := pcs_lined nl (s1 h0)
    by_cases h1 : a < ls.length
    · rw [if_pos h1]
      have ht := t1 h0 rfl
      unfold twoF at ht
      rw [if_pos h1] at ht
      have hpt : Pth.pcs 10 T = ls.take a ++ (59 :: note) :: [] :: ls.drop a := by
        refine pcs_lined (fun x hx => ?_) ht
        rcases List.mem_append.1 hx with h | h
        · exact nl x (List.mem_of_mem_take h)
        · rcases List.mem_cons.1 h with h | h
          · subst h
            intro hm
            rcases List.mem_cons.1 hm with h | h
            · cases h
            · exact hno h
          · rcases List.mem_cons.1 h with h | h
            · subst h; simp
            · exact nl x (List.mem_of_mem_drop h)
      have hla : (ls.take a).length = a := by rw [List.length_take]; omega
      have := asm_later (ls.take a) (ls.drop a) (59 :: note) [] (.inr rfl) (.inl rfl) (s := S) (t := T) (by omega) (by rw [if_pos h1] at tl; omega) (by rw [hps, List.take_append_drop]) hpt
      rw [hla] at this
      exact this
    · rw [if_neg h1]
      have ht := t1 h0 rfl
      unfold twoF at ht
      rw [if_neg h1, ← s1 h0] at ht
      rw [List.append_cancel_right ht]
  · obtain ⟨rfl, rfl⟩ := s0 (by omega)
    rw [if_neg (by omega)]
/- the place is one of the lines', or none -/
theorem fillF_no (ls : List (List UInt8 × Int)) : ∀ (l : List LineL) (n : Int), fillF ls l = .error n → ∃ z ∈ l, z.no = n := by
  intro l
  induction l with
  | nil => intro n h; cases h
  | cons z r ih =>
    intro n h
    rw [fillF] at h
    have hr : ∀ {f : List InsL → List InsL}, (fillF ls r).map f = .error n → ∃ y ∈ z :: r, y.no = n := by
      intro f e
      cases hf : fillF ls r with
      | error m =>
        rw [hf] at e
        simp only [Except.map, Except.error.injEq] at e
        obtain ⟨y, hy, e2⟩ := ih m hf
        exact ⟨y, List.mem_cons_of_mem _ hy, e2.trans e⟩
      | ok p => rw [hf] at e; cases e
    split at h
    · exact hr h
    · split at h
      · cases h; exact ⟨z, List.mem_cons_self, rfl⟩
      · exact hr h
theorem asmF_place (s : List UInt8) : 0 ≤ (asmF s).2.1 ∧ (asmF s).2.1 ≤ 65537 := by
  unfold asmF
  split
  · simp
  · have hp := Pth.pcs_len 10 s
    cases h : linesF (Pth.pcs 10 s) 0 ⟨[], []⟩ with
    | error x => have := linesF_errno _ _ _ _ h; simp only; omega
    | ok r =>
      simp only
      have hno := linesF_no _ _ _ _ h (fun z hz => by cases hz)
      unfold endF
      split
      · rename_i n hf
        obtain ⟨z, hz, rfl⟩ := fillF_no _ _ _ hf
        have := hno z hz
        simp only; omega
      · split
        · simp only
          rw [List.getD_eq_getElem?_getD]
          cases hg : (r.list.map LineL.no)[(checkF _).1.toNat]? with
          | none => simp
          | some m =>
            obtain ⟨z, hz, rfl⟩ := List.mem_map.1 (List.mem_of_getElem? hg)
            have := hno z hz
            simp only [Option.getD_some]; omega
        · split <;> simp
end Go.Proofs.YtaihgciokfkonaaDoor
