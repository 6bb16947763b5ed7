/- What the statements say, in lists: written and read back, other letters, notes between, one behind the other. No condition. -/
import Derived.Test.YtaihgciokfkonaaDoorAmBackM
namespace Go.Proofs.YtaihgciokfkonaaDoor
set_option linter.unusedVariables false
open Go.ChangeShapes Go.WideShapes Go.ChangeAt Go.RowKit
theorem let_l : letR 108 := ⟨by decide, by decide⟩
/- no line of a program has a feed in it -/
theorem writF_feed {c : UInt8} (hc : letR c) (x : InsL) : (10 : UInt8) ∉ writF c x := by
  have hi : ∀ n : Int, (10 : UInt8) ∉ Lib.itoa n := fun n h => by have := itoa_in n 10 h; revert this; decide
  have hcc : (10 : UInt8) ≠ c := by rintro rfl; exact absurd hc.1 (by decide)
  have hw : (10 : UInt8) ∉ wordL x.op := wordL_no x.op 10 (.inl (by decide))
  unfold writF
  intro h
  rcases List.mem_append.1 h with h | h
  · exact hw h
  · split at h
    · rcases List.mem_cons.1 h with e | h
      · exact absurd e (by decide)
      · exact hi _ h
    · split at h
      · rcases List.mem_cons.1 h with e | h
        · exact absurd e (by decide)
        · exact quoF_feed _ h
      · split at h
        · rcases List.mem_cons.1 h with e | h
          · exact absurd e (by decide)
          · rcases List.mem_cons.1 h with e | h
            · exact hcc e
            · exact hi _ h
        · cases h
theorem lab_feed {c : UInt8} (hc : letR c) (k : Int) : (10 : UInt8) ∉ labT c k ++ [58] := by
  have hi : (10 : UInt8) ∉ Lib.itoa k := fun h => by have := itoa_in k 10 h; revert this; decide
  have hcc : (10 : UInt8) ≠ c := by rintro rfl; exact absurd hc.1 (by decide)
  intro h
  rcases List.mem_append.1 h with h | h
  · rcases List.mem_cons.1 h with e | h
    · exact hcc e
    · exact hi h
  · exact absurd (List.mem_singleton.1 h) (by decide)
theorem rowsF_feed {c : UInt8} (hc : letR c) (p : List InsL) : ∀ (r : List InsL) (i : Nat), ∀ t ∈ rowsF c p i r, (10 : UInt8) ∉ t := by
  intro r
  induction r with
  | nil => intro i t h; cases h
  | cons x r ih =>
    intro i t h
    rw [rowsF, pieceF] at h
    rcases List.mem_append.1 h with h | h
    · rcases List.mem_append.1 h with h | h
      · split at h
        · rw [List.mem_singleton.1 h]; exact lab_feed hc _
        · cases h
      · rw [List.mem_singleton.1 h]; exact writF_feed hc x
    · exact ih _ t h
theorem dis_pcs {c : UInt8} (hc : letR c) (p : List InsL) (t : List UInt8) : Pth.pcs 10 (joinN (rowsF c p 0 p) ++ t) = rowsF c p 0 p ++ Pth.pcs 10 t := pcs_lines _ t (rowsF_feed hc p p 0)
theorem disF_ok {p : List InsL} (h : (checkF p).2 = 0) : disF p = (joinN (rowsF 108 p 0 p), 0) := by
  unfold disF
  rw [if_neg (by rw [h]; simp)]
/- P9.2 -/
theorem asm_dis {p : List InsL} (h : (checkF p).2 = 0) (hw : ∀ x ∈ p, x.wf) (hs : (disF p).1.length ≤ 65536) : asmF (disF p).1 = (p, 0, 0) := by
  rw [disF_ok h] at hs ⊢
  refine asm_rows let_l h hw [[]] (fun t ht => .inl (List.mem_singleton.1 ht)) hs ?_
  have := dis_pcs let_l p []
  rw [List.append_nil] at this
  exact this
/- the same without its last feed, or with a note behind it -/
theorem asm_note {p : List InsL} (h : (checkF p).2 = 0) (hw : ∀ x ∈ p, x.wf) (t : List UInt8) (ht : (10 : UInt8) ∉ t) (hh : t.head? = some 59) (hs : ((disF p).1 ++ t).length ≤ 65536) : asmF ((disF p).1 ++ t) = (p, 0, 0) := by
  rw [disF_ok h] at hs ⊢
  refine asm_rows let_l h hw [t] (fun u hu => .inr (by rw [List.mem_singleton.1 hu]; exact hh)) hs ?_
  have := dis_pcs let_l p t
  rw [Pth.pcs_free ht] at this
  exact this
theorem asm_short {p : List InsL} (h : (checkF p).2 = 0) (hw : ∀ x ∈ p, x.wf) (hs : (disF p).1.length ≤ 65536) : asmF (disF p).1.dropLast = (p, 0, 0) := by
  rw [disF_ok h] at hs ⊢
  obtain ⟨_, hne, _, _⟩ := check_ok h
  have hrn : rowsF 108 p 0 p ≠ [] := by
    obtain ⟨x, r, rfl⟩ := List.exists_cons_of_ne_nil hne
    rw [rowsF, pieceF]; simp
  obtain ⟨ini, z, hz⟩ : ∃ ini z, rowsF 108 p 0 p = ini ++ [z] := ⟨_, _, (List.dropLast_concat_getLast hrn).symm⟩
  have hf : ∀ t ∈ ini ++ [z], (10 : UInt8) ∉ t := fun t ht => rowsF_feed let_l p p 0 t (by rw [hz]; exact ht)
  have e : (joinN (rowsF 108 p 0 p)).dropLast = joinN ini ++ z := by
    rw [hz, joinN_app]
    simp only [joinN, List.map_cons, List.map_nil, List.flatten_cons, List.flatten_nil, List.append_nil]
    rw [← List.append_assoc, List.dropLast_concat]
  refine asm_rows let_l h hw [] (fun u hu => by cases hu) (by rw [List.length_dropLast]; omega) ?_
  rw [e, pcs_lines _ _ (fun t ht => hf t (List.mem_append_left _ ht)), Pth.pcs_free (hf z (by simp)), List.append_nil, hz]
/- one behind the other -/
theorem rows_none {c : UInt8} {p : List InsL} (h : ∀ x ∈ p, takesF x.op ≠ 4) : ∀ (r : List InsL) (i : Nat), rowsF c p i r = r.map (writF c) := by
  have ha : ∀ i, aimF p i = false := by
    intro i
    refine List.any_eq_false.2 fun y hy => ?_
    simp [h y hy]
  intro r
  induction r with
  | nil => intro i; rfl
  | cons x r ih => intro i; rw [rowsF, pieceF, ha, ih]; rfl
theorem stands_size {x : InsL} (h : takesF x.op ≠ 4) (n m : Int) : standsF x n = standsF x m := by
  unfold standsF
  simp [h]
theorem check_app {a b : List InsL} (ha : (checkF a).2 = 0) (hb : (checkF b).2 = 0) (h4 : ∀ x ∈ a ++ b, takesF x.op ≠ 4) (hl : a.length ≤ 128 ∧ b.length ≤ 128) : (checkF (a ++ b)).2 = 0 := by
  obtain ⟨_, hne, _, hsa⟩ := check_ok ha
  obtain ⟨_, _, _, hsb⟩ := check_ok hb
  have hpos : 0 < a.length := List.length_pos_iff.2 hne
  unfold checkF
  rw [if_neg (by rw [List.length_append]; omega), List.findIdx?_eq_none_iff.2]
  intro x hx
  rcases List.mem_append.1 hx with h | h
  · rw [stands_size (h4 x hx) _ a.length, hsa x h]; rfl
  · rw [stands_size (h4 x hx) _ b.length, hsb x h]; rfl
theorem dis_app {a b : List InsL} (ha : (checkF a).2 = 0) (hb : (checkF b).2 = 0) (h4 : ∀ x ∈ a ++ b, takesF x.op ≠ 4) (hl : a.length ≤ 128 ∧ b.length ≤ 128) : (disF (a ++ b)).1 = (disF a).1 ++ (disF b).1 := by
  rw [disF_ok ha, disF_ok hb, disF_ok (check_app ha hb h4 hl)]
  simp only
  rw [← joinN_app, rows_none h4, rows_none (fun x hx => h4 x (List.mem_append_left _ hx)), rows_none (fun x hx => h4 x (List.mem_append_right _ hx)), List.map_append]
theorem asm_join {a b : List InsL} (ha : (checkF a).2 = 0) (hb : (checkF b).2 = 0) (hwa : ∀ x ∈ a, x.wf) (hwb : ∀ x ∈ b, x.wf) (h4 : ∀ x ∈ a ++ b, takesF x.op ≠ 4) (hl : a.length ≤ 128 ∧ b.length ≤ 128) (hs : (disF a).1.length + (disF b).1.length ≤ 65536) : asmF ((disF a).1 ++ (disF b).1) = (a ++ b, 0, 0) := by
  rw [← dis_app ha hb h4 hl]
  refine asm_dis (check_app ha hb h4 hl) (fun x hx => ?_) (by rw [dis_app ha hb h4 hl, List.length_append]; exact hs)
  rcases List.mem_append.1 hx with h | h
  · exact hwa x h
  · exact hwb x h
/- other letters: what is done with each line -/
def turn1 (c : UInt8) (t : List UInt8) : List UInt8 := if 2 < t.length ∧ t.getLast? = some 58 then c :: t.drop 1 else t
def turn2 (c : UInt8) (t b : List UInt8) : List UInt8 :=
  if 5 < t.length ∧ (t.take 5 = [106, 117, 109, 112, 32] ∨ t.take 5 = [122, 101, 114, 111, 32] ∨ t.take 5 = [99, 97, 108, 108, 32]) then b.take 5 ++ c :: b.drop 6 else b
def turnF (c : UInt8) (t : List UInt8) : List UInt8 := turn2 c t (turn1 c t)
theorem turn_nil (c : UInt8) : turnF c [] = [] := rfl
theorem turn_lab (c : UInt8) {k : Int} (h0 : 0 ≤ k) (h1 : k ≤ 1048576) : turnF c (labT 108 k ++ [58]) = labT c k ++ [58] := by
  have he := itoa_ne k (by omega) (by omega)
  obtain ⟨a, r, har⟩ := List.exists_cons_of_ne_nil he
  have e1 : turn1 c (labT 108 k ++ [58]) = labT c k ++ [58] := by
    unfold turn1 labT
    rw [if_pos ⟨by simp [har], List.getLast?_concat⟩]
    rfl
  unfold turnF turn2
  rw [if_neg, e1]
  rintro ⟨_, h⟩
  unfold labT at h
  simp at h
theorem cutW_writ (c : UInt8) (x : InsL) : (cutW (writF c x)).1 = wordL x.op := by
  unfold writF
  split
  · rw [cutW_word]
  · split
    · rw [cutW_word]
    · split
      · rw [cutW_word]
      · rw [List.append_nil, cutW_alone]
theorem take_cut {t w : List UInt8} (hw : w.length = 4) (hn : (32 : UInt8) ∉ w) (h : t.take 5 = w ++ [32]) : (cutW t).1 = w := by
  have e : t = w ++ 32 :: t.drop 5 := by
    conv => lhs; rw [← List.take_append_drop 5 t, h]
    simp
  unfold cutW
  rw [e, cutC_some.2 ⟨rfl, hn⟩]
theorem word_jump : wordL 17 = [106, 117, 109, 112] := by decide
theorem word_zero : wordL 18 = [122, 101, 114, 111] := by decide
theorem word_call : wordL 19 = [99, 97, 108, 108] := by decide
theorem turn_writ (c : UInt8) {x : InsL} (hw : x.wf) : turnF c (writF 108 x) = writF c x := by
  have hno := writ_last (c := 108) hw
  have hN := hw.2.1
  have e1 : turn1 c (writF 108 x) = writF 108 x := if_neg (fun h => hno h.2)
  unfold turnF turn2
  rw [e1]
  by_cases h4 : takesF x.op = 4
  · have hop : x.op = 17 ∨ x.op = 18 ∨ x.op = 19 := by
      unfold takesF at h4
      (repeat' split at h4) <;> omega
    have he := itoa_ne x.n hN.1 hN.2
    obtain ⟨a, r, har⟩ := List.exists_cons_of_ne_nil he
    obtain ⟨op, n, s⟩ := x
    simp only at hop h4 har
    rcases hop with rfl | rfl | rfl
    · simp [writF, word_jump, takesF, labT, har]
    · simp [writF, word_zero, takesF, labT, har]
    · simp [writF, word_call, takesF, labT, har]
  · rw [if_neg]
    · simp [writF, h4]
    · rintro ⟨_, h⟩
      have hk : ∀ (k : Nat) (w : List UInt8), 1 ≤ k ∧ k < 31 → wordsB.getD k [] = w → w.length = 4 → (32 : UInt8) ∉ w → (writF 108 x).take 5 = w ++ [32] → x.op = k := by
        intro k w h1 h2 h3 h5 h6
        have := take_cut h3 h5 h6
        rw [cutW_writ] at this
        exact (wordL_eq x.op k h1).1 (by rw [this, h2])
      rcases h with h | h | h
      · have := hk 17 [106, 117, 109, 112] (by omega) (by decide) rfl (by decide) h
        rw [this] at h4; exact h4 (by decide)
      · have := hk 18 [122, 101, 114, 111] (by omega) (by decide) rfl (by decide) h
        rw [this] at h4; exact h4 (by decide)
      · have := hk 19 [99, 97, 108, 108] (by omega) (by decide) rfl (by decide) h
        rw [this] at h4; exact h4 (by decide)
theorem turn_rows {c : UInt8} {p : List InsL} (h : ∀ x ∈ p, x.wf ∧ wordL x.op ≠ []) : ∀ (r : List InsL) (i : Nat), (∀ x ∈ r, x ∈ p) → i + r.length ≤ 1048576 → (rowsF 108 p i r).map (turnF c) = rowsF c p i r := by
  intro r
  induction r with
  | nil => intro i _ _; rfl
  | cons x r ih =>
    intro i hr hi
    rw [List.length_cons] at hi
    rw [rowsF, rowsF, List.map_append, ih (i + 1) (fun y hy => hr y (List.mem_cons_of_mem _ hy)) (by omega), pieceF, pieceF, List.map_append, List.map_singleton, turn_writ c (h x (hr x List.mem_cons_self)).1]
    by_cases ha : aimF p i = true
    · rw [if_pos ha, if_pos ha, List.map_singleton, turn_lab c (by omega) (by omega)]
    · rw [if_neg ha, if_neg ha]; rfl
/- what the statement makes of a program's text, and that it is the program -/
theorem asm_turn {c : UInt8} (hc : letR c) {p : List InsL} (h : (checkF p).2 = 0) (hw : ∀ x ∈ p, x.wf) (hs : (joinN ((Pth.pcs 10 (disF p).1).map (turnF c))).length ≤ 65536) : asmF (joinN ((Pth.pcs 10 (disF p).1).map (turnF c))) = (p, 0, 0) := by
  obtain ⟨_, _, hlen, hst⟩ := check_ok h
  have hwd : ∀ x ∈ p, x.wf ∧ wordL x.op ≠ [] := by
    intro x hx
    refine ⟨hw x hx, fun e => ?_⟩
    have := hst x hx
    rw [standsF, if_pos e] at this
    cases this
  have e1 : Pth.pcs 10 (disF p).1 = rowsF 108 p 0 p ++ [[]] := by
    rw [disF_ok h]
    have := dis_pcs let_l p []
    rw [List.append_nil] at this
    exact this
  have e2 : (Pth.pcs 10 (disF p).1).map (turnF c) = rowsF c p 0 p ++ [[]] := by
    rw [e1, List.map_append, turn_rows hwd p 0 (fun x hx => hx) (by omega)]
    rfl
  rw [e2] at hs ⊢
  refine asm_rows hc h hw [[], []] (fun t ht => .inl ?_) hs ?_
  · simpa using ht
  · have := pcs_lines (rowsF c p 0 p ++ [[]]) [] ?_
    · rw [List.append_nil] at this
      rw [this, List.append_assoc]; rfl
    · intro t ht
      rcases List.mem_append.1 ht with h | h
      · exact rowsF_feed hc p p 0 t h
      · rw [List.mem_singleton.1 h]; simp
/- lines that are nothing, put between: a fault stands so many lines later -/
def laterN (at' : Nat) (n : Int) : Int := if (at' : Int) < n then n + 2 else n
def laterS (at' : Nat) (s : SrcL) : SrcL := ⟨s.labs, s.list.map fun l => ⟨laterN at' l.no, l.ins, l.lab⟩⟩
theorem addF_later (a : Nat) (s : SrcL) (t : List UInt8) (k : Nat) (hk : a ≤ k) : addF (laterS a s) t (((k + 2 : Nat) : Int) + 1) = (addF s t ((k : Int) + 1)).map (laterS a) := by
  unfold addF
  split
  · rfl
  · split
    · have e1 : (laterS a s).labs = s.labs := rfl
      have e2 : (laterS a s).list.length = s.list.length := by simp [laterS]
      rw [e1, e2]
      split <;> rfl
    · cases hi : insF t with
      | none => rfl
      | some x =>
        simp only [Except.map, laterS, List.map_append, List.map_cons, List.map_nil]
        rw [show laterN a ((k : Int) + 1) = ((k + 2 : Nat) : Int) + 1 by unfold laterN; rw [if_pos (by omega)]; omega]
theorem linesF_later (a : Nat) : ∀ (l : List (List UInt8)) (s : SrcL) (k : Nat), a ≤ k → linesF l (k + 2) (laterS a s) = match linesF l k s with
    | .error x => .error (x.1 + 2, x.2)
    | .ok s' => .ok (laterS a s') := by
  intro l
  induction l with
  | nil => intro s k _; rfl
  | cons t r ih =>
    intro s k hk
    rw [linesF, linesF, addF_later a s t k hk]
    cases h : addF s t ((k : Int) + 1) with
    | error e => simp only [Except.map]; rfl
    | ok s' =>
      simp only [Except.map]
      have := ih s' (k + 1) (by omega)
      rw [show k + 2 + 1 = k + 1 + 2 by omega]
      exact this
theorem linesF_no : ∀ (l : List (List UInt8)) (s s' : SrcL) (k : Nat), linesF l k s = .ok s' → (∀ z ∈ s.list, 1 ≤ z.no ∧ z.no ≤ (k : Int)) → ∀ z ∈ s'.list, 1 ≤ z.no ∧ z.no ≤ ((k + l.length : Nat) : Int) := by
  intro l
  induction l with
  | nil => intro s s' k h hz z hm; cases h; simpa using hz z hm
  | cons t r ih =>
    intro s s' k h hz
    rw [linesF] at h
    cases ha : addF s t ((k : Int) + 1) with
    | error e => rw [ha] at h; cases h
    | ok s1 =>
      rw [ha] at h
      have := ih s1 s' (k + 1) h ?_
      · intro z hm
        have := this z hm
        rw [List.length_cons]; omega
      · intro z hm
        unfold addF at ha
        split at ha
        · cases ha; have := hz z hm; omega
        · split at ha
          · split at ha
            · cases ha
            · cases ha; have := hz z hm; omega
          · split at ha
            · cases ha
            · cases ha
              rcases List.mem_append.1 hm with h | h
              · have := hz z h; omega
              · rw [List.mem_singleton.1 h]; simp only; omega
theorem linesF_errno : ∀ (l : List (List UInt8)) (s : SrcL) (k : Nat) (x : Int × Int), linesF l k s = .error x → (k : Int) < x.1 ∧ x.1 ≤ ((k + l.length : Nat) : Int) := by
  intro l
  induction l with
  | nil => intro s k x h; cases h
  | cons t r ih =>
    intro s k x h
    rw [linesF] at h
    cases ha : addF s t ((k : Int) + 1) with
    | error e => rw [ha] at h; cases h; rw [List.length_cons]; simp only; omega
    | ok s1 =>
      rw [ha] at h
      have := ih s1 (k + 1) x h
      rw [List.length_cons]; omega
theorem fillF_later (ls : List (List UInt8 × Int)) (a : Nat) : ∀ l : List LineL, fillF ls (l.map fun l => ⟨laterN a l.no, l.ins, l.lab⟩) = match fillF ls l with
    | .error n => .error (laterN a n)
    | .ok p => .ok p := by
  intro l
  induction l with
  | nil => rfl
  | cons z r ih =>
    rw [List.map_cons, fillF, fillF, ih]
    simp only
    split
    · cases fillF ls r <;> rfl
    · cases atK ls z.lab with
      | none => rfl
      | some v => cases fillF ls r <;> rfl
theorem fillF_len (ls : List (List UInt8 × Int)) : ∀ (l : List LineL) (p : List InsL), fillF ls l = .ok p → p.length = l.length := by
  intro l
  induction l with
  | nil => intro p h; cases h; rfl
  | cons z r ih =>
    intro p h
    rw [fillF] at h
    split at h
    · cases hf : fillF ls r with
      | error e => rw [hf] at h; cases h
      | ok q => rw [hf] at h; cases h; simp [ih q hf]
    · cases ha : atK ls z.lab with
      | none => rw [ha] at h; cases h
      | some v =>
        rw [ha] at h
        simp only at h
        cases hf : fillF ls r with
        | error e => rw [hf] at h; cases h
        | ok q => rw [hf] at h; cases h; simp [ih q hf]
theorem endF_later (a : Nat) (s : SrcL) : endF (laterS a s) = ((endF s).1, laterN a (endF s).2.1, (endF s).2.2) := by
  have h0 : laterN a 0 = 0 := by unfold laterN; rw [if_neg (by omega)]
  unfold endF
  simp only [laterS, fillF_later]
  cases hf : fillF s.labs s.list with
  | error n => rfl
  | ok p =>
    simp only
    by_cases h1 : (checkF p).2 = 30
    · rw [if_pos h1, if_pos h1]
      simp only
      congr 2
      have hlt : (checkF p).1.toNat < p.length := by
        unfold checkF at h1 ⊢
        split at h1
        · simp at h1
        · rename_i hn
          rw [if_neg hn]
          cases hi : p.findIdx? (fun x => !standsF x p.length) with
          | none => rw [hi] at h1; simp at h1
          | some k =>
            simp only
            have := (List.findIdx?_eq_some_iff_getElem.1 hi).1
            omega
      rw [fillF_len _ _ _ hf] at hlt
      rw [List.getD_eq_getElem?_getD, List.getD_eq_getElem?_getD, List.getElem?_map, List.getElem?_map, List.getElem?_map, List.getElem?_eq_getElem hlt]
      rfl
    · rw [if_neg h1, if_neg h1]
      split
      · simp only [h0]
      · simp only [h0]
/- P9.3 -/
theorem asm_later (l r : List (List UInt8)) (n1 n2 : List UInt8) (h1 : n1 = [] ∨ n1.head? = some 59) (h2 : n2 = [] ∨ n2.head? = some 59) {s t : List UInt8} (hs : s.length ≤ 65536) (ht : t.length ≤ 65536) (hps : Pth.pcs 10 s = l ++ r) (hpt : Pth.pcs 10 t = l ++ n1 :: n2 :: r) :
    asmF t = ((asmF s).1, laterN l.length (asmF s).2.1, (asmF s).2.2) := by
  unfold asmF
  rw [if_neg (by omega), if_neg (by omega), hps, hpt, linesF_app, linesF_app]
  cases hl : linesF l 0 ⟨[], []⟩ with
  | error x =>
    simp only
    have := linesF_errno _ _ _ _ hl
    rw [show laterN l.length x.1 = x.1 by unfold laterN; rw [if_neg (by omega)]]
  | ok s1 =>
    simp only
    rw [linesF, addF, if_pos h1]
    simp only
    rw [linesF, addF, if_pos h2]
    simp only
    have hno := linesF_no _ _ _ _ hl (fun z hz => by cases hz)
    have e : laterS l.length s1 = s1 := by
      obtain ⟨L, Z⟩ := s1
      unfold laterS
      simp only at hno ⊢
      congr 1
      conv => rhs; rw [← List.map_id Z]
      refine List.map_congr_left fun z hz => ?_
      have := hno z hz
      rw [show laterN l.length z.no = z.no by unfold laterN; rw [if_neg (by omega)]]
      rfl
    have := linesF_later l.length r s1 (0 + l.length) (by omega)
    rw [e] at this
    rw [show 0 + l.length + 1 + 1 = 0 + l.length + 2 by omega, this]
    cases hr : linesF r (0 + l.length) s1 with
    | error x =>
      simp only
      have := linesF_errno _ _ _ _ hr
      rw [show laterN l.length x.1 = x.1 + 2 by unfold laterN; rw [if_pos (by omega)]]
    | ok s2 =>
      simp only
      exact endF_later l.length s2
end Go.Proofs.YtaihgciokfkonaaDoor
