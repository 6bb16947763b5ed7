/- Texts between quotes, in lists. No condition. -/
import Derived.Test.YtdgcpgbknfojhaaDoorBase
namespace Go.Proofs.YtdgcpgbknfojhaaDoor
set_option linter.unusedVariables false
def plainC (c : UInt8) : Bool := decide (32 ≤ c.toNat ∧ c.toNat ≤ 126 ∧ c.toNat ≠ 34 ∧ c.toNat ≠ 92)
def hexC (c : UInt8) : Option Nat := if 48 ≤ c.toNat ∧ c.toNat ≤ 57 then some (c.toNat - 48) else if 97 ≤ c.toNat ∧ c.toNat ≤ 102 then some (c.toNat - 87) else none
def hexT : List UInt8 := [48, 49, 50, 51, 52, 53, 54, 55, 56, 57, 97, 98, 99, 100, 101, 102]
def quoC (c : UInt8) : List UInt8 := if plainC c = true then [c] else [92, hexT.getD (c.toNat / 16) 0, hexT.getD (c.toNat % 16) 0]
def quoL (s : List UInt8) : List UInt8 := (s.map quoC).flatten
def quoF (s : List UInt8) : List UInt8 := 34 :: quoL s ++ [34]
/- the byte that s begins with, and how many bytes tell it; 0: none does -/
def firstF (s : List UInt8) : UInt8 × Nat := match s with
  | [] => (0, 0)
  | c :: r => if plainC c = true then (c, 1) else if c.toNat ≠ 92 then (0, 0) else match r with
    | h :: l :: _ => match hexC h, hexC l with
      | some a, some b => (UInt8.ofNat (16 * a + b), 3)
      | _, _ => (0, 0)
    | _ => (0, 0)
theorem firstF_le (s : List UInt8) : (firstF s).2 ≤ s.length := by
  unfold firstF
  (repeat' split) <;> simp_all
/- what stands behind the first quote, up to the next one: the text, the rest -/
def cutQ : Nat → List UInt8 → Option (List UInt8 × List UInt8)
  | 0, _ => none
  | n + 1, s => match s with
    | [] => none
    | c :: r => if c.toNat = 34 then some ([], r) else if (firstF (c :: r)).2 = 0 then none else (cutQ n ((c :: r).drop (firstF (c :: r)).2)).map fun x => ((firstF (c :: r)).1 :: x.1, x.2)
def quoCut (s : List UInt8) : Option (List UInt8 × List UInt8) := match s with
  | [] => none
  | c :: r => if c.toNat ≠ 34 then none else cutQ (r.length + 1) r
def wholeF (s : List UInt8) : Option (List UInt8) := match quoCut s with
  | some (t, []) => some t
  | _ => none
theorem cutQ_more : ∀ (n m : Nat) (s : List UInt8), s.length < n → s.length < m → cutQ n s = cutQ m s := by
  intro n
  induction n with
  | zero => intro m s h; omega
  | succ n ih =>
    intro m s hn hm
    cases m with
    | zero => omega
    | succ m =>
      cases s with
      | nil => rfl
      | cons c r =>
        simp only [cutQ]
        by_cases h0 : (firstF (c :: r)).2 = 0
        · simp [h0]
        · have hd : ((c :: r).drop (firstF (c :: r)).2).length < r.length + 1 := by rw [List.length_drop, List.length_cons]; omega
          rw [ih m _ (by rw [List.length_cons] at hn; omega) (by rw [List.length_cons] at hm; omega)]
/- the same, all of it being inside (as the document goes) -/
def unqI : Nat → List UInt8 → Option (List UInt8)
  | 0, _ => none
  | n + 1, s => match s with
    | [] => some []
    | c :: r => if (firstF (c :: r)).2 = 0 then none else (unqI n ((c :: r).drop (firstF (c :: r)).2)).map fun x => (firstF (c :: r)).1 :: x
theorem unqI_more : ∀ (n m : Nat) (s : List UInt8), s.length < n → s.length < m → unqI n s = unqI m s := by
  intro n
  induction n with
  | zero => intro m s h; omega
  | succ n ih =>
    intro m s hn hm
    cases m with
    | zero => omega
    | succ m =>
      cases s with
      | nil => rfl
      | cons c r =>
        simp only [unqI]
        by_cases h0 : (firstF (c :: r)).2 = 0
        · simp [h0]
        · have hd : ((c :: r).drop (firstF (c :: r)).2).length < r.length + 1 := by rw [List.length_drop, List.length_cons]; omega
          rw [ih m _ (by rw [List.length_cons] at hn; omega) (by rw [List.length_cons] at hm; omega)]
def innerF (s : List UInt8) : Option (List UInt8) := unqI (s.length + 1) s
def docF (s : List UInt8) : Option (List UInt8) := if s.length < 2 ∨ s.head? ≠ some 34 ∨ s.getLast? ≠ some 34 then none else innerF ((s.drop 1).dropLast)
theorem innerF_nil : innerF [] = some [] := rfl
theorem innerF_cons (c : UInt8) (r : List UInt8) : innerF (c :: r) = if (firstF (c :: r)).2 = 0 then none else (innerF ((c :: r).drop (firstF (c :: r)).2)).map fun x => (firstF (c :: r)).1 :: x := by
  unfold innerF
  rw [List.length_cons, unqI]
  by_cases h0 : (firstF (c :: r)).2 = 0
  · simp [h0]
  · have hd : ((c :: r).drop (firstF (c :: r)).2).length < r.length + 1 := by rw [List.length_drop, List.length_cons]; omega
    simp only [h0, if_false]
    rw [unqI_more (r.length + 1) (((c :: r).drop (firstF (c :: r)).2).length + 1) _ (by omega) (by omega)]
def cutR (s : List UInt8) : Option (List UInt8 × List UInt8) := cutQ (s.length + 1) s
theorem cutR_nil : cutR [] = none := rfl
theorem cutR_cons (c : UInt8) (r : List UInt8) : cutR (c :: r) = if c.toNat = 34 then some ([], r) else if (firstF (c :: r)).2 = 0 then none else (cutR ((c :: r).drop (firstF (c :: r)).2)).map fun x => ((firstF (c :: r)).1 :: x.1, x.2) := by
  unfold cutR
  rw [List.length_cons, cutQ]
  by_cases h0 : (firstF (c :: r)).2 = 0
  · simp [h0]
  · have hd : ((c :: r).drop (firstF (c :: r)).2).length < r.length + 1 := by rw [List.length_drop, List.length_cons]; omega
    simp only [h0, if_false]
    rw [cutQ_more (r.length + 1) (((c :: r).drop (firstF (c :: r)).2).length + 1) _ (by omega) (by omega)]
theorem quoCut_cons (c : UInt8) (r : List UInt8) : quoCut (c :: r) = if c.toNat ≠ 34 then none else cutR r := rfl
/- a quote begins no byte -/
theorem first_quote (r : List UInt8) : (firstF (34 :: r)).2 = 0 := by
  unfold firstF
  simp [plainC]
theorem hexC_ascii {c : UInt8} {a : Nat} (h : hexC c = some a) : a < 16 ∧ c.toNat ≠ 34 := by
  unfold hexC at h
  split at h
  · rw [Option.some.injEq] at h; omega
  · split at h
    · rw [Option.some.injEq] at h; omega
    · cases h
theorem first_app {s t : List UInt8} (h : (firstF s).2 ≠ 0) : firstF (s ++ t) = firstF s := by
  unfold firstF at h ⊢
  match s with
  | [] => simp at h
  | c :: r =>
    simp only [List.cons_append] at h ⊢
    by_cases hp : plainC c = true
    · simp [hp]
    · simp only [hp, Bool.false_eq_true, if_false] at h ⊢
      by_cases h9 : c.toNat ≠ 92
      · rw [if_pos h9] at h; simp at h
      · simp only [if_neg h9] at h ⊢
        match r with
        | [] => simp at h
        | [_] => simp at h
        | x :: y :: r' => rfl
/- what stands whole ahead of a quote is read up to it, and only that -/
theorem cutR_inner : ∀ (n : Nat) (s t r : List UInt8), s.length ≤ n → innerF s = some t → cutR (s ++ 34 :: r) = some (t, r) := by
  intro n
  induction n with
  | zero =>
    intro s t r hs h
    have : s = [] := List.eq_nil_of_length_eq_zero (by omega)
    subst this
    rw [innerF_nil, Option.some.injEq] at h
    subst h
    rw [List.nil_append, cutR_cons]; rfl
  | succ n ih =>
    intro s t r hs h
    cases s with
    | nil =>
      rw [innerF_nil, Option.some.injEq] at h
      subst h
      rw [List.nil_append, cutR_cons]; rfl
    | cons c s =>
      rw [innerF_cons] at h
      by_cases h0 : (firstF (c :: s)).2 = 0
      · rw [if_pos h0] at h; cases h
      · rw [if_neg h0] at h
        have hq : c.toNat ≠ 34 := fun e => h0 (by rw [show c = 34 from UInt8.toNat_inj.1 e]; exact first_quote s)
        have hle := firstF_le (c :: s)
        have hf : firstF (c :: (s ++ 34 :: r)) = firstF (c :: s) := first_app (s := c :: s) h0
        rw [List.cons_append, cutR_cons, if_neg hq, hf, if_neg h0]
        cases hi : innerF ((c :: s).drop (firstF (c :: s)).2) with
        | none => rw [hi] at h; cases h
        | some u =>
          rw [hi, Option.map_some, Option.some.injEq] at h
          subst h
          have := ih ((c :: s).drop (firstF (c :: s)).2) u r (by rw [List.length_drop]; rw [List.length_cons] at hs ⊢; omega) hi
          rw [← List.cons_append, List.drop_append_of_le_length hle, this]
          rfl
theorem cutR_some : ∀ (n : Nat) (s t r : List UInt8), s.length ≤ n → cutR s = some (t, r) → ∃ i, s = i ++ 34 :: r ∧ innerF i = some t := by
  intro n
  induction n with
  | zero =>
    intro s t r hs h
    have : s = [] := List.eq_nil_of_length_eq_zero (by omega)
    subst this
    rw [cutR_nil] at h; cases h
  | succ n ih =>
    intro s t r hs h
    cases s with
    | nil => rw [cutR_nil] at h; cases h
    | cons c s =>
      rw [cutR_cons] at h
      by_cases hq : c.toNat = 34
      · rw [if_pos hq, Option.some.injEq, Prod.mk.injEq] at h
        obtain ⟨rfl, rfl⟩ := h
        exact ⟨[], by rw [show c = 34 from UInt8.toNat_inj.1 hq]; rfl, innerF_nil⟩
      · rw [if_neg hq] at h
        by_cases h0 : (firstF (c :: s)).2 = 0
        · rw [if_pos h0] at h; cases h
        · rw [if_neg h0] at h
          cases hi : cutR ((c :: s).drop (firstF (c :: s)).2) with
          | none => rw [hi] at h; cases h
          | some u =>
            obtain ⟨u1, u2⟩ := u
            rw [hi, Option.map_some, Option.some.injEq, Prod.mk.injEq] at h
            obtain ⟨h1, h2⟩ := h
            simp only at h1 h2
            subst h2
            obtain ⟨i, e1, e2⟩ := ih _ _ _ (by rw [List.length_drop]; rw [List.length_cons] at hs ⊢; omega) hi
            have hle := firstF_le (c :: s)
            have hs2 : c :: s = ((c :: s).take (firstF (c :: s)).2 ++ i) ++ 34 :: u2 := by
              rw [List.append_assoc, ← e1, List.take_append_drop]
            have htk : ∃ k, (c :: s).take (firstF (c :: s)).2 = c :: k := ⟨s.take ((firstF (c :: s)).2 - 1), by
              obtain ⟨m, hm⟩ : ∃ m, (firstF (c :: s)).2 = m + 1 := ⟨(firstF (c :: s)).2 - 1, by omega⟩
              rw [hm]; rfl⟩
            obtain ⟨k, hk⟩ := htk
            refine ⟨(c :: s).take (firstF (c :: s)).2 ++ i, hs2, ?_⟩
            have hkl : (c :: k).length = (firstF (c :: s)).2 := by rw [← hk, List.length_take]; omega
            have hf2 : firstF (c :: (k ++ i)) = firstF (c :: s) := by
              have hne : (firstF (c :: k)).2 ≠ 0 := by
                rw [← hk]
                unfold firstF at h0 ⊢
                by_cases hp : plainC c = true
                · simp [hp]
                · simp only [hp, Bool.false_eq_true, if_false] at h0 ⊢
                  by_cases h9 : c.toNat ≠ 92
                  · rw [if_pos h9] at h0; simp at h0
                  · rw [if_neg h9] at h0 ⊢
                    match s with
                    | [] => simp at h0
                    | [_] => simp at h0
                    | x :: y :: s' =>
                      simp only at h0 ⊢
                      cases hx : hexC x with
                      | none => simp [hx] at h0
                      | some a =>
                        cases hy : hexC y with
                        | none => simp [hx, hy] at h0
                        | some b => simp [hx, hy, hp, Classical.not_not.1 h9]
              have ha := first_app (t := i) hne
              have hb : firstF (c :: s) = firstF (c :: k) := by
                conv => lhs; rw [← List.take_append_drop (firstF (c :: s)).2 (c :: s), hk]
                exact first_app (t := (c :: s).drop (firstF (c :: s)).2) hne
              rw [List.cons_append] at ha
              rw [ha, hb]
            rw [hk, List.cons_append, innerF_cons, hf2, if_neg h0, ← List.cons_append, ← hkl, List.drop_left, e2, ← h1]
            rfl
theorem whole_doc (s : List UInt8) : wholeF s = docF s := by
  unfold wholeF docF
  cases s with
  | nil => rfl
  | cons c r =>
    rw [quoCut_cons]
    by_cases hc : c.toNat = 34
    · have hc' : c = 34 := UInt8.toNat_inj.1 hc
      subst hc'
      rw [if_neg (by simp)]
      by_cases hr : r = []
      · subst hr; rfl
      · have hl : ∃ i l, r = i ++ [l] := ⟨r.dropLast, r.getLast hr, (List.dropLast_concat_getLast hr).symm⟩
        obtain ⟨i, l, rfl⟩ := hl
        have h1 : (34 :: (i ++ [l]) : List UInt8).getLast? = some l := by rw [← List.cons_append, List.getLast?_append]; rfl
        have h2 : ((34 :: (i ++ [l]) : List UInt8).drop 1).dropLast = i := by simp
        rw [h1, h2]
        by_cases hl : l = 34
        · subst hl
          rw [if_neg (by simp)]
          cases hi : innerF i with
          | some t => rw [cutR_inner _ i t [] (Nat.le_refl _) hi]
          | none =>
            cases hq : cutR (i ++ [34]) with
            | none => rfl
            | some x =>
              obtain ⟨t, r'⟩ := x
              cases r' with
              | cons _ _ => rfl
              | nil =>
                obtain ⟨j, e1, e2⟩ := cutR_some _ _ _ _ (Nat.le_refl _) hq
                have : i = j := List.append_cancel_right e1
                rw [this, e2] at hi; cases hi
        · rw [if_pos (by simp [hl])]
          cases hq : cutR (i ++ [l]) with
          | none => rfl
          | some x =>
            obtain ⟨t, r'⟩ := x
            cases r' with
            | cons _ _ => rfl
            | nil =>
              obtain ⟨j, e1, e2⟩ := cutR_some _ _ _ _ (Nat.le_refl _) hq
              have := List.append_inj_right' e1 rfl
              exact absurd (List.cons.inj this).1 hl
    · rw [if_pos hc, if_pos]
      right; left
      intro e
      simp only [List.head?_cons, Option.some.injEq] at e
      exact hc (by rw [e]; rfl)
/- there and back -/
theorem hexT_all : (List.range 16).all (fun k => hexC (hexT.getD k 0) == some k) = true := by decide
theorem hexT_ok {k : Nat} (h : k < 16) : hexC (hexT.getD k 0) = some k := by
  have := List.all_eq_true.1 hexT_all k (List.mem_range.2 h)
  simpa using this
theorem quoC_first (c : UInt8) (r : List UInt8) : firstF (quoC c ++ r) = (c, (quoC c).length) := by
  unfold quoC
  by_cases hp : plainC c = true
  · rw [if_pos hp]
    simp [firstF, hp]
  · rw [if_neg hp]
    have hlt := c.toNat_lt
    have h1 := hexT_ok (k := c.toNat / 16) (by omega)
    have h2 := hexT_ok (k := c.toNat % 16) (by omega)
    have hn : plainC 92 = false := by decide
    simp only [List.cons_append, List.nil_append, firstF, hn, Bool.false_eq_true, if_false, h1, h2]
    have e : 16 * (c.toNat / 16) + c.toNat % 16 = c.toNat := by omega
    rw [e, UInt8.ofNat_toNat]
    rfl
theorem inner_quo : ∀ s : List UInt8, innerF (quoL s) = some s := by
  intro s
  induction s with
  | nil => rfl
  | cons c r ih =>
    have e : quoL (c :: r) = quoC c ++ quoL r := rfl
    have hf := quoC_first c (quoL r)
    have hne : quoC c ≠ [] := by unfold quoC; split <;> simp
    rw [e]
    obtain ⟨x, y, hxy⟩ := List.exists_cons_of_ne_nil hne
    rw [hxy, List.cons_append] at hf ⊢
    rw [innerF_cons, hf, if_neg (by simp), ← List.cons_append]
    simp only
    rw [List.drop_left, ih]
    rfl
theorem whole_quo (s : List UInt8) : wholeF (quoF s) = some s := by
  unfold wholeF quoF
  rw [List.cons_append, quoCut_cons, if_neg (by simp), cutR_inner _ _ _ [] (Nat.le_refl _) (inner_quo s)]
theorem quoC_len (c : UInt8) : (quoC c).length ≤ 3 := by unfold quoC; split <;> simp
theorem quoL_len (s : List UInt8) : (quoL s).length ≤ 3 * s.length := by
  induction s with
  | nil => simp [quoL]
  | cons c r ih =>
    have e : quoL (c :: r) = quoC c ++ quoL r := rfl
    have := quoC_len c
    rw [e, List.length_append, List.length_cons]; omega
theorem quoF_len (s : List UInt8) : (quoF s).length ≤ 3 * s.length + 2 := by
  have := quoL_len s
  simp [quoF]; omega
theorem hexT_no (k : Nat) : hexT.getD k 0 ≠ 10 ∧ hexT.getD k 0 ≠ 34 := by
  by_cases h : k < 16
  · have : (List.range 16).all (fun k => hexT.getD k 0 != 10 && hexT.getD k 0 != 34) = true := by decide
    have := List.all_eq_true.1 this k (List.mem_range.2 h)
    simpa using this
  · rw [List.getD_eq_getElem?_getD, List.getElem?_eq_none (by simp [hexT]; omega)]; decide
theorem quoL_feed (s : List UInt8) : (10 : UInt8) ∉ quoL s := by
  intro h
  unfold quoL at h
  rw [List.mem_flatten] at h
  obtain ⟨l, hl, hm⟩ := h
  obtain ⟨c, -, rfl⟩ := List.mem_map.1 hl
  unfold quoC at hm
  split at hm
  · rename_i hp
    rw [List.mem_singleton] at hm
    subst hm
    exact absurd hp (by decide)
  · simp only [List.mem_cons, List.not_mem_nil, or_false] at hm
    rcases hm with h | h | h
    · cases h
    · exact (hexT_no _).1 h.symm
    · exact (hexT_no _).1 h.symm
theorem quoF_feed (s : List UInt8) : (10 : UInt8) ∉ quoF s := by
  unfold quoF
  simp only [List.cons_append, List.mem_cons, List.mem_append, List.not_mem_nil, or_false, not_or]
  exact ⟨by decide, quoL_feed s, by decide⟩
end Go.Proofs.YtdgcpgbknfojhaaDoor
