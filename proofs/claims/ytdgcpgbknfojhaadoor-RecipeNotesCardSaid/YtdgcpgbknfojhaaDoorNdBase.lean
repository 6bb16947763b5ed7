/- What the document says of nodes and bytes, over lists: writing, reading, there and back. No condition. -/
import Derived.Test.YtdgcpgbknfojhaaDoorBase
import Derived.Lib.ItoaNum
import Derived.Lib.ItoaLen
import Derived.Lib.AtoiAllCases
import Derived.Lib.AtoiTie
import Derived.Lib.AtoiBound
namespace Go.Proofs.YtdgcpgbknfojhaaDoor
set_option linter.unusedVariables false
/- a node: an atom's mark, its text, its nodes -/
inductive Nd where
  | mk : Bool → ByteArray → List Nd → Nd
def Nd.leaf : Nd → Bool | .mk l _ _ => l
def Nd.atom : Nd → ByteArray | .mk _ a _ => a
def Nd.kids : Nd → List Nd | .mk _ _ ks => ks
/- digits -/
theorem dec_eq (u : Nat) : Lib.decDigits u = if u < 10 then [UInt8.ofNat (48 + u)] else Lib.decDigits (u / 10) ++ [UInt8.ofNat (48 + u % 10)] := by
  rw [Lib.decDigits]
  split <;> simp_all
theorem dig_nat (d : Nat) (h : d < 10) : (UInt8.ofNat (48 + d)).toNat = 48 + d := by
  rw [UInt8.toNat_ofNat']
  omega
theorem dec_in (u : Nat) : ∀ b ∈ Lib.decDigits u, 48 ≤ b.toNat ∧ b.toNat ≤ 57 := by
  induction u using Nat.strongRecOn with
  | _ u ih =>
    intro b hb
    rw [dec_eq] at hb
    split at hb
    · rename_i h
      have : b = UInt8.ofNat (48 + u) := by simpa using hb
      rw [this, dig_nat u h]
      omega
    · rename_i h
      rcases List.mem_append.1 hb with hb | hb
      · exact ih (u / 10) (by omega) b hb
      · have : b = UInt8.ofNat (48 + u % 10) := by simpa using hb
        rw [this, dig_nat (u % 10) (by omega)]
        omega
def val (l : List UInt8) : Nat := l.foldl (fun n b => n * 10 + (b.toNat - 48)) 0
theorem val_snoc (l : List UInt8) (b : UInt8) : val (l ++ [b]) = val l * 10 + (b.toNat - 48) := by simp [val]
theorem val_dec (u : Nat) : val (Lib.decDigits u) = u := by
  induction u using Nat.strongRecOn with
  | _ u ih =>
    rw [dec_eq]
    split
    · rename_i h
      show (0 * 10 + ((UInt8.ofNat (48 + u)).toNat - 48)) = u
      rw [dig_nat u h]
      omega
    · rename_i h
      rw [val_snoc, ih (u / 10) (by omega), dig_nat (u % 10) (by omega)]
      omega
theorem dec_ne (u : Nat) : Lib.decDigits u ≠ [] := by
  rw [dec_eq]
  split <;> simp
theorem dec_nocolon (u : Nat) : (58 : UInt8) ∉ Lib.decDigits u := fun h => absurd (dec_in u 58 h).2 (by decide)
theorem dec_head (u : Nat) : ∃ c r, Lib.decDigits u = c :: r ∧ 48 ≤ c.toNat ∧ c.toNat ≤ 57 := by
  cases h : Lib.decDigits u with
  | nil => exact absurd h (dec_ne u)
  | cons c r => exact ⟨c, r, rfl, dec_in u c (by rw [h]; simp)⟩
theorem first_split {c : UInt8} {l : List UInt8} (h : c ∈ l) : ∃ p r, l = p ++ c :: r ∧ c ∉ p := by
  induction l with
  | nil => cases h
  | cons b l ih =>
    by_cases hb : b = c
    · exact ⟨[], l, by simp [hb], by simp⟩
    · obtain ⟨p, r, e, hp⟩ := ih (by rcases List.mem_cons.1 h with e | e; · exact absurd e.symm hb
                                     · exact e)
      exact ⟨b :: p, r, by rw [e]; rfl, by simp [hp, Ne.symm hb]⟩
theorem cut_first {l m r s : List UInt8} {x : UInt8} (hl : x ∉ l) (hm : x ∉ m) (h : l ++ x :: r = m ++ x :: s) : l = m ∧ r = s := by
  induction l generalizing m with
  | nil =>
    cases m with
    | nil => exact ⟨rfl, by simpa using h⟩
    | cons c m => simp at h; exact absurd h.1 (fun e => hm (by simp [e]))
  | cons c l ih =>
    cases m with
    | nil => simp at h; exact absurd h.1.symm (fun e => hl (by simp [e]))
    | cons d m =>
      simp at h
      obtain ⟨rfl, h⟩ := h
      obtain ⟨h1, h2⟩ := ih (fun e => hl (by simp [e])) (fun e => hm (by simp [e])) h
      exact ⟨by rw [h1], h2⟩
/- the piece ahead of the first byte c, and what stands behind that -/
def cutC (c : UInt8) : List UInt8 → Option (List UInt8 × List UInt8)
  | [] => none
  | b :: l => if b = c then some ([], l) else match cutC c l with
    | none => none
    | some (p, r) => some (b :: p, r)
theorem cutC_none {c : UInt8} {l : List UInt8} : cutC c l = none ↔ c ∉ l := by
  induction l with
  | nil => simp [cutC]
  | cons b l ih =>
    rw [cutC]
    by_cases h : b = c
    · simp [h]
    · rw [if_neg h]
      cases hc : cutC c l with
      | none => simp [ih.1 hc, Ne.symm h]
      | some pr => simp only [reduceCtorEq, false_iff, List.mem_cons, not_or, not_and, Classical.not_not]; intro _; exact Classical.byContradiction fun hn => by rw [ih.2 hn] at hc; cases hc
theorem cutC_some {c : UInt8} {l p r : List UInt8} : cutC c l = some (p, r) ↔ l = p ++ c :: r ∧ c ∉ p := by
  induction l generalizing p with
  | nil => simp [cutC]
  | cons b l ih =>
    rw [cutC]
    by_cases h : b = c
    · rw [if_pos h]
      subst h
      constructor
      · intro e
        simp only [Option.some.injEq, Prod.mk.injEq] at e
        obtain ⟨rfl, rfl⟩ := e
        exact ⟨rfl, by simp⟩
      · rintro ⟨e, hp⟩
        cases p with
        | nil => simp at e; rw [e]
        | cons d p => simp at e; exact absurd (by simp [e.1]) hp
    · rw [if_neg h]
      cases hc : cutC c l with
      | none =>
        constructor
        · intro e; cases e
        · rintro ⟨e, hp⟩
          exfalso
          cases p with
          | nil => simp at e; exact h e.1
          | cons d p => simp at e; exact (cutC_none.1 hc) (by rw [e.2]; simp)
      | some pr =>
        obtain ⟨p', r'⟩ := pr
        constructor
        · intro e
          simp only [Option.some.injEq, Prod.mk.injEq] at e
          obtain ⟨rfl, rfl⟩ := e
          obtain ⟨h1, h2⟩ := ih.1 hc
          exact ⟨by rw [h1]; rfl, by simp [h2, Ne.symm h]⟩
        · rintro ⟨e, hp⟩
          cases p with
          | nil => simp at e; exact absurd e.1 h
          | cons d p =>
            simp at e
            obtain ⟨rfl, e⟩ := e
            have := ih.2 ⟨e, fun x => hp (by simp [x])⟩
            rw [hc] at this
            simp at this
            rw [this.1, this.2]
/- the number that digits spell, as it is written -/
def numL (c : List UInt8) : Option Nat := if Lib.decDigits (val c) = c then some (val c) else none
theorem numL_dec (u : Nat) : numL (Lib.decDigits u) = some u := by unfold numL; rw [val_dec, if_pos rfl]
theorem numL_some {c : List UInt8} {n : Nat} (h : numL c = some n) : c = Lib.decDigits n := by
  unfold numL at h
  split at h
  · rename_i e
    cases h
    exact e.symm
  · cases h
/- the atom that bytes begin with -/
def atomL (s : List UInt8) : Option (List UInt8 × List UInt8) := match cutC 58 s with
  | none => none
  | some (c, r) => match numL c with
    | none => none
    | some n => if r.length < n then none else some (r.take n, r.drop n)
def atomB (a : List UInt8) : List UInt8 := Lib.decDigits a.length ++ 58 :: a
theorem atomL_enc (a r : List UInt8) : atomL (atomB a ++ r) = some (a, r) := by
  unfold atomL atomB
  have h : cutC 58 (Lib.decDigits a.length ++ 58 :: a ++ r) = some (Lib.decDigits a.length, a ++ r) := cutC_some.2 ⟨by simp, dec_nocolon _⟩
  rw [h]
  simp only [numL_dec]
  rw [if_neg (by simp)]
  simp
theorem atomL_some {s a r : List UInt8} (h : atomL s = some (a, r)) : s = atomB a ++ r := by
  unfold atomL at h
  split at h
  · cases h
  · rename_i c t hc
    split at h
    · cases h
    · rename_i n hn
      split at h
      · cases h
      · rename_i hl
        simp only [Option.some.injEq, Prod.mk.injEq] at h
        obtain ⟨rfl, rfl⟩ := h
        obtain ⟨h1, h2⟩ := cutC_some.1 hc
        rw [h1, numL_some hn]
        unfold atomB
        rw [List.length_take, Nat.min_eq_left (by omega)]
        simp
theorem atomL_pre {a p q : List UInt8} (h : atomB a = p ++ q) (hq : q ≠ []) : atomL p = none := by
  unfold atomL
  cases hc : cutC 58 p with
  | none => rfl
  | some cr =>
    obtain ⟨c, r⟩ := cr
    obtain ⟨h1, h2⟩ := cutC_some.1 hc
    rw [h1] at h
    unfold atomB at h
    rw [List.append_assoc, List.cons_append] at h
    obtain ⟨h3, h4⟩ := cut_first (dec_nocolon _) h2 h
    subst h3
    simp only [numL_dec]
    rw [if_pos]
    rw [h4, List.length_append]
    have : 0 < q.length := List.length_pos_iff.2 hq
    omega
/- writing -/
def room (b : List UInt8) : Except Int (List UInt8) := if 65536 < b.length then .error 3 else .ok b
mutual
def putN : Nd → Nat → List UInt8 → Except Int (List UInt8)
  | .mk l a ks, d, b =>
    if l then (if ks.isEmpty then room (b ++ atomB a.data.toList) else .error 1)
    else if a.size ≠ 0 then .error 1
    else if 32 ≤ d then .error 4
    else match room (b ++ [40]) with
      | .error e => .error e
      | .ok b1 => match putL ks (d + 1) b1 with
        | .error e => .error e
        | .ok b2 => room (b2 ++ [41])
def putL : List Nd → Nat → List UInt8 → Except Int (List UInt8)
  | [], _, b => .ok b
  | k :: r, d, b => match putN k d b with
    | .error e => .error e
    | .ok b1 => putL r d b1
end
mutual
def encN : Nd → List UInt8
  | .mk l a ks => if l then atomB a.data.toList else 40 :: (encL ks ++ [41])
def encL : List Nd → List UInt8
  | [] => []
  | k :: r => encN k ++ encL r
end
mutual
def okN : Nd → Nat → Bool
  | .mk l a ks, d => if l then ks.isEmpty else decide (a.size = 0) && decide (d < 32) && okL ks (d + 1)
def okL : List Nd → Nat → Bool
  | [], _ => true
  | k :: r, d => okN k d && okL r d
end
theorem room_ok {b r : List UInt8} (h : room b = .ok r) : r = b ∧ b.length ≤ 65536 := by
  unfold room at h
  split at h
  · cases h
  · cases h; exact ⟨rfl, by omega⟩
theorem room_fit {b : List UInt8} (h : b.length ≤ 65536) : room b = .ok b := by unfold room; rw [if_neg (by omega)]
mutual
theorem putN_ok (n : Nd) (d : Nat) (b r : List UInt8) (h : putN n d b = .ok r) : r = b ++ encN n ∧ okN n d = true ∧ r.length ≤ 65536 := by
  obtain ⟨l, a, ks⟩ := n
  rw [putN] at h
  rw [encN, okN]
  cases l with
  | true =>
    simp only [if_true] at h ⊢
    split at h
    · rename_i hk
      obtain ⟨rfl, h2⟩ := room_ok h
      exact ⟨rfl, hk, h2⟩
    · cases h
  | false =>
    simp only [Bool.false_eq_true, if_false] at h ⊢
    split at h
    · cases h
    · rename_i ha
      split at h
      · cases h
      · rename_i hd
        split at h
        · cases h
        · rename_i b1 hb1
          split at h
          · cases h
          · rename_i b2 hb2
            obtain ⟨rfl, h1⟩ := room_ok hb1
            obtain ⟨rfl, h2⟩ := putL_ok ks (d + 1) _ b2 hb2
            obtain ⟨rfl, h3⟩ := room_ok h
            refine ⟨by simp, ?_, h3⟩
            have ha' : a.size = 0 := by omega
            rw [ha', h2]
            simp; omega
theorem putL_ok (ks : List Nd) (d : Nat) (b r : List UInt8) (h : putL ks d b = .ok r) : r = b ++ encL ks ∧ okL ks d = true := by
  cases ks with
  | nil => rw [putL] at h; cases h; rw [encL, okL]; exact ⟨by simp, rfl⟩
  | cons k ks =>
    rw [putL] at h
    split at h
    · cases h
    · rename_i b1 hb1
      obtain ⟨rfl, h1, _⟩ := putN_ok k d b b1 hb1
      obtain ⟨rfl, h2⟩ := putL_ok ks d _ r h
      rw [encL, okL, h1, h2]
      exact ⟨by simp, rfl⟩
end
mutual
theorem putN_fit (n : Nd) (d : Nat) (b : List UInt8) (h : okN n d = true) (hl : (b ++ encN n).length ≤ 65536) : putN n d b = .ok (b ++ encN n) := by
  obtain ⟨l, a, ks⟩ := n
  rw [putN]
  rw [okN] at h
  rw [encN] at hl ⊢
  cases l with
  | true =>
    simp only [if_true] at h hl ⊢
    rw [if_pos h]
    exact room_fit hl
  | false =>
    simp only [Bool.false_eq_true, if_false, Bool.and_eq_true, decide_eq_true_eq] at h hl ⊢
    obtain ⟨⟨h1, h2⟩, h3⟩ := h
    simp only [List.length_append, List.length_cons, List.length_nil] at hl
    rw [if_neg (by omega), if_neg (by omega), room_fit (by simp; omega)]
    simp only
    rw [putL_fit ks (d + 1) _ h3 (by simp; omega)]
    simp only
    rw [room_fit (by simp; omega)]
    simp
theorem putL_fit (ks : List Nd) (d : Nat) (b : List UInt8) (h : okL ks d = true) (hl : (b ++ encL ks).length ≤ 65536) : putL ks d b = .ok (b ++ encL ks) := by
  cases ks with
  | nil => rw [putL, encL]; simp
  | cons k ks =>
    rw [okL] at h
    rw [encL] at hl ⊢
    simp only [Bool.and_eq_true] at h
    simp only [List.length_append] at hl
    rw [putL, putN_fit k d b h.1 (by simp; omega)]
    simp only
    rw [putL_fit ks d _ h.2 (by simp; omega)]
    simp
end
/- reading -/
mutual
def rdN : Nat → List UInt8 → Nat → Except Int (Nd × List UInt8)
  | 0, _, _ => .error 5
  | f + 1, s, d =>
    if s.head? = some 40 then (if 32 ≤ d then .error 4 else rdL f s.tail (d + 1) [])
    else match atomL s with
      | none => .error 5
      | some (a, r) => .ok (.mk true ⟨a.toArray⟩ [], r)
def rdL : Nat → List UInt8 → Nat → List Nd → Except Int (Nd × List UInt8)
  | 0, _, _, _ => .error 5
  | f + 1, s, d, acc =>
    if s.head? = some 41 then .ok (.mk false ⟨#[]⟩ acc, s.tail)
    else match rdN f s d with
      | .error e => .error e
      | .ok (k, r) => rdL f r d (acc ++ [k])
end
theorem atomB_len (a : List UInt8) : 2 ≤ (atomB a).length := by
  unfold atomB
  have := List.length_pos_iff.2 (dec_ne a.length)
  simp; omega
theorem atomB_head (a r : List UInt8) : (atomB a ++ r).head? ≠ some 40 ∧ (atomB a ++ r).head? ≠ some 41 := by
  unfold atomB
  obtain ⟨c, t, e, h1, h2⟩ := dec_head a.length
  rw [e]
  simp only [List.cons_append, List.head?_cons]
  constructor
  · intro x; cases x; exact absurd h1 (by decide)
  · intro x; cases x; exact absurd h1 (by decide)
mutual
theorem rdN_len : ∀ (f : Nat) (s : List UInt8) (d : Nat) (n : Nd) (r : List UInt8), rdN f s d = .ok (n, r) → r.length + 2 ≤ s.length
  | 0, _, _, _, _, h => by rw [rdN] at h; cases h
  | f + 1, s, d, n, r, h => by
    rw [rdN] at h
    split at h
    · rename_i hs
      split at h
      · cases h
      · have := rdL_len f _ _ _ _ _ h
        cases s with
        | nil => simp at hs
        | cons x t => simp only [List.tail_cons] at this; simp only [List.length_cons]; omega
    · split at h
      · cases h
      · rename_i a r' ha
        cases h
        rw [atomL_some ha, List.length_append]
        have := atomB_len a
        omega
theorem rdL_len : ∀ (f : Nat) (s : List UInt8) (d : Nat) (acc : List Nd) (n : Nd) (r : List UInt8), rdL f s d acc = .ok (n, r) → r.length + 1 ≤ s.length
  | 0, _, _, _, _, _, h => by rw [rdL] at h; cases h
  | f + 1, s, d, acc, n, r, h => by
    rw [rdL] at h
    split at h
    · rename_i hs
      cases h
      cases s with
      | nil => simp at hs
      | cons x t => simp
    · split at h
      · cases h
      · rename_i k r' hk
        have h1 := rdN_len f _ _ _ _ hk
        have h2 := rdL_len f _ _ _ _ _ h
        omega
end
mutual
theorem rdN_fuel : ∀ (f g : Nat) (s : List UInt8) (d : Nat), 2 * s.length + 1 ≤ f → 2 * s.length + 1 ≤ g → rdN f s d = rdN g s d
  | 0, _, _, _, h, _ => by omega
  | _, 0, _, _, _, h => by omega
  | f + 1, g + 1, s, d, hf, hg => by
    rw [rdN, rdN]
    by_cases hs : s.head? = some 40
    · rw [if_pos hs, if_pos hs]
      cases s with
      | nil => simp at hs
      | cons x t =>
        simp only [List.length_cons] at hf hg
        simp only [List.tail_cons]
        rw [rdL_fuel f g t (d + 1) [] (by omega) (by omega)]
    · rw [if_neg hs, if_neg hs]
theorem rdL_fuel : ∀ (f g : Nat) (s : List UInt8) (d : Nat) (acc : List Nd), 2 * s.length + 2 ≤ f → 2 * s.length + 2 ≤ g → rdL f s d acc = rdL g s d acc
  | 0, _, _, _, _, h, _ => by omega
  | _, 0, _, _, _, _, h => by omega
  | f + 1, g + 1, s, d, acc, hf, hg => by
    rw [rdL, rdL]
    by_cases hs : s.head? = some 41
    · rw [if_pos hs, if_pos hs]
    · rw [if_neg hs, if_neg hs, rdN_fuel f g s d (by omega) (by omega)]
      cases hk : rdN g s d with
      | error e => rfl
      | ok kr =>
        obtain ⟨k, r⟩ := kr
        simp only
        have := rdN_len _ _ _ _ _ hk
        exact rdL_fuel f g r d _ (by omega) (by omega)
end
theorem empty_of_size {a : ByteArray} (h : a.size = 0) : a = ⟨#[]⟩ := by
  apply ByteArray.ext
  exact Array.eq_empty_of_size_eq_zero h
theorem encN_head {n : Nd} {d : Nat} (h : okN n d = true) (r : List UInt8) : (encN n ++ r).head? ≠ some 41 := by
  obtain ⟨l, a, ks⟩ := n
  rw [encN]
  cases l with
  | true => simp only [if_true]; exact (atomB_head _ _).2
  | false => simp
theorem encN_ne (n : Nd) : encN n ≠ [] := by
  obtain ⟨l, a, ks⟩ := n
  rw [encN]
  cases l with
  | true => simp only [if_true]; intro e; have := atomB_len a.data.toList; rw [e] at this; simp at this
  | false => simp
/- what is written is read -/
mutual
theorem rd_enc (n : Nd) : ∀ (d : Nat) (r : List UInt8) (f : Nat), okN n d = true → 2 * (encN n ++ r).length + 1 ≤ f → rdN f (encN n ++ r) d = .ok (n, r) := by
  obtain ⟨l, a, ks⟩ := n
  intro d r f h hf
  rw [okN] at h
  rw [encN] at hf ⊢
  obtain ⟨f, rfl⟩ : ∃ g, f = g + 1 := ⟨f - 1, by omega⟩
  rw [rdN]
  cases l with
  | true =>
    simp only [if_true] at h hf ⊢
    rw [if_neg (atomB_head _ _).1, atomL_enc]
    simp only [mk_bytes]
    rw [List.isEmpty_iff.1 h]
  | false =>
    simp only [Bool.false_eq_true, if_false, Bool.and_eq_true, decide_eq_true_eq] at h hf ⊢
    obtain ⟨⟨h1, h2⟩, h3⟩ := h
    rw [if_pos (by simp), if_neg (by omega)]
    simp only [List.cons_append, List.tail_cons, List.append_assoc]
    simp only [List.cons_append, List.length_cons, List.append_assoc] at hf
    rw [rdL_enc ks (d + 1) _ [] f h3 (by omega)]
    simp only [List.nil_append] at hf ⊢
    obtain ⟨g, rfl⟩ : ∃ g, f = g + 1 := ⟨f - 1, by omega⟩
    rw [rdL, if_pos (by simp)]
    simp only [List.tail_cons, empty_of_size h1]
theorem rdL_enc (ks : List Nd) : ∀ (d : Nat) (r : List UInt8) (acc : List Nd) (f : Nat), okL ks d = true → 2 * (encL ks ++ r).length + 2 ≤ f → rdL f (encL ks ++ r) d acc = rdL f r d (acc ++ ks) := by
  cases ks with
  | nil => intro d r acc f h hf; rw [encL]; simp
  | cons k ks =>
    intro d r acc f h hf
    rw [okL] at h
    simp only [Bool.and_eq_true] at h
    rw [encL] at hf ⊢
    rw [List.append_assoc] at hf ⊢
    obtain ⟨g, rfl⟩ : ∃ g, f = g + 1 := ⟨f - 1, by omega⟩
    rw [rdL, if_neg (encN_head h.1 _), rd_enc k d _ g h.1 (by omega)]
    simp only
    have hp := List.length_pos_iff.2 (encN_ne k)
    simp only [List.length_append] at hf
    rw [rdL_enc ks d r _ g h.2 (by simp; omega), List.append_assoc]
    exact rdL_fuel _ _ _ _ _ (by omega) (by omega)
end
/- what is read is written so -/
mutual
theorem enc_rd : ∀ (f : Nat) (s : List UInt8) (d : Nat) (n : Nd) (r : List UInt8), rdN f s d = .ok (n, r) → s = encN n ++ r ∧ okN n d = true
  | 0, _, _, _, _, h => by rw [rdN] at h; cases h
  | f + 1, s, d, n, r, h => by
    rw [rdN] at h
    split at h
    · rename_i hs
      split at h
      · cases h
      · rename_i hd
        obtain ⟨ks, e, rfl, h2⟩ := encL_rd f _ _ _ _ _ h
        cases s with
        | nil => simp at hs
        | cons x t =>
          simp only [List.head?_cons, Option.some.injEq] at hs
          subst hs
          simp only [List.tail_cons, List.nil_append] at e ⊢
          rw [encN, okN, e, h2]
          refine ⟨by simp, ?_⟩
          have : (ByteArray.mk #[]).size = 0 := rfl
          simp [this]; omega
    · split at h
      · cases h
      · rename_i a r' ha
        cases h
        rw [encN, okN]
        exact ⟨atomL_some ha, rfl⟩
theorem encL_rd : ∀ (f : Nat) (s : List UInt8) (d : Nat) (acc : List Nd) (n : Nd) (r : List UInt8), rdL f s d acc = .ok (n, r) → ∃ ks, s = encL ks ++ 41 :: r ∧ n = .mk false ⟨#[]⟩ (acc ++ ks) ∧ okL ks d = true
  | 0, _, _, _, _, _, h => by rw [rdL] at h; cases h
  | f + 1, s, d, acc, n, r, h => by
    rw [rdL] at h
    split at h
    · rename_i hs
      cases h
      cases s with
      | nil => simp at hs
      | cons x t =>
        simp only [List.head?_cons, Option.some.injEq] at hs
        subst hs
        exact ⟨[], by rw [encL]; rfl, by simp, by rw [okL]⟩
    · split at h
      · cases h
      · rename_i k r' hk
        obtain ⟨h1, h2⟩ := enc_rd f _ _ _ _ hk
        obtain ⟨ks, e, rfl, h3⟩ := encL_rd f _ _ _ _ _ h
        exact ⟨k :: ks, by rw [h1, e, encL]; simp, by simp, by rw [okL, h2, h3]; rfl⟩
end
/- no beginning of what is written is read -/
mutual
theorem rd_pre (n : Nd) : ∀ (d : Nat) (p q : List UInt8) (f : Nat), okN n d = true → encN n = p ++ q → q ≠ [] → 2 * p.length + 1 ≤ f → rdN f p d = .error 5 := by
  obtain ⟨l, a, ks⟩ := n
  intro d p q f h e hq hf
  rw [okN] at h
  rw [encN] at e
  obtain ⟨f, rfl⟩ : ∃ g, f = g + 1 := ⟨f - 1, by omega⟩
  rw [rdN]
  cases l with
  | true =>
    simp only [if_true] at h e
    have hh : p.head? ≠ some 40 := by
      intro x
      have := (atomB_head a.data.toList []).1
      rw [List.append_nil, e] at this
      cases p with
      | nil => simp at x
      | cons y t => simp at x this; exact this x
    rw [if_neg hh, atomL_pre e hq]
  | false =>
    simp only [Bool.false_eq_true, if_false, Bool.and_eq_true, decide_eq_true_eq] at h e
    obtain ⟨⟨h1, h2⟩, h3⟩ := h
    cases p with
    | nil => simp [atomL, cutC]
    | cons x t =>
      simp only [List.cons_append, List.cons.injEq] at e
      obtain ⟨rfl, e⟩ := e
      simp only [List.length_cons] at hf
      rw [if_pos (by simp), if_neg (by omega), List.tail_cons]
      exact rdL_pre ks (d + 1) t q [] f h3 e hq (by omega)
theorem rdL_pre (ks : List Nd) : ∀ (d : Nat) (p q : List UInt8) (acc : List Nd) (f : Nat), okL ks d = true → encL ks ++ [41] = p ++ q → q ≠ [] → 2 * p.length + 2 ≤ f → rdL f p d acc = .error 5 := by
  cases ks with
  | nil =>
    intro d p q acc f h e hq hf
    rw [encL, List.nil_append] at e
    cases p with
    | nil =>
      obtain ⟨f, rfl⟩ : ∃ g, f = g + 2 := ⟨f - 2, by simp at hf; omega⟩
      rw [rdL, if_neg (by simp), rdN, if_neg (by simp)]
      simp [atomL, cutC]
    | cons x t =>
      simp only [List.cons_append, List.cons.injEq] at e
      have := congrArg List.length e.2
      have h0 := List.length_pos_iff.2 hq
      simp at this; omega
  | cons k ks =>
    intro d p q acc f h e hq hf
    rw [okL] at h
    simp only [Bool.and_eq_true] at h
    rw [encL, List.append_assoc] at e
    obtain ⟨f, rfl⟩ : ∃ g, f = g + 1 := ⟨f - 1, by omega⟩
    have hh : p.head? ≠ some 41 := by
      intro x
      have := encN_head h.1 (encL ks ++ [41])
      rw [e] at this
      cases p with
      | nil => simp at x
      | cons y t => simp at x this; exact this x
    rw [rdL, if_neg hh]
    have go : ∀ t, p = encN k ++ t → encL ks ++ [41] = t ++ q → (match rdN f p d with | .error e => .error e | .ok (k, r) => rdL f r d (acc ++ [k])) = (.error 5 : Except Int (Nd × List UInt8)) := by
      intro t hp ht
      have hl : 0 < (encN k).length := List.length_pos_iff.2 (encN_ne k)
      have hpl : p.length = (encN k).length + t.length := by rw [hp, List.length_append]
      rw [hp, rd_enc k d t f h.1 (by rw [← hp]; omega)]
      simp only
      exact rdL_pre ks d t q _ f h.2 ht hq (by omega)
    rcases List.append_eq_append_iff.1 e with ⟨t, hp, ht⟩ | ⟨t, hk, ht⟩
    · exact go t hp ht
    · by_cases ht0 : t = []
      · subst ht0
        exact go [] (by rw [hk]; simp) (by rw [ht]; simp)
      · rw [rd_pre k d p t f h.1 hk ht0 (by omega)]
end
end Go.Proofs.YtdgcpgbknfojhaaDoor
