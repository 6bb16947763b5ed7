/- What a version's text is, over lists of bytes: the pieces between points, the numbers that they spell. No condition. -/
import Derived.Test.YtaijhebjjbcdfaaGreatDoorVerPieces
import Derived.Lib.SplitLaws
import Derived.Lib.AtoiTie
namespace Go.Proofs.YtaijhebjjbcdfaaGreatDoor.Ver
set_option linter.unusedVariables false
open Go.RowKit
theorem index_pre {c : UInt8} {l r : List UInt8} (h : c ∉ l) : Lib.index (l ++ c :: r) [c] = (l.length : Int) := by
  induction l with
  | nil => simp [Lib.index, List.isPrefixOf]
  | cons b l ih =>
    have hb : ¬ c = b := fun e => h (by simp [e])
    have hi := ih (fun e => h (by simp [e]))
    rw [List.cons_append, Lib.index, hi]
    have hp : ([c] : List UInt8).isPrefixOf (b :: (l ++ c :: r)) = false := by simp [List.isPrefixOf, hb]
    rw [hp]
    have : ((l.length : Int) == -1) = false := by rw [beq_eq_false_iff_ne]; omega
    simp [this]
theorem index_not {c : UInt8} {l : List UInt8} (h : c ∉ l) : Lib.index l [c] = -1 := by
  induction l with
  | nil => simp [Lib.index]
  | cons b l ih =>
    have hb : ¬ c = b := fun e => h (by simp [e])
    rw [Lib.index, ih (fun e => h (by simp [e]))]
    have hp : ([c] : List UInt8).isPrefixOf (b :: l) = false := by simp [List.isPrefixOf, hb]
    rw [hp]
    rfl
theorem first_split {c : UInt8} {l : List UInt8} (h : c ∈ l) : ∃ p r, l = p ++ c :: r ∧ c ∉ p := by
  induction l with
  | nil => cases h
  | cons b l ih =>
    by_cases hb : b = c
    · exact ⟨[], l, by simp [hb], by simp⟩
    · obtain ⟨p, r, e, hp⟩ := ih (by rcases List.mem_cons.1 h with e | e; · exact absurd e.symm hb
                                     · exact e)
      exact ⟨b :: p, r, by rw [e]; rfl, by simp [hp, Ne.symm hb]⟩
theorem split_pcs (c : UInt8) : ∀ (n : Nat) (l : List UInt8), l.length ≤ n → Lib.splitK [c] 0 (Lib.count l [c]) l = pcs c l ∧ (pcs c l).length = Lib.count l [c] + 1 := by
  intro n
  induction n with
  | zero =>
    intro l hl
    have : l = [] := List.eq_nil_of_length_eq_zero (by omega)
    subst this
    rw [Lib.count_miss (index_not (by simp))]
    exact ⟨rfl, rfl⟩
  | succ n ih =>
    intro l hl
    by_cases h : c ∈ l
    · obtain ⟨p, r, rfl, hp⟩ := first_split h
      have hi := index_pre (r := r) hp
      have hd : (p ++ c :: r).drop (p.length + [c].length) = r := by
        rw [← List.drop_drop, List.drop_left]
        rfl
      have hc := Lib.count_hit (sub := [c]) (by simp) hi
      rw [hd] at hc
      obtain ⟨e1, e2⟩ := ih r (by simp at hl; omega)
      rw [hc, pcs_cut hp, Nat.add_comm 1]
      constructor
      · rw [Lib.splitK, hi]
        have : ((p.length : Int) == -1) = false := by rw [beq_eq_false_iff_ne]; omega
        rw [this]
        simp only [Bool.false_eq_true, if_false, Int.toNat_natCast, Nat.add_zero]
        rw [hd, e1, List.take_left']
        rfl
      · rw [List.length_cons, e2]
    · rw [Lib.count_miss (index_not h), pcs_free h]
      exact ⟨rfl, rfl⟩
theorem pcs_one {c : UInt8} {l q : List UInt8} (h : pcs c l = [q]) : l = q ∧ c ∉ l := by
  by_cases hm : c ∈ l
  · obtain ⟨p, r, rfl, hp⟩ := first_split hm
    rw [pcs_cut hp] at h
    obtain ⟨ini, z, e⟩ := pcs_ne c r
    rw [e] at h
    simp at h
  · rw [pcs_free hm] at h
    exact ⟨by simpa using h, hm⟩
theorem pcs_more {c : UInt8} {l q : List UInt8} {qs : List (List UInt8)} (h : pcs c l = q :: qs) (hq : qs ≠ []) : ∃ r, l = q ++ c :: r ∧ pcs c r = qs ∧ c ∉ q := by
  by_cases hm : c ∈ l
  · obtain ⟨p, r, rfl, hp⟩ := first_split hm
    rw [pcs_cut hp] at h
    simp at h
    exact ⟨r, by rw [h.1], h.2, by rw [← h.1]; exact hp⟩
  · rw [pcs_free hm] at h
    simp at h
    exact absurd h.2 hq
theorem pcs_three {c : UInt8} {l p q r : List UInt8} (h : pcs c l = [p, q, r]) : l = p ++ c :: (q ++ c :: r) := by
  obtain ⟨l1, rfl, h1, _⟩ := pcs_more h (by simp)
  obtain ⟨l2, rfl, h2, _⟩ := pcs_more h1 (by simp)
  rw [(pcs_one h2).1]
/- a part's digits -/
def okP (l : List UInt8) : Bool := !l.isEmpty && decide (l.length ≤ 3) && l.all (fun b => decide (48 ≤ b.toNat ∧ b.toNat ≤ 57)) && (decide (l.head? ≠ some 48) || decide (l.length = 1))
theorem okP_dec (u : Nat) (h : u < 1000) : okP (Lib.decDigits u) = true := by
  have h1 : ∀ b ∈ Lib.decDigits u, 48 ≤ b.toNat ∧ b.toNat ≤ 57 := dec_in u
  have hall : (Lib.decDigits u).all (fun b => decide (48 ≤ b.toNat ∧ b.toNat ≤ 57)) = true := by
    rw [List.all_eq_true]; intro b hb; simpa using h1 b hb
  unfold okP
  rw [hall]
  by_cases h10 : u < 10
  · rw [dec_eq, if_pos h10]; simp
  · have hx : ∀ d, 1 ≤ d → d < 10 → ¬ UInt8.ofNat d = 0 := fun d hd1 hd2 e => by
      have := congrArg UInt8.toNat e
      rw [UInt8.toNat_ofNat'] at this
      have h0 : (0 : UInt8).toNat = 0 := rfl
      omega
    by_cases h100 : u < 100
    · rw [dec_eq, if_neg h10, dec_eq, if_pos (by omega)]
      simp [hx (u / 10) (by omega) (by omega)]
    · rw [dec_eq, if_neg h10, dec_eq, if_neg (by omega), dec_eq, if_pos (by omega)]
      simp [hx (u / 10 / 10) (by omega) (by omega)]
theorem okP_parts {l : List UInt8} (h : okP l = true) : l ≠ [] ∧ l.length ≤ 3 ∧ (∀ b ∈ l, 48 ≤ b.toNat ∧ b.toNat ≤ 57) ∧ (l.head? = some 48 → l.length = 1) := by
  unfold okP at h
  simp only [Bool.and_eq_true, Bool.or_eq_true, decide_eq_true_eq, Bool.not_eq_true', List.isEmpty_eq_false_iff, List.all_eq_true] at h
  obtain ⟨⟨⟨h1, h2⟩, h3⟩, h4⟩ := h
  exact ⟨h1, h2, h3, fun e => by rcases h4 with h4 | h4; · exact absurd e h4
                                 · exact h4⟩
theorem dig_back (b : UInt8) (h : 48 ≤ b.toNat ∧ b.toNat ≤ 57) : UInt8.ofNat (48 + (b.toNat - 48)) = b := by
  apply UInt8.toNat_inj.1
  rw [dig_nat _ (by omega)]
  omega
theorem okP_back {l : List UInt8} (h : okP l = true) : Lib.decDigits (val l) = l ∧ val l < 1000 := by
  obtain ⟨h1, h2, h3, h4⟩ := okP_parts h
  match l, h1, h2, h3, h4 with
  | [a], _, _, h3, _ =>
    have ha := h3 a (by simp)
    have e : val [a] = a.toNat - 48 := by simp [val]
    rw [e, dec_eq, if_pos (by omega), dig_back a ha]
    exact ⟨rfl, by omega⟩
  | [a, b], _, _, h3, h4 =>
    have ha := h3 a (by simp)
    have hb := h3 b (by simp)
    have hn : ¬ a.toNat = 48 := fun e => by
      have : a = 48 := UInt8.toNat_inj.1 e
      have := h4 (by simp [this])
      simp at this
    have e : val [a, b] = (a.toNat - 48) * 10 + (b.toNat - 48) := by simp [val]
    rw [e, dec_eq, if_neg (by omega), dec_eq, if_pos (by omega)]
    have e1 : ((a.toNat - 48) * 10 + (b.toNat - 48)) / 10 = a.toNat - 48 := by omega
    have e2 : ((a.toNat - 48) * 10 + (b.toNat - 48)) % 10 = b.toNat - 48 := by omega
    rw [e1, e2, dig_back a ha, dig_back b hb]
    exact ⟨rfl, by omega⟩
  | [a, b, c], _, _, h3, h4 =>
    have ha := h3 a (by simp)
    have hb := h3 b (by simp)
    have hc := h3 c (by simp)
    have hn : ¬ a.toNat = 48 := fun e => by
      have : a = 48 := UInt8.toNat_inj.1 e
      have := h4 (by simp [this])
      simp at this
    have e : val [a, b, c] = ((a.toNat - 48) * 10 + (b.toNat - 48)) * 10 + (c.toNat - 48) := by simp [val]
    rw [e, dec_eq, if_neg (by omega), dec_eq, if_neg (by omega), dec_eq, if_pos (by omega)]
    have e1 : (((a.toNat - 48) * 10 + (b.toNat - 48)) * 10 + (c.toNat - 48)) / 10 / 10 = a.toNat - 48 := by omega
    have e2 : (((a.toNat - 48) * 10 + (b.toNat - 48)) * 10 + (c.toNat - 48)) / 10 % 10 = b.toNat - 48 := by omega
    have e3 : (((a.toNat - 48) * 10 + (b.toNat - 48)) * 10 + (c.toNat - 48)) % 10 = c.toNat - 48 := by omega
    rw [e1, e2, e3, dig_back a ha, dig_back b hb, dig_back c hc]
    exact ⟨rfl, by omega⟩
theorem atoi_dec : ∀ u : Fin 1000, Lib.atoi (Lib.decDigits u.val) = some (u.val : Int) := by decide +kernel
/-- What the program's own reader of digits says. -/
def digR (l : List UInt8) : Option Int := match Lib.atoi l with | none => none | some n => if Lib.itoa n = l then some n else none
theorem digR_ok {l : List UInt8} (h : okP l = true) : digR l = some (val l : Int) := by
  obtain ⟨h1, h2⟩ := okP_back h
  have := atoi_dec ⟨val l, h2⟩
  simp only at this
  unfold digR
  rw [h1] at this
  rw [this]
  simp only
  rw [Lib.itoa_nonneg, h1, if_pos rfl]
theorem digR_in {l : List UInt8} {n : Int} (h : digR l = some n) (h0 : 0 ≤ n) (h1 : n ≤ 999) : okP l = true := by
  unfold digR at h
  cases ha : Lib.atoi l with
  | none => rw [ha] at h; cases h
  | some m =>
    rw [ha] at h
    simp only at h
    split at h
    · rename_i e
      cases h
      obtain ⟨u, rfl⟩ := Int.eq_ofNat_of_zero_le h0
      rw [Lib.itoa_nonneg] at e
      rw [← e]
      exact okP_dec u (by omega)
    · cases h
/-- The version that a text is. -/
def verL (l : List UInt8) : Option (Nat × Nat × Nat) := match pcs 46 l with
  | [p, q, r] => if okP p && (okP q && okP r) then some (val p, val q, val r) else none
  | _ => none
theorem verL_some {l : List UInt8} {a b c : Nat} (h : verL l = some (a, b, c)) : ∃ p q r, pcs 46 l = [p, q, r] ∧ okP p = true ∧ okP q = true ∧ okP r = true ∧ a = val p ∧ b = val q ∧ c = val r := by
  unfold verL at h
  split at h
  · rename_i p q r e
    split at h
    · rename_i hk
      simp only [Bool.and_eq_true] at hk
      simp only [Option.some.injEq, Prod.mk.injEq] at h
      exact ⟨p, q, r, e, hk.1, hk.2.1, hk.2.2, h.1.symm, h.2.1.symm, h.2.2.symm⟩
    · cases h
  · cases h
theorem verL_text {l : List UInt8} {a b c : Nat} (h : verL l = some (a, b, c)) : dotL a b c = l ∧ a < 1000 ∧ b < 1000 ∧ c < 1000 := by
  obtain ⟨p, q, r, e, h1, h2, h3, rfl, rfl, rfl⟩ := verL_some h
  unfold dotL
  rw [(okP_back h1).1, (okP_back h2).1, (okP_back h3).1, pcs_three e]
  exact ⟨rfl, (okP_back h1).2, (okP_back h2).2, (okP_back h3).2⟩
theorem verL_dot {a b c : Nat} (h1 : a < 1000) (h2 : b < 1000) (h3 : c < 1000) : verL (dotL a b c) = some (a, b, c) := by
  unfold verL dotL
  rw [pcs_cut (dec_nodot a), pcs_cut (dec_nodot b), pcs_free (dec_nodot c)]
  simp only
  rw [okP_dec a h1, okP_dec b h2, okP_dec c h3, val_dec, val_dec, val_dec]
  rfl
end Go.Proofs.YtaijhebjjbcdfaaGreatDoor.Ver
