/- What the document's text reads, against the atom that bytes begin with; its contract. Condition: at most 2^16 bytes. -/
import Derived.Test.YtilkcjcmcnlfnaaGreatDoorRdNode
namespace Go.Proofs.YtilkcjcmcnlfnaaGreatDoor
set_option linter.unusedVariables false
open Go.ChangeShapes Go.WideShapes Go.ChangeAt Go.RowKit
def DigB (b : UInt8) : Prop := 48 ≤ b.toNat ∧ b.toNat ≤ 57
def AllD (l : List UInt8) : Prop := ∀ b ∈ l, DigB b
theorem rev_ind {p : List UInt8 → Prop} (h0 : p []) (h1 : ∀ l b, p l → p (l ++ [b])) (l : List UInt8) : p l := by
  have h : ∀ r : List UInt8, p r.reverse := by
    intro r
    induction r with
    | nil => exact h0
    | cons a r ih => rw [List.reverse_cons]; exact h1 _ _ ih
  have := h l.reverse
  rwa [List.reverse_reverse] at this
theorem dec0 : Lib.decDigits 0 = [48] := Lib.decDigits_one (by decide)
theorem dig_back (b : UInt8) (h : DigB b) : UInt8.ofNat (48 + (b.toNat - 48)) = b := by
  have h1 := h.1
  have h2 := h.2
  apply UInt8.toNat_inj.1
  rw [dig_nat _ (by omega)]
  omega
theorem val_lt (l : List UInt8) : AllD l → val l < 10 ^ l.length := by
  refine rev_ind (p := fun l => AllD l → val l < 10 ^ l.length) (fun _ => by decide) (fun l b ih h => ?_) l
  have hb := h b (by simp)
  have := ih fun x hx => h x (by simp [hx])
  rw [val_snoc, List.length_append, List.length_singleton, Nat.pow_succ]
  have h1 := hb.1
  have h2 := hb.2
  omega
theorem dec_val (l : List UInt8) : AllD l → l ≠ [] → (l.head? = some 48 → l.length = 1) → Lib.decDigits (val l) = l := by
  refine rev_ind (p := fun l => AllD l → l ≠ [] → (l.head? = some 48 → l.length = 1) → Lib.decDigits (val l) = l) (fun _ h _ => absurd rfl h) (fun l b ih h _ hz => ?_) l
  have hb := h b (by simp)
  have h1 := hb.1
  have h2 := hb.2
  cases hl : l with
  | nil =>
    have e : val ([] ++ [b]) = b.toNat - 48 := by rw [val_snoc]; simp [val]
    rw [e, dec_eq, if_pos (by omega), dig_back b hb]
    rfl
  | cons a r =>
    have hne : l ≠ [] := by rw [hl]; simp
    have h0 : l.head? ≠ some 48 := by
      intro e
      have e2 : (l ++ [b]).head? = some 48 := by rw [hl] at e ⊢; simpa using e
      have := hz e2
      rw [hl] at this
      simp at this
    have hi := ih (fun x hx => h x (by simp [hx])) hne fun e => absurd e h0
    have hv : val l ≠ 0 := by
      intro e
      rw [e] at hi
      apply h0
      rw [← hi, dec0]
      rfl
    rw [← hl, val_snoc, dec_eq, if_neg (by omega)]
    have e1 : (val l * 10 + (b.toNat - 48)) / 10 = val l := by omega
    have e2 : (val l * 10 + (b.toNat - 48)) % 10 = b.toNat - 48 := by omega
    rw [e1, e2, hi, dig_back b hb]
theorem dec_short {n : Nat} (h : n < 100000) : (Lib.decDigits n).length ≤ 5 := by
  rw [dec_eq]
  split
  · simp
  · rw [dec_eq]
    split
    · simp
    · rw [dec_eq]
      split
      · simp
      · rw [dec_eq]
        split
        · simp
        · rw [dec_eq, if_pos (by omega)]
          simp
/- what an atom is not -/
theorem atR_bad {s : List UInt8} (h : ∀ n r, s = Lib.decDigits n ++ 58 :: r → r.length < n) : atR s = .error 5 := by
  cases hc : cutC 58 s with
  | none => exact atR_cut hc
  | some cr =>
    obtain ⟨c, r⟩ := cr
    refine atR_num hc fun n hn => ?_
    obtain ⟨h1, _⟩ := cutC_some.1 hc
    rw [numL_some hn] at h1
    exact h n r h1
theorem get_pre {s c r : List UInt8} {x : UInt8} (h : s = c ++ x :: r) (k : Nat) (hk : k < s.length) : (k < c.length → ∃ hc : k < c.length, s[k] = c[k]) ∧ (k = c.length → s[k] = x) := by
  subst h
  refine ⟨fun hc => ⟨hc, List.getElem_append_left hc⟩, fun e => ?_⟩
  subst e
  rw [List.getElem_append_right (Nat.le_refl _)]
  simp
theorem bad_first {s : List UInt8} (h0 : 0 < s.length) (h : ¬ DigB s[0]) : atR s = .error 5 := by
  refine atR_bad fun n r e => ?_
  obtain ⟨c, t, hd, h1, h2⟩ := dec_head n
  obtain ⟨g1, _⟩ := get_pre e 0 h0
  obtain ⟨_, g2⟩ := g1 (by rw [hd]; simp)
  exfalso
  apply h
  rw [g2]
  simp only [hd, List.getElem_cons_zero]
  exact ⟨h1, h2⟩
theorem bad_empty : atR [] = .error 5 := atR_cut rfl
theorem bad_zero {s : List UInt8} (h1 : 1 < s.length) (hz : s[0] = 48) (hd : DigB s[1]) : atR s = .error 5 := by
  refine atR_bad fun n r e => ?_
  obtain ⟨c, t, hdec, _, _⟩ := dec_head n
  obtain ⟨g1, _⟩ := get_pre e 0 (by omega)
  obtain ⟨hw, g2⟩ := g1 (by rw [hdec]; simp)
  rw [hz] at g2
  have hn0 : n = 0 := by
    apply Classical.byContradiction
    intro hn
    have hz2 : (Lib.decDigits n).head? = some 48 := by rw [List.head?_eq_getElem?, List.getElem?_eq_getElem hw, ← g2]
    have key : ∀ m, m ≠ 0 → (Lib.decDigits m).head? ≠ some 48 := by
      intro m
      induction m using Nat.strongRecOn with
      | _ m ih =>
        intro hm
        rw [dec_eq]
        split
        · rename_i hlt
          intro e
          simp only [List.head?_cons, Option.some.injEq] at e
          have := congrArg UInt8.toNat e
          rw [dig_nat m hlt] at this
          have h48 : (48 : UInt8).toNat = 48 := rfl
          omega
        · rename_i hge
          have := ih (m / 10) (by omega) (by omega)
          intro e
          apply this
          obtain ⟨c', t', e', _, _⟩ := dec_head (m / 10)
          rw [e'] at e ⊢
          simpa using e
    exact key n hn hz2
  subst hn0
  rw [dec0] at e
  exfalso
  subst e
  have h9 : (58 : UInt8).toNat ≤ 57 := hd.2
  exact absurd h9 (by decide)
theorem bad_all {s : List UInt8} (h : AllD s) : atR s = .error 5 := by
  refine atR_cut (cutC_none.2 fun hm => ?_)
  exact absurd (h 58 hm).2 (by decide)
theorem take_mem {s : List UInt8} {k j : Nat} (h : AllD (s.take k)) (hj : j < k) (hs : j < s.length) : DigB s[j] := by
  have : s[j] = (s.take k)[j]'(by rw [List.length_take]; omega) := by rw [List.getElem_take]
  rw [this]
  exact h _ (List.getElem_mem _)
theorem bad_next {s : List UInt8} {k : Nat} (hk : k < s.length) (hl : s.length ≤ 65536) (h : AllD (s.take k)) (hn : s[k] ≠ 58) (hx : k = 5 ∨ ¬ DigB s[k]) : atR s = .error 5 := by
  refine atR_bad fun n r e => ?_
  have hlen : s.length = (Lib.decDigits n).length + (r.length + 1) := by rw [e]; simp
  rcases Nat.lt_trichotomy k (Lib.decDigits n).length with hlt | heq | hgt
  · obtain ⟨g1, _⟩ := get_pre e k hk
    obtain ⟨hc, g2⟩ := g1 hlt
    have hd : DigB s[k] := by rw [g2]; exact dec_in n _ (List.getElem_mem _)
    rcases hx with rfl | hx
    · apply Classical.byContradiction
      intro hr
      have := dec_short (n := n) (by omega)
      omega
    · exact absurd hd hx
  · obtain ⟨_, g2⟩ := get_pre e k hk
    exact absurd (g2 heq) hn
  · exfalso
    have hs : (Lib.decDigits n).length < s.length := by omega
    obtain ⟨_, g2⟩ := get_pre e (Lib.decDigits n).length hs
    have h1 := take_mem h hgt hs
    rw [g2 rfl] at h1
    exact absurd h1.2 (by decide)
theorem cut_at {s : List UInt8} {k : Nat} (hk : k < s.length) (h : AllD (s.take k)) (hc : s[k] = 58) : cutC 58 s = some (s.take k, s.drop (k + 1)) := by
  refine cutC_some.2 ⟨?_, fun hm => absurd (h 58 hm).2 (by decide)⟩
  have := List.drop_eq_getElem_cons hk
  rw [hc] at this
  rw [← this, List.take_append_drop]
theorem bad_short {s : List UInt8} {k : Nat} (hk : k < s.length) (h : AllD (s.take k)) (hc : s[k] = 58) (hn : s.length - k - 1 < val (s.take k)) : atR s = .error 5 := by
  refine atR_num (cut_at hk h hc) fun n hnn => ?_
  have := numL_some hnn
  have e : val (s.take k) = n := by rw [this, val_dec]
  rw [List.length_drop]
  omega
theorem good_text {s : List UInt8} {k : Nat} (hk : k < s.length) (h0 : 0 < k) (h : AllD (s.take k)) (hz : s[0] = 48 → k = 1) (hc : s[k] = 58) (hn : val (s.take k) ≤ s.length - k - 1) :
    atR s = .ok (.mk true ⟨((s.drop (k + 1)).take (val (s.take k))).toArray⟩ [], (s.drop (k + 1)).drop (val (s.take k))) := by
  have hnum : numL (s.take k) = some (val (s.take k)) := by
    unfold numL
    rw [if_pos]
    have hlk : (s.take k).length = k := by rw [List.length_take]; omega
    refine dec_val _ h (fun e => ?_) fun e => ?_
    · rw [e] at hlk; simp at hlk; omega
    · rw [hlk]
      apply hz
      have : (s.take k).head? = some s[0] := by
        rw [List.head?_eq_getElem?, List.getElem?_take, if_pos h0, List.getElem?_eq_getElem (by omega)]
      rw [this] at e
      exact Option.some.inj e
  exact atR_ok (cut_at hk h hc) hnum (by rw [List.length_drop]; omega)
end Go.Proofs.YtilkcjcmcnlfnaaGreatDoor
