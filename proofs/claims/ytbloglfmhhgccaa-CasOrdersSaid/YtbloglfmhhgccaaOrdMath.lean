/- Texts in their order; rising lists of pairs; pairs of texts in rows. No condition. -/
import Derived.Test.YtbloglfmhhgccaaBase
import Derived.Sort.Statements
import Derived.Sort.Walk0
import Derived.Lib.Bytealg
namespace Go.Proofs.Ytbloglfmhhgccaa
set_option linter.unusedVariables false
open Go.ChangeShapes Go.WideShapes Go.ChangeAt Go.RowKit Go.Lib Go.Sort
abbrev FileL := List UInt8 × List UInt8
abbrev InL := List UInt8 × List UInt8
def bl (x y : List UInt8) : Bool := Op.bytesLess x y
theorem bl_lt (x y : List UInt8) : bl x y = true ↔ x < y := by
  unfold bl
  rw [Go.Proofs.bytesLess_eq, decide_eq_true_eq]
theorem bl_no (x y : List UInt8) : bl x y = false ↔ ¬ x < y := by
  rw [← bl_lt, Bool.not_eq_true]
theorem bl_irr (x : List UInt8) : bl x x = false := (bl_no x x).2 (List.lt_irrefl x)
theorem bl_trans {x y z : List UInt8} (h1 : bl x y = true) (h2 : bl y z = true) : bl x z = true := (bl_lt x z).2 (List.lt_trans ((bl_lt x y).1 h1) ((bl_lt y z).1 h2))
theorem bl_asymm {x y : List UInt8} (h : bl x y = true) : bl y x = false := by
  cases hc : bl y x with
  | false => rfl
  | true => have := bl_trans h hc; rw [bl_irr] at this; cases this
theorem bl_tri {x y : List UInt8} (h1 : bl x y = false) (h2 : bl y x = false) : x = y :=
  List.le_antisymm (List.not_lt.1 ((bl_no y x).1 h2)) (List.not_lt.1 ((bl_no x y).1 h1))
theorem bl_ntrans {x y z : List UInt8} (h1 : bl x y = false) (h2 : bl y z = false) : bl x z = false := by
  cases hc : bl x z with
  | false => rfl
  | true =>
    exfalso
    cases hzy : bl z y with
    | true => have := bl_trans hc hzy; rw [h1] at this; cases this
    | false => have e := bl_tri h2 hzy; subst e; rw [h1] at hc; cases hc
theorem cmp_bl : ∀ (x y : List UInt8), decide (Lib.compareBytes x y < 0) = bl x y
  | [], [] => by rfl
  | [], b :: y => by rfl
  | a :: x, [] => by rfl
  | a :: x, b :: y => by
    have ih := cmp_bl x y
    unfold Lib.compareBytes bl Op.bytesLess
    unfold bl at ih
    by_cases h1 : a < b
    · simp [h1]
    · by_cases h2 : b < a
      · have : a ≠ b := fun e => by subst e; exact h1 h2
        simp [h1, h2, this]
      · have : a = b := UInt8.toNat_inj.1 (by rw [UInt8.lt_iff_toNat_lt] at h1 h2; omega)
        subst this
        simp [h1, ih]
def Asc (l : List FileL) : Prop := l.Pairwise fun x y => bl x.1 y.1 = true
def keysL (l : List FileL) : List (List UInt8) := l.map (·.1)
theorem asc_perm : ∀ {l m : List FileL}, Asc l → Asc m → l.Perm m → l = m
  | [], m, _, _, hp => (List.nil_perm.1 hp).symm
  | a :: l, [], _, _, hp => by have := hp.length_eq; simp at this
  | a :: l, b :: m, hl, hm, hp => by
    have hl' := List.pairwise_cons.1 hl
    have hm' := List.pairwise_cons.1 hm
    have hab : a = b := by
      have h1 : a ∈ b :: m := hp.mem_iff.1 (by simp)
      have h2 : b ∈ a :: l := hp.mem_iff.2 (by simp)
      rcases List.mem_cons.1 h1 with h | h1
      · exact h
      · rcases List.mem_cons.1 h2 with h | h2
        · exact h.symm
        · have x1 := hm'.1 a h1
          have x2 := hl'.1 b h2
          rw [bl_asymm x1] at x2
          cases x2
    subst hab
    rw [asc_perm hl'.2 hm'.2 (List.perm_cons a |>.1 hp)]
theorem asc_nodup {l : List FileL} (h : Asc l) : (keysL l).Nodup := by
  unfold keysL List.Nodup
  rw [List.pairwise_map]
  exact h.imp fun {x y} hxy e => by rw [e, bl_irr] at hxy; cases hxy
def belowF (f : FileL) (t : List FileL) : List FileL := t.filter fun g => bl g.1 f.1
def aboveF (f : FileL) (t : List FileL) : List FileL := t.filter fun g => bl f.1 g.1
def insF (f : FileL) (t : List FileL) : List FileL := belowF f t ++ f :: aboveF f t
def sortF (l : List FileL) : List FileL := l.foldl (fun t f => insF f t) []
theorem sortF_snoc (l : List FileL) (f : FileL) : sortF (l ++ [f]) = insF f (sortF l) := by
  unfold sortF
  rw [List.foldl_append]
  rfl
theorem ins_asc {t : List FileL} (h : Asc t) (f : FileL) : Asc (insF f t) := by
  unfold insF Asc belowF aboveF
  rw [List.pairwise_append]
  refine ⟨h.filter _, List.pairwise_cons.2 ⟨fun y hy => (List.mem_filter.1 hy).2, h.filter _⟩, fun x hx y hy => ?_⟩
  have hx' := (List.mem_filter.1 hx).2
  rcases List.mem_cons.1 hy with rfl | hy
  · exact hx'
  · exact bl_trans hx' (List.mem_filter.1 hy).2
theorem ins_perm : ∀ {t : List FileL} {f : FileL}, (∀ g ∈ t, g.1 ≠ f.1) → (insF f t).Perm (f :: t) := by
  intro t f h
  have h1 : (belowF f t ++ aboveF f t).Perm t := by
    induction t with
    | nil => exact List.Perm.refl _
    | cons g r ih =>
      have ih := ih fun x hx => h x (List.mem_cons_of_mem _ hx)
      have hg := h g (by simp)
      unfold belowF aboveF at ih ⊢
      cases hb : bl g.1 f.1 with
      | true =>
        have ha := bl_asymm hb
        rw [List.filter_cons_of_pos (by simpa using hb), List.filter_cons_of_neg (by simpa using ha), List.cons_append]
        exact ih.cons g
      | false =>
        have ha : bl f.1 g.1 = true := by
          cases hc : bl f.1 g.1 with
          | true => rfl
          | false => exact absurd (bl_tri hb hc) hg
        rw [List.filter_cons_of_neg (by simpa using hb), List.filter_cons_of_pos (by simpa using ha)]
        exact List.perm_middle.trans (ih.cons g)
  unfold insF
  exact List.perm_middle.trans (h1.cons f)
theorem sortF_asc (l : List FileL) : Asc (sortF l) := by
  have : ∀ (l t : List FileL), Asc t → Asc (l.foldl (fun t f => insF f t) t) := by
    intro l
    induction l with
    | nil => intro t h; exact h
    | cons f r ih => intro t h; exact ih _ (ins_asc h f)
  exact this l [] List.Pairwise.nil
theorem sortF_perm : ∀ {l : List FileL}, (keysL l).Nodup → (sortF l).Perm l := by
  have : ∀ (l t : List FileL), (keysL (t ++ l)).Nodup → (l.foldl (fun t f => insF f t) t).Perm (t ++ l) := by
    intro l
    induction l with
    | nil => intro t _; rw [List.append_nil]; exact List.Perm.refl _
    | cons f r ih =>
      intro t h
      have hp : (insF f t).Perm (f :: t) := ins_perm fun g hg e => by
        unfold keysL at h
        rw [List.map_append, List.nodup_append] at h
        exact h.2.2 g.1 (List.mem_map_of_mem hg) f.1 (by simp) e
      have hk : (keysL (insF f t ++ r)).Nodup := by
        have : (insF f t ++ r).Perm (t ++ f :: r) := (hp.append_right r).trans List.perm_middle.symm
        exact (List.Perm.nodup_iff (this.map (fun x : FileL => x.1))).2 h
      exact (ih _ hk).trans ((hp.append_right r).trans List.perm_middle.symm)
  intro l h
  exact this l [] h
def flatP : List InL → List Value
  | [] => []
  | x :: r => .string (tx x.1) :: .string (tx x.2) :: flatP r
theorem flatP_app (a b : List InL) : flatP (a ++ b) = flatP a ++ flatP b := by
  induction a with
  | nil => rfl
  | cons x r ih => simp [flatP, ih]
theorem flatP_at : ∀ (a : List InL) (i : Nat) (hi : i < a.length), (flatP a)[i * 2]? = some (.string (tx a[i].1)) ∧ (flatP a)[i * 2 + 1]? = some (.string (tx a[i].2))
  | x :: r, 0, _ => ⟨rfl, rfl⟩
  | x :: r, i + 1, hi => by
    obtain ⟨h1, h2⟩ := flatP_at r i (by simpa using hi)
    have e : (i + 1) * 2 = i * 2 + 2 := by omega
    refine ⟨?_, ?_⟩
    · rw [e]; simpa [flatP] using h1
    · rw [e]; simpa [flatP] using h2
theorem one2 (a b : ByteArray) : ∀ u ∈ [Value.string a, .string b], u.oneCell' = true := by
  intro u hu
  simp only [List.mem_cons, List.not_mem_nil, or_false] at hu
  rcases hu with rfl | rfl <;> rfl
theorem flatP_len (l : List FileL) : (flatP l).length = l.length * 2 := by
  induction l with
  | nil => rfl
  | cons x r ih => rw [flatP, List.length_cons, List.length_cons, ih, List.length_cons]; omega
theorem flatP_one (l : List FileL) : ∀ v ∈ flatP l, v.oneCell' = true := by
  induction l with
  | nil => intro v h; cases h
  | cons x r ih =>
    intro v h
    rw [flatP] at h
    rcases List.mem_cons.1 h with rfl | h
    · rfl
    · rcases List.mem_cons.1 h with rfl | h
      · rfl
      · exact ih v h
theorem flatP_drop : ∀ (xs : List FileL) (p : Nat), flatP (xs.drop p) = (flatP xs).drop (p * 2)
  | [], p => by simp [flatP]
  | x :: r, 0 => by simp
  | x :: r, p + 1 => by
    have e : (p + 1) * 2 = p * 2 + 1 + 1 := by omega
    rw [List.drop_succ_cons, flatP_drop r p, flatP, e, List.drop_succ_cons, List.drop_succ_cons]
theorem flatP_take : ∀ (xs : List FileL) (p : Nat), flatP (xs.take p) = (flatP xs).take (p * 2)
  | [], p => by simp [flatP]
  | x :: r, 0 => by simp [flatP]
  | x :: r, p + 1 => by
    have e : (p + 1) * 2 = p * 2 + 1 + 1 := by omega
    rw [List.take_succ_cons, flatP, flatP_take r p, flatP, e, List.take_succ_cons, List.take_succ_cons]
structure InpS (w : World) (S : Nat → Prop) (v : Value) (xs : List InL) (kb ko : Nat) : Prop where
  sh : ∃ q c, v = .slice q xs.length c ∧ xs.length ≤ c ∧ c ≤ maxLen ∧ (xs ≠ [] → q = some ⟨kb, ko, none⟩ ∧ S kb)
  at' : ∀ i (hi : i < xs.length), w.cell? ⟨kb, ko + i * 2, none⟩ = some (.string (tx xs[i].1)) ∧ w.cell? ⟨kb, ko + i * 2 + 1, none⟩ = some (.string (tx xs[i].2))
theorem InpS.keep {w w' : World} {S T : Nat → Prop} (hc : Chg T w w') (hST : ∀ k, S k → ¬ T k) {v : Value} {xs : List InL} {kb ko : Nat} (h : InpS w S v xs kb ko) : InpS w' S v xs kb ko := by
  obtain ⟨hsh, hat⟩ := h
  refine ⟨hsh, fun i hi => ?_⟩
  obtain ⟨q, c, _, _, _, hq⟩ := hsh
  have hne : xs ≠ [] := by rintro rfl; simp at hi
  have hS := hST kb (hq hne).2
  obtain ⟨h1, h2⟩ := hat i hi
  exact ⟨hc.cell h1 hS, hc.cell h2 hS⟩
theorem InpS.mono {w : World} {S T : Nat → Prop} (hST : ∀ k, S k → T k) {v : Value} {xs : List InL} {kb ko : Nat} (h : InpS w S v xs kb ko) : InpS w T v xs kb ko := by
  obtain ⟨⟨q, c, h1, h2, h3, h4⟩, hat⟩ := h
  exact ⟨⟨q, c, h1, h2, h3, fun hn => ⟨(h4 hn).1, hST _ (h4 hn).2⟩⟩, hat⟩
theorem InpS.nil (w : World) (S : Nat → Prop) : InpS w S (.slice none 0 0) [] 0 0 := ⟨⟨none, 0, rfl, Nat.le_refl _, Nat.zero_le _, fun h => absurd rfl h⟩, fun i hi => by simp at hi⟩
end Go.Proofs.Ytbloglfmhhgccaa
