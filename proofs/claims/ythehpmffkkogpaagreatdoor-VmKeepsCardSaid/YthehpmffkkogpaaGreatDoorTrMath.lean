/- What a tree is, in lists: which files make one, and what it is then. No condition. -/
import Derived.Test.YthehpmffkkogpaaGreatDoorPthAll
import Derived.Sort.Statements
import Derived.Sort.Walk0
import Derived.Lib.Bytealg
namespace Go.Proofs.YthehpmffkkogpaaGreatDoor
set_option linter.unusedVariables false
open Go.Lib Go.Sort
abbrev FileL := List UInt8 × List UInt8
def bl (x y : List UInt8) : Bool := Op.bytesLess x y
theorem bl_lt (x y : List UInt8) : bl x y = true ↔ x < y := by
  unfold bl
  rw [Go.Proofs.bytesLess_eq, decide_eq_true_eq]
theorem bl_no (x y : List UInt8) : bl x y = false ↔ ¬ x < y := by
  rw [← bl_lt, Bool.not_eq_true]
theorem bl_irr (x : List UInt8) : bl x x = false := (bl_no x x).2 (List.lt_irrefl x)
theorem bl_trans {x y z : List UInt8} (h1 : bl x y = true) (h2 : bl y z = true) : bl x z = true := (bl_lt x z).2 (List.lt_trans ((bl_lt x y).1 h1) ((bl_lt y z).1 h2))
theorem bl_asymm {x y : List UInt8} (h : bl x y = true) : bl y x = false := by
  cases hc : bl y x with
  | false => rfl
  | true => have := bl_trans h hc; rw [bl_irr] at this; cases this
theorem bl_tri {x y : List UInt8} (h1 : bl x y = false) (h2 : bl y x = false) : x = y :=
  List.le_antisymm (List.not_lt.1 ((bl_no y x).1 h2)) (List.not_lt.1 ((bl_no x y).1 h1))
theorem bl_ntrans {x y z : List UInt8} (h1 : bl x y = false) (h2 : bl y z = false) : bl x z = false := by
  cases hc : bl x z with
  | false => rfl
  | true =>
    exfalso
    cases hzy : bl z y with
    | true => have := bl_trans hc hzy; rw [h1] at this; cases this
    | false => have e := bl_tri h2 hzy; subst e; rw [h1] at hc; cases hc
theorem cmp_bl : ∀ (x y : List UInt8), decide (Lib.compareBytes x y < 0) = bl x y
  | [], [] => by rfl
  | [], b :: y => by rfl
  | a :: x, [] => by rfl
  | a :: x, b :: y => by
    have ih := cmp_bl x y
    unfold Lib.compareBytes bl Op.bytesLess
    unfold bl at ih
    by_cases h1 : a < b
    · simp [h1]
    · by_cases h2 : b < a
      · have : a ≠ b := fun e => by subst e; exact h1 h2
        simp [h1, h2, this]
      · have : a = b := UInt8.toNat_inj.1 (by rw [UInt8.lt_iff_toNat_lt] at h1 h2; omega)
        subst this
        simp [h1, ih]
/- rising by their paths -/
def Asc (l : List FileL) : Prop := l.Pairwise fun x y => bl x.1 y.1 = true
def keysL (l : List FileL) : List (List UInt8) := l.map (·.1)
theorem asc_perm : ∀ {l m : List FileL}, Asc l → Asc m → l.Perm m → l = m
  | [], m, _, _, hp => (List.nil_perm.1 hp).symm
  | a :: l, [], _, _, hp => by have := hp.length_eq; simp at this
  | a :: l, b :: m, hl, hm, hp => by
    have hl' := List.pairwise_cons.1 hl
    have hm' := List.pairwise_cons.1 hm
    have hab : a = b := by
      have h1 : a ∈ b :: m := hp.mem_iff.1 (by simp)
      have h2 : b ∈ a :: l := hp.mem_iff.2 (by simp)
      rcases List.mem_cons.1 h1 with h | h1
      · exact h
      · rcases List.mem_cons.1 h2 with h | h2
        · exact h.symm
        · have x1 := hm'.1 a h1
          have x2 := hl'.1 b h2
          rw [bl_asymm x1] at x2
          cases x2
    subst hab
    rw [asc_perm hl'.2 hm'.2 (List.perm_cons a |>.1 hp)]
theorem asc_nodup {l : List FileL} (h : Asc l) : (keysL l).Nodup := by
  unfold keysL List.Nodup
  rw [List.pairwise_map]
  exact h.imp fun {x y} hxy e => by rw [e, bl_irr] at hxy; cases hxy
def belowF (f : FileL) (t : List FileL) : List FileL := t.filter fun g => bl g.1 f.1
def aboveF (f : FileL) (t : List FileL) : List FileL := t.filter fun g => bl f.1 g.1
def insF (f : FileL) (t : List FileL) : List FileL := belowF f t ++ f :: aboveF f t
def sortF (l : List FileL) : List FileL := l.foldl (fun t f => insF f t) []
theorem sortF_snoc (l : List FileL) (f : FileL) : sortF (l ++ [f]) = insF f (sortF l) := by
  unfold sortF
  rw [List.foldl_append]
  rfl
theorem ins_asc {t : List FileL} (h : Asc t) (f : FileL) : Asc (insF f t) := by
  unfold insF Asc belowF aboveF
  rw [List.pairwise_append]
  refine ⟨h.filter _, List.pairwise_cons.2 ⟨fun y hy => (List.mem_filter.1 hy).2, h.filter _⟩, fun x hx y hy => ?_⟩
  have hx' := (List.mem_filter.1 hx).2
  rcases List.mem_cons.1 hy with rfl | hy
  · exact hx'
  · exact bl_trans hx' (List.mem_filter.1 hy).2
theorem ins_perm : ∀ {t : List FileL} {f : FileL}, (∀ g ∈ t, g.1 ≠ f.1) → (insF f t).Perm (f :: t) := by
  intro t f h
  have h1 : (belowF f t ++ aboveF f t).Perm t := by
    induction t with
    | nil => exact List.Perm.refl _
    | cons g r ih =>
      have ih := ih fun x hx => h x (List.mem_cons_of_mem _ hx)
      have hg := h g (by simp)
      unfold belowF aboveF at ih ⊢
      cases hb : bl g.1 f.1 with
      | true =>
        have ha := bl_asymm hb
        rw [List.filter_cons_of_pos (by simpa using hb), List.filter_cons_of_neg (by simpa using ha), List.cons_append]
        exact ih.cons g
      | false =>
        have ha : bl f.1 g.1 = true := by
          cases hc : bl f.1 g.1 with
          | true => rfl
          | false => exact absurd (bl_tri hb hc) hg
        rw [List.filter_cons_of_neg (by simpa using hb), List.filter_cons_of_pos (by simpa using ha)]
        exact List.perm_middle.trans (ih.cons g)
  unfold insF
  exact List.perm_middle.trans (h1.cons f)
theorem sortF_asc (l : List FileL) : Asc (sortF l) := by
  have : ∀ (l t : List FileL), Asc t → Asc (l.foldl (fun t f => insF f t) t) := by
    intro l
    induction l with
    | nil => intro t h; exact h
    | cons f r ih => intro t h; exact ih _ (ins_asc h f)
  exact this l [] List.Pairwise.nil
theorem sortF_perm : ∀ {l : List FileL}, (keysL l).Nodup → (sortF l).Perm l := by
  have : ∀ (l t : List FileL), (keysL (t ++ l)).Nodup → (l.foldl (fun t f => insF f t) t).Perm (t ++ l) := by
    intro l
    induction l with
    | nil => intro t _; rw [List.append_nil]; exact List.Perm.refl _
    | cons f r ih =>
      intro t h
      have hp : (insF f t).Perm (f :: t) := ins_perm fun g hg e => by
        unfold keysL at h
        rw [List.map_append, List.nodup_append] at h
        exact h.2.2 g.1 (List.mem_map_of_mem hg) f.1 (by simp) e
      have hk : (keysL (insF f t ++ r)).Nodup := by
        have : (insF f t ++ r).Perm (t ++ f :: r) := (hp.append_right r).trans List.perm_middle.symm
        exact (List.Perm.nodup_iff (this.map (fun x : FileL => x.1))).2 h
      exact (ih _ hk).trans ((hp.append_right r).trans List.perm_middle.symm)
  intro l h
  exact this l [] h
/- the first fault of a file, in their order -/
def badF : List FileL → Option Int
  | [] => none
  | f :: r => if Pth.goodL f.1 = false then some 10 else if 2048 < f.2.length then some 3 else badF r
theorem badF_none {l : List FileL} : badF l = none ↔ ∀ f ∈ l, Pth.goodL f.1 = true ∧ f.2.length ≤ 2048 := by
  induction l with
  | nil => simp [badF]
  | cons f r ih =>
    rw [badF]
    cases hg : Pth.goodL f.1 with
    | false => simp [hg]
    | true =>
      by_cases h2 : 2048 < f.2.length
      · have h3 : ¬ f.2.length ≤ 2048 := by omega
        rw [if_neg (by decide), if_pos h2]
        exact ⟨(fun h => by cases h), fun h => absurd (h f (by simp)).2 h3⟩
      · simp only [Bool.true_eq_false, if_false, h2, ih, List.mem_cons, forall_eq_or_imp, hg, true_and]
        exact ⟨fun h => ⟨by omega, h⟩, fun h => h.2⟩
theorem badF_pre {a r : List FileL} {f : FileL} {y : Int} (ha : badF a = none) (hf : badF [f] = some y) : badF (a ++ f :: r) = some y := by
  induction a with
  | nil =>
    rw [List.nil_append]
    rw [badF] at hf ⊢
    split
    · rename_i h; rw [if_pos h] at hf; exact hf
    · rename_i h
      rw [if_neg h] at hf
      split
      · rename_i h2; rw [if_pos h2] at hf; exact hf
      · rename_i h2; rw [if_neg h2] at hf; cases hf
  | cons g s ih =>
    rw [badF] at ha
    rw [List.cons_append, badF]
    split
    · rename_i h; rw [if_pos h] at ha; cases ha
    · rename_i h
      rw [if_neg h] at ha
      split
      · rename_i h2; rw [if_pos h2] at ha; cases ha
      · rename_i h2; rw [if_neg h2] at ha; exact ih ha
theorem badF_snoc {a : List FileL} {f : FileL} (ha : badF a = none) (h1 : Pth.goodL f.1 = true) (h2 : f.2.length ≤ 2048) : badF (a ++ [f]) = none := by
  rw [badF_none] at ha ⊢
  intro g hg
  rcases List.mem_append.1 hg with h | h
  · exact ha g h
  · rw [List.mem_singleton] at h; subst h; exact ⟨h1, h2⟩
def dirL (p : List UInt8) : List UInt8 := p ++ [47]
def aheadL (p q : List UInt8) : Bool := (dirL p).isPrefixOf q
def clashF (l : List FileL) : Bool := l.any fun f => l.any fun g => aheadL f.1 g.1
theorem clashF_perm {l m : List FileL} (h : l.Perm m) : clashF l = clashF m := by
  unfold clashF
  rw [Bool.eq_iff_iff, List.any_eq_true, List.any_eq_true]
  constructor
  · rintro ⟨f, hf, hg⟩
    refine ⟨f, h.mem_iff.1 hf, ?_⟩
    rw [List.any_eq_true] at hg ⊢
    obtain ⟨g, h1, h2⟩ := hg
    exact ⟨g, h.mem_iff.1 h1, h2⟩
  · rintro ⟨f, hf, hg⟩
    refine ⟨f, h.mem_iff.2 hf, ?_⟩
    rw [List.any_eq_true] at hg ⊢
    obtain ⟨g, h1, h2⟩ := hg
    exact ⟨g, h.mem_iff.2 h1, h2⟩
def makeF (l : List FileL) : Except Int (List FileL) :=
  if 32 < l.length then .error 13 else match badF l with
    | some y => .error y
    | none => if (keysL l).Nodup then (if clashF l = true then .error 12 else .ok (sortF l)) else .error 11
def goodF (l : List FileL) : Bool := match makeF l with
  | .ok m => decide (m = l)
  | .error _ => false
/- stands by rising paths, each perhaps more often than once -/
def Up (l : List FileL) : Prop := ∀ i j (h1 : i < j) (h2 : j < l.length), bl l[j].1 (l[i]'(by omega)).1 = false
theorem up_nodup {l : List FileL} (hu : Up l) : (keysL l).Nodup ↔ ∀ i (h : i + 1 < l.length), l[i + 1].1 ≠ l[i].1 := by
  unfold keysL
  rw [List.nodup_iff_pairwise_ne, List.pairwise_iff_getElem]
  simp only [List.length_map, List.getElem_map]
  constructor
  · intro h i hi e
    exact h i (i + 1) (by omega) hi (by omega) e.symm
  · intro h i j hi hj hij e
    have h1 := hu i (i + 1) (by omega) (by omega)
    by_cases hj1 : j = i + 1
    · subst hj1; exact h i hj e.symm
    · have h2 := hu (i + 1) j (by omega) hj
      rw [← e] at h2
      exact h i (by omega) (bl_tri h1 h2)
theorem up_asc {l : List FileL} (hu : Up l) (hn : (keysL l).Nodup) : Asc l := by
  unfold Asc
  rw [List.pairwise_iff_getElem]
  intro i j hi hj hij
  cases hc : bl l[i].1 l[j].1 with
  | true => rfl
  | false =>
    have e := bl_tri hc (hu i j hij hj)
    unfold keysL at hn
    rw [List.nodup_iff_pairwise_ne, List.pairwise_iff_getElem] at hn
    have := hn i j (by simpa using hi) (by simpa using hj) hij
    simp only [List.getElem_map] at this
    exact absurd e this
theorem up_sort {l d : List FileL} (hp : d.Perm l) (hu : Up d) (hn : (keysL d).Nodup) : d = sortF l ∧ (keysL l).Nodup := by
  have hk : (keysL l).Nodup := (List.Perm.nodup_iff (hp.map (fun x : FileL => x.1))).1 hn
  exact ⟨asc_perm (up_asc hu hn) (sortF_asc l) (hp.trans (sortF_perm hk).symm), hk⟩
end Go.Proofs.YthehpmffkkogpaaGreatDoor
