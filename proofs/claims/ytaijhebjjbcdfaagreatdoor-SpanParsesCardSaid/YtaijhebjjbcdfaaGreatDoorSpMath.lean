/- Gaps, in lists: what is a range, what tidy, And and Not answer. No condition. -/
import Derived.RowKit
namespace Go.Proofs.YtaijhebjjbcdfaaGreatDoor
set_option linter.unusedVariables false
abbrev GapL := Int × Int
def allG : Int := 1000000000
/- gaps that rise, with something between each two, none empty -/
def chainG (a : Int) : List GapL → Bool
  | [] => true
  | g :: r => decide (a < g.1 ∧ g.1 < g.2 ∧ g.2 ≤ allG) && chainG g.2 r
def goodG (l : List GapL) : Bool := decide (l.length ≤ 16) && chainG (-1) l
def inOne (g : GapL) (n : Int) : Bool := decide (g.1 ≤ n ∧ n < g.2)
def inG (l : List GapL) (n : Int) : Bool := l.any fun g => inOne g n
theorem chain_cons {a : Int} {g : GapL} {r : List GapL} : chainG a (g :: r) = true ↔ (a < g.1 ∧ g.1 < g.2 ∧ g.2 ≤ allG) ∧ chainG g.2 r = true := by
  rw [chainG, Bool.and_eq_true, decide_eq_true_iff]
theorem inG_cons (g : GapL) (r : List GapL) (n : Int) : inG (g :: r) n = (inOne g n || inG r n) := rfl
theorem inG_app (a b : List GapL) (n : Int) : inG (a ++ b) n = (inG a n || inG b n) := by unfold inG; rw [List.any_append]
theorem chain_low {l : List GapL} : ∀ {a : Int}, chainG a l = true → ∀ n, n ≤ a → inG l n = false := by
  induction l with
  | nil => intro a h n hn; rfl
  | cons g r ih =>
    intro a h n hn
    obtain ⟨⟨h1, h2, h3⟩, h4⟩ := chain_cons.1 h
    rw [inG_cons, ih h4 n (by omega), Bool.or_false]
    exact decide_eq_false (by omega)
theorem chain_same : ∀ {l m : List GapL} {a b : Int}, chainG a l = true → chainG b m = true → (∀ n, inG l n = inG m n) → l = m := by
  intro l
  induction l with
  | nil =>
    intro m a b _ hm hin
    cases m with
    | nil => rfl
    | cons h s =>
      obtain ⟨⟨h1, h2, h3⟩, h4⟩ := chain_cons.1 hm
      have := hin h.1
      rw [inG_cons, show inOne h h.1 = true from decide_eq_true (by omega)] at this
      exact absurd this (by simp [inG])
  | cons g r ih =>
    intro m a b hl hm hin
    obtain ⟨⟨g1, g2, g3⟩, g4⟩ := chain_cons.1 hl
    cases m with
    | nil =>
      have := hin g.1
      rw [inG_cons, show inOne g g.1 = true from decide_eq_true (by omega)] at this
      exact absurd this (by simp [inG])
    | cons h s =>
      obtain ⟨⟨h1, h2, h3⟩, h4⟩ := chain_cons.1 hm
      have lowl : ∀ n, n < g.1 → inG (g :: r) n = false := fun n hn => by
        rw [inG_cons, chain_low g4 n (by omega), Bool.or_false]; exact decide_eq_false (by omega)
      have lowm : ∀ n, n < h.1 → inG (h :: s) n = false := fun n hn => by
        rw [inG_cons, chain_low h4 n (by omega), Bool.or_false]; exact decide_eq_false (by omega)
      have inl : ∀ n, g.1 ≤ n → n < g.2 → inG (g :: r) n = true := fun n a b => by rw [inG_cons, show inOne g n = true from decide_eq_true ⟨a, b⟩]; rfl
      have inm : ∀ n, h.1 ≤ n → n < h.2 → inG (h :: s) n = true := fun n a b => by rw [inG_cons, show inOne h n = true from decide_eq_true ⟨a, b⟩]; rfl
      have outl : inG (g :: r) g.2 = false := by rw [inG_cons, chain_low g4 _ (Int.le_refl _), Bool.or_false]; exact decide_eq_false (by omega)
      have outm : inG (h :: s) h.2 = false := by rw [inG_cons, chain_low h4 _ (Int.le_refl _), Bool.or_false]; exact decide_eq_false (by omega)
      have e1 : g.1 = h.1 := by
        rcases Int.lt_trichotomy g.1 h.1 with x | x | x
        · have e := hin g.1; rw [inl _ (Int.le_refl _) g2, lowm _ x] at e; cases e
        · exact x
        · have e := hin h.1; rw [inm _ (Int.le_refl _) h2, lowl _ x] at e; cases e
      have e2 : g.2 = h.2 := by
        rcases Int.lt_trichotomy g.2 h.2 with x | x | x
        · have e := hin g.2; rw [outl, inm _ (by omega) x] at e; cases e
        · exact x
        · have e := hin h.2; rw [outm, inl _ (by omega) x] at e; cases e
      obtain rfl : g = h := Prod.ext e1 e2
      rw [ih g4 h4 fun n => ?_]
      have e := hin n
      rw [inG_cons, inG_cons] at e
      rcases Int.lt_or_le g.2 n with x | x
      · rw [show inOne g n = false from decide_eq_false (by omega)] at e
        simpa using e
      · rw [chain_low g4 n x, chain_low h4 n x]
/- one gap more behind those that are laid -/
def tidyS (out : List GapL) (g : GapL) : List GapL :=
  if g.2 ≤ g.1 then out else match out.getLast? with
    | some h => if g.1 ≤ h.2 then out.dropLast ++ [(h.1, max h.2 g.2)] else out ++ [g]
    | none => out ++ [g]
def tidyF (l : List GapL) : List GapL := l.foldl tidyS []
def Rises (l : List GapL) : Prop := l.Pairwise fun a b => a.1 ≤ b.1
theorem chain_app {l : List GapL} : ∀ {a : Int} {g : GapL}, chainG a (l ++ [g]) = true ↔ chainG a l = true ∧ chainG (match l.getLast? with | some h => h.2 | none => a) [g] = true := by
  induction l with
  | nil => intro a g; rw [List.nil_append]; exact ⟨fun h => ⟨rfl, h⟩, fun h => h.2⟩
  | cons h r ih =>
    intro a g
    rw [List.cons_append, chain_cons, chain_cons, ih]
    cases r with
    | nil => simp [and_assoc]
    | cons x y => rw [List.getLast?_cons_cons]; constructor <;> (rintro ⟨p, q⟩; first | exact ⟨⟨p, q.1⟩, q.2⟩ | exact ⟨p.1, p.2, q⟩)
structure Tidy (lo : Int) (l out : List GapL) : Prop where
  chain : chainG (-1) out = true
  same : ∀ n, inG out n = inG l n
  low : ∀ h, out.getLast? = some h → h.1 ≤ lo
theorem tidy_step {lo : Int} {l out : List GapL} (h : Tidy lo l out) {g : GapL} (hlo : lo ≤ g.1) (h0 : 0 ≤ g.1) (h9 : g.2 ≤ allG) : Tidy g.1 (l ++ [g]) (tidyS out g) := by
  obtain ⟨h1, h2, h3⟩ := h
  unfold tidyS
  by_cases he : g.2 ≤ g.1
  · rw [if_pos he]
    refine ⟨h1, fun n => ?_, fun x hx => Int.le_trans (h3 x hx) hlo⟩
    rw [inG_app, h2 n, inG_cons, show inOne g n = false from decide_eq_false (by omega)]
    simp [inG]
  · rw [if_neg he]
    cases hl : out.getLast? with
    | none =>
      have hn : out = [] := List.getLast?_eq_none_iff.1 hl
      subst hn
      refine ⟨chain_cons.2 ⟨⟨by omega, by omega, h9⟩, rfl⟩, fun n => ?_, fun x hx => ?_⟩
      · rw [List.nil_append, inG_app, ← h2 n]; rfl
      · simp at hx; rw [← hx]; exact Int.le_refl _
    | some t =>
      obtain ⟨i, hi⟩ : ∃ i, out = i ++ [t] := by
        obtain ⟨ys, e⟩ := List.getLast?_eq_some_iff.1 hl
        exact ⟨ys, e⟩
      have ht := h3 t hl
      subst hi
      simp only [List.dropLast_concat]
      rw [chain_app] at h1
      obtain ⟨c1, c2⟩ := h1
      obtain ⟨⟨d1, d2, d3⟩, -⟩ := chain_cons.1 c2
      by_cases hc : g.1 ≤ t.2
      · rw [if_pos hc]
        refine ⟨chain_app.2 ⟨c1, chain_cons.2 ⟨⟨d1, ?_, ?_⟩, rfl⟩⟩, fun n => ?_, fun x hx => ?_⟩
        · show t.1 < max t.2 g.2; omega
        · show max t.2 g.2 ≤ allG; omega
        · rw [inG_app, inG_app, ← h2 n, inG_app, inG_cons, inG_cons, inG_cons]
          have e : inOne (t.1, max t.2 g.2) n = (inOne t n || inOne g n) := by
            unfold inOne
            rw [Bool.eq_iff_iff, Bool.or_eq_true, decide_eq_true_iff, decide_eq_true_iff, decide_eq_true_iff]
            show (t.1 ≤ n ∧ n < max t.2 g.2) ↔ _
            omega
          rw [e]
          simp [inG, Bool.or_assoc]
        · simp at hx; rw [← hx]; show t.1 ≤ g.1; omega
      · rw [if_neg hc]
        refine ⟨chain_app.2 ⟨chain_app.2 ⟨c1, c2⟩, ?_⟩, fun n => ?_, fun x hx => ?_⟩
        · rw [List.getLast?_concat]
          exact chain_cons.2 ⟨⟨by show t.2 < g.1; omega, by omega, h9⟩, rfl⟩
        · rw [inG_app (i ++ [t]), inG_app l, ← h2 n]
        · simp at hx; rw [← hx]; exact Int.le_refl _
theorem tidy_fold : ∀ (r l out : List GapL) (lo : Int), Tidy lo l out → Rises r → (∀ g ∈ r, lo ≤ g.1) → (∀ g ∈ r, 0 ≤ g.1 ∧ g.2 ≤ allG) → ∃ lo', Tidy lo' (l ++ r) (r.foldl tidyS out)
  | [], l, out, lo, h, _, _, _ => ⟨lo, by simpa using h⟩
  | g :: r, l, out, lo, h, hr, hlo, hb => by
    have h1 := tidy_step h (hlo g (by simp)) (hb g (by simp)).1 (hb g (by simp)).2
    obtain ⟨hr1, hr2⟩ := List.pairwise_cons.1 hr
    have := tidy_fold r (l ++ [g]) (tidyS out g) g.1 h1 hr2 hr1 fun x hx => hb x (by simp [hx])
    simpa [List.append_assoc] using this
/- what tidy answers is a range, of just what the gaps have -/
theorem tidy_ok {l : List GapL} (hr : Rises l) (hb : ∀ g ∈ l, 0 ≤ g.1 ∧ g.2 ≤ allG) : chainG (-1) (tidyF l) = true ∧ ∀ n, inG (tidyF l) n = inG l n := by
  cases l with
  | nil => exact ⟨rfl, fun _ => rfl⟩
  | cons g r =>
    obtain ⟨lo, h⟩ := tidy_fold (g :: r) [] [] g.1 ⟨rfl, fun _ => rfl, fun h hh => by cases hh⟩ hr (fun x hx => by
      rcases List.mem_cons.1 hx with rfl | hx
      · exact Int.le_refl _
      · exact (List.pairwise_cons.1 hr).1 x hx) hb
    exact ⟨h.chain, h.same⟩
theorem inG_perm {l m : List GapL} (h : l.Perm m) (n : Int) : inG l n = inG m n := by
  unfold inG
  rw [Bool.eq_iff_iff, List.any_eq_true, List.any_eq_true]
  constructor <;> rintro ⟨x, hx, hy⟩
  · exact ⟨x, h.mem_iff.1 hx, hy⟩
  · exact ⟨x, h.mem_iff.2 hx, hy⟩
/- what both have; what lies between -/
def commonG (g h : GapL) : GapL := (max g.1 h.1, min g.2 h.2)
def bothL (a b : List GapL) : List GapL := a.flatMap fun g => b.map fun h => commonG g h
def betweenL (from' : Int) : List GapL → List GapL
  | [] => [(from', allG)]
  | g :: r => (from', g.1) :: betweenL g.2 r
theorem in_common (g h : GapL) (n : Int) : inOne (commonG g h) n = (inOne g n && inOne h n) := by
  unfold inOne commonG
  rw [Bool.eq_iff_iff, Bool.and_eq_true, decide_eq_true_iff, decide_eq_true_iff, decide_eq_true_iff]
  show (max g.1 h.1 ≤ n ∧ n < min g.2 h.2) ↔ _
  omega
theorem in_map (g : GapL) (b : List GapL) (n : Int) : inG (b.map fun h => commonG g h) n = (inOne g n && inG b n) := by
  induction b with
  | nil => simp [inG]
  | cons h s ih => rw [List.map_cons, inG_cons, inG_cons, ih, in_common]; cases inOne g n <;> simp
theorem in_both (a b : List GapL) (n : Int) : inG (bothL a b) n = (inG a n && inG b n) := by
  induction a with
  | nil => rfl
  | cons g r ih =>
    show inG ((b.map fun h => commonG g h) ++ bothL r b) n = _
    rw [inG_app, in_map, ih, inG_cons]
    cases inOne g n <;> cases inG b n <;> simp
theorem chain_bounds {l : List GapL} : ∀ {a : Int}, chainG a l = true → ∀ g ∈ l, a < g.1 ∧ g.1 < g.2 ∧ g.2 ≤ allG := by
  induction l with
  | nil => intro a h g hg; cases hg
  | cons x r ih =>
    intro a h g hg
    obtain ⟨⟨h1, h2, h3⟩, h4⟩ := chain_cons.1 h
    rcases List.mem_cons.1 hg with rfl | hg
    · exact ⟨h1, h2, h3⟩
    · have := ih h4 g hg; omega
theorem good_bounds {l : List GapL} (h : goodG l = true) : ∀ g ∈ l, 0 ≤ g.1 ∧ g.1 < g.2 ∧ g.2 ≤ allG := fun g hg => by
  unfold goodG at h
  rw [Bool.and_eq_true] at h
  have := chain_bounds h.2 g hg
  omega
theorem both_bounds {a b : List GapL} (ha : goodG a = true) (hb : goodG b = true) : ∀ g ∈ bothL a b, 0 ≤ g.1 ∧ g.2 ≤ allG := fun g hg => by
  obtain ⟨x, hx, hg⟩ := List.mem_flatMap.1 hg
  obtain ⟨y, hy, rfl⟩ := List.mem_map.1 hg
  have h1 := good_bounds ha x hx
  have h2 := good_bounds hb y hy
  show 0 ≤ max x.1 y.1 ∧ min x.2 y.2 ≤ allG
  omega
theorem app_bounds {a b : List GapL} (ha : goodG a = true) (hb : goodG b = true) : ∀ g ∈ a ++ b, 0 ≤ g.1 ∧ g.2 ≤ allG := fun g hg => by
  rcases List.mem_append.1 hg with h | h
  · have := good_bounds ha g h; omega
  · have := good_bounds hb g h; omega
theorem between_ok : ∀ {l : List GapL} {a f : Int}, chainG a l = true → 0 ≤ f → f ≤ allG → (∀ g ∈ l, f ≤ g.1) → (∀ g ∈ betweenL f l, f ≤ g.1 ∧ g.2 ≤ allG) ∧ ∀ n, f ≤ n → n < allG → inG (betweenL f l) n = !inG l n := by
  intro l
  induction l with
  | nil =>
    intro a f h hf h9 hg
    refine ⟨fun g hg => ?_, fun n h1 h2 => ?_⟩
    · rw [betweenL, List.mem_singleton] at hg; subst hg; exact ⟨Int.le_refl _, Int.le_refl _⟩
    · rw [betweenL, inG_cons, show inOne (f, allG) n = true from decide_eq_true ⟨h1, h2⟩]; rfl
  | cons x r ih =>
    intro a f h hf h9 hg
    obtain ⟨⟨h1, h2, h3⟩, h4⟩ := chain_cons.1 h
    have hx := hg x (by simp)
    obtain ⟨b1, b2⟩ := ih h4 (by omega) h3 (fun g hg => by have := chain_bounds h4 g hg; omega)
    refine ⟨fun g hg => ?_, fun n n1 n2 => ?_⟩
    · rw [betweenL] at hg
      rcases List.mem_cons.1 hg with rfl | hg
      · exact ⟨Int.le_refl _, by show x.1 ≤ allG; omega⟩
      · have := b1 g hg; omega
    · rw [betweenL, inG_cons, inG_cons]
      rcases Int.lt_or_le n x.2 with c | c
      · have e1 : inG (betweenL x.2 r) n = false := by
          unfold inG
          rw [List.any_eq_false]
          intro g hg
          have := b1 g hg
          rw [show inOne g n = false from decide_eq_false (by omega)]
          decide
        rw [e1, chain_low h4 n (by omega), Bool.or_false, Bool.or_false]
        unfold inOne
        rw [Bool.eq_iff_iff, Bool.not_eq_true', decide_eq_true_iff, decide_eq_false_iff_not]
        show (f ≤ n ∧ n < x.1) ↔ _
        omega
      · rw [b2 n c n2, show inOne (f, x.1) n = false from decide_eq_false (by show ¬ (f ≤ n ∧ n < x.1); omega), show inOne x n = false from decide_eq_false (by omega)]
        simp
theorem not_ok {l : List GapL} (h : goodG l = true) : (∀ g ∈ betweenL 0 l, 0 ≤ g.1 ∧ g.2 ≤ allG) ∧ ∀ n, 0 ≤ n → n < allG → inG (betweenL 0 l) n = !inG l n := by
  have hb := good_bounds h
  unfold goodG at h
  rw [Bool.and_eq_true] at h
  exact between_ok h.2 (Int.le_refl _) (by decide) fun g hg => (hb g hg).1
end Go.Proofs.YtaijhebjjbcdfaaGreatDoor
