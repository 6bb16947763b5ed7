/- Lists of bytes: what stands between the bytes of one kind, names, paths; plain facts. No condition. -/
import Derived.WalkKit
import Derived.Lib.SplitLaws
import Derived.Lib.Hide
import Derived.Lib.DecodeN
import Derived.Shelf.GgClosure.StringsIndexFunc
namespace Go.Proofs.YtilkcjcmcnlfnaaGreatDoor.Pth
set_option linter.unusedVariables false
open Go.RowKit
def pstep (c : UInt8) (ps : List (List UInt8)) (b : UInt8) : List (List UInt8) := if b = c then ps ++ [[]] else ps.dropLast ++ [ps.getLastD [] ++ [b]]
def pcs (c : UInt8) (l : List UInt8) : List (List UInt8) := l.foldl (pstep c) [[]]
theorem pcs_nil (c : UInt8) : pcs c [] = [[]] := rfl
theorem pcs_snoc (c b : UInt8) (l : List UInt8) : pcs c (l ++ [b]) = pstep c (pcs c l) b := by simp [pcs]
theorem pstep_tail (c b : UInt8) (acc : List (List UInt8)) (p : List UInt8) : pstep c (acc ++ [p]) b = if b = c then acc ++ [p] ++ [[]] else acc ++ [p ++ [b]] := by
  unfold pstep
  split <;> simp
theorem pfold_tail (c : UInt8) (l : List UInt8) : ∀ (acc : List (List UInt8)) (p : List UInt8), l.foldl (pstep c) (acc ++ [p]) = acc ++ l.foldl (pstep c) [p] := by
  induction l with
  | nil => intro acc p; rfl
  | cons b l ih =>
    intro acc p
    simp only [List.foldl_cons]
    rw [pstep_tail]
    have e := pstep_tail c b [] p
    simp only [List.nil_append] at e
    rw [e]
    by_cases h : b = c
    · rw [if_pos h, if_pos h, ih (acc ++ [p]) [], ih [p] []]
      simp
    · rw [if_neg h, if_neg h, ih acc (p ++ [b])]
theorem pfold_free (c : UInt8) (l : List UInt8) (h : c ∉ l) : ∀ (p : List UInt8), l.foldl (pstep c) [p] = [p ++ l] := by
  induction l with
  | nil => intro p; simp
  | cons b l ih =>
    intro p
    have hb : ¬ b = c := fun e => h (by simp [e])
    have e := pstep_tail c b [] p
    simp only [List.nil_append] at e
    simp only [List.foldl_cons]
    rw [e, if_neg hb, ih (fun hm => h (by simp [hm]))]
    simp
theorem pcs_free {c : UInt8} {l : List UInt8} (h : c ∉ l) : pcs c l = [l] := by
  have := pfold_free c l h []
  simpa [pcs] using this
theorem pcs_cut {c : UInt8} {l r : List UInt8} (h : c ∉ l) : pcs c (l ++ c :: r) = l :: pcs c r := by
  unfold pcs
  rw [List.foldl_append, show l.foldl (pstep c) [[]] = [l] from pcs_free h, List.foldl_cons]
  have e := pstep_tail c c [] l
  simp only [List.nil_append] at e
  rw [e, if_pos True.intro, pfold_tail c r [l] []]
  rfl
theorem rev_ind {p : List UInt8 → Prop} (h0 : p []) (h1 : ∀ l b, p l → p (l ++ [b])) (l : List UInt8) : p l := by
  have h : ∀ m : List UInt8, p m.reverse := by
    intro m
    induction m with
    | nil => exact h0
    | cons b m ih => rw [List.reverse_cons]; exact h1 _ _ ih
  have := h l.reverse
  rwa [List.reverse_reverse] at this
theorem pcs_ne (c : UInt8) (l : List UInt8) : ∃ ini q, pcs c l = ini ++ [q] := by
  refine rev_ind (p := fun l => ∃ ini q, pcs c l = ini ++ [q]) ⟨[], [], rfl⟩ (fun l b ih => ?_) l
  rw [pcs_snoc]
  unfold pstep
  split
  · exact ⟨_, _, rfl⟩
  · exact ⟨_, _, rfl⟩
theorem pcs_pos (c : UInt8) (l : List UInt8) : 0 < (pcs c l).length := by
  obtain ⟨i, q, e⟩ := pcs_ne c l
  rw [e]; simp
theorem pcs_len (c : UInt8) (l : List UInt8) : (pcs c l).length ≤ l.length + 1 := by
  refine rev_ind (p := fun l => (pcs c l).length ≤ l.length + 1) (by simp [pcs_nil]) (fun l b ih => ?_) l
  rw [pcs_snoc]
  unfold pstep
  split
  · simp; omega
  · simp; omega
theorem pcs_small (c : UInt8) (l : List UInt8) : ∀ p ∈ pcs c l, p.length ≤ l.length := by
  refine rev_ind (p := fun l => ∀ p ∈ pcs c l, p.length ≤ l.length) (by simp [pcs_nil]) (fun l b ih => ?_) l
  rw [pcs_snoc]
  unfold pstep
  intro p hp
  split at hp
  · rcases List.mem_append.1 hp with h | h
    · have := ih p h; simp; omega
    · simp at h; subst h; simp
  · rcases List.mem_append.1 hp with h | h
    · have := ih p (List.dropLast_subset _ h); simp; omega
    · simp at h
      subst h
      obtain ⟨ini, q, e⟩ := pcs_ne c l
      have := ih q (by rw [e]; simp)
      rw [e]
      simp
      omega
theorem index_pre {c : UInt8} {l r : List UInt8} (h : c ∉ l) : Lib.index (l ++ c :: r) [c] = (l.length : Int) := by
  induction l with
  | nil => simp [Lib.index, List.isPrefixOf]
  | cons b l ih =>
    have hb : ¬ c = b := fun e => h (by simp [e])
    have hi := ih (fun e => h (by simp [e]))
    rw [List.cons_append, Lib.index, hi]
    have hp : ([c] : List UInt8).isPrefixOf (b :: (l ++ c :: r)) = false := by simp [List.isPrefixOf, hb]
    rw [hp]
    have : ((l.length : Int) == -1) = false := by rw [beq_eq_false_iff_ne]; omega
    simp [this]
theorem index_not {c : UInt8} {l : List UInt8} (h : c ∉ l) : Lib.index l [c] = -1 := by
  induction l with
  | nil => simp [Lib.index]
  | cons b l ih =>
    have hb : ¬ c = b := fun e => h (by simp [e])
    rw [Lib.index, ih (fun e => h (by simp [e]))]
    have hp : ([c] : List UInt8).isPrefixOf (b :: l) = false := by simp [List.isPrefixOf, hb]
    rw [hp]
    rfl
theorem first_split {c : UInt8} {l : List UInt8} (h : c ∈ l) : ∃ p r, l = p ++ c :: r ∧ c ∉ p := by
  induction l with
  | nil => cases h
  | cons b l ih =>
    by_cases hb : b = c
    · exact ⟨[], l, by simp [hb], by simp⟩
    · obtain ⟨p, r, e, hp⟩ := ih (by rcases List.mem_cons.1 h with e | e; · exact absurd e.symm hb
                                     · exact e)
      exact ⟨b :: p, r, by rw [e]; rfl, by simp [hp, Ne.symm hb]⟩
theorem split_pcs (c : UInt8) : ∀ (n : Nat) (l : List UInt8), l.length ≤ n → Lib.splitK [c] 0 (Lib.count l [c]) l = pcs c l ∧ (pcs c l).length = Lib.count l [c] + 1 := by
  intro n
  induction n with
  | zero =>
    intro l hl
    have : l = [] := List.eq_nil_of_length_eq_zero (by omega)
    subst this
    rw [Lib.count_miss (index_not (by simp))]
    exact ⟨rfl, rfl⟩
  | succ n ih =>
    intro l hl
    by_cases h : c ∈ l
    · obtain ⟨p, r, rfl, hp⟩ := first_split h
      have hi := index_pre (r := r) hp
      have hd : (p ++ c :: r).drop (p.length + [c].length) = r := by
        rw [← List.drop_drop, List.drop_left]
        rfl
      have hc := Lib.count_hit (sub := [c]) (by simp) hi
      rw [hd] at hc
      obtain ⟨e1, e2⟩ := ih r (by simp at hl; omega)
      rw [hc, pcs_cut hp, Nat.add_comm 1]
      constructor
      · rw [Lib.splitK, hi]
        have : ((p.length : Int) == -1) = false := by rw [beq_eq_false_iff_ne]; omega
        rw [this]
        simp only [Bool.false_eq_true, if_false, Int.toNat_natCast, Nat.add_zero]
        rw [hd, e1, List.take_left']
        rfl
      · rw [List.length_cons, e2]
    · rw [Lib.count_miss (index_not h), pcs_free h]
      exact ⟨rfl, rfl⟩
/- two texts with the byte between them -/
theorem pcs_join (c : UInt8) (l r : List UInt8) : pcs c (l ++ c :: r) = pcs c l ++ pcs c r := by
  have h : ∀ n (l : List UInt8), l.length ≤ n → pcs c (l ++ c :: r) = pcs c l ++ pcs c r := by
    intro n
    induction n with
    | zero =>
      intro l hl
      have : l = [] := List.eq_nil_of_length_eq_zero (by omega)
      subst this
      exact pcs_cut (by simp)
    | succ n ih =>
      intro l hl
      by_cases h : c ∈ l
      · obtain ⟨p, q, rfl, hp⟩ := first_split h
        rw [List.append_assoc, List.cons_append, pcs_cut hp, pcs_cut hp, ih q (by simp at hl; omega)]
        rfl
      · rw [pcs_cut h, pcs_free h]; rfl
  exact h _ l (Nat.le_refl _)
theorem pcs_in {c : UInt8} {l p : List UInt8} (h : p ∈ pcs c l) : c ∉ p := by
  have g : ∀ n (l : List UInt8), l.length ≤ n → ∀ p ∈ pcs c l, c ∉ p := by
    intro n
    induction n with
    | zero =>
      intro l hl p hp
      have : l = [] := List.eq_nil_of_length_eq_zero (by omega)
      subst this
      simp [pcs_nil] at hp
      subst hp; simp
    | succ n ih =>
      intro l hl p hp
      by_cases h : c ∈ l
      · obtain ⟨a, q, rfl, ha⟩ := first_split h
        rw [pcs_cut ha] at hp
        rcases List.mem_cons.1 hp with rfl | hp
        · exact ha
        · exact ih q (by simp at hl; omega) p hp
      · rw [pcs_free h] at hp
        simp at hp; subst hp; exact h
  exact g _ l (Nat.le_refl _) p h
/- the pieces with the byte between them -/
def jn (c : UInt8) : List (List UInt8) → List UInt8
  | [] => []
  | [p] => p
  | p :: q :: r => p ++ c :: jn c (q :: r)
theorem jn_cons (c : UInt8) (p : List UInt8) {r : List (List UInt8)} (h : r ≠ []) : jn c (p :: r) = p ++ c :: jn c r := by
  cases r with
  | nil => exact absurd rfl h
  | cons q r => rfl
theorem jn_snoc (c : UInt8) (q : List UInt8) : ∀ {r : List (List UInt8)}, r ≠ [] → jn c (r ++ [q]) = jn c r ++ c :: q
  | [], h => absurd rfl h
  | [p], _ => rfl
  | p :: a :: r, _ => by
    rw [List.cons_append, jn_cons c p (by simp), jn_snoc c q (r := a :: r) (by simp), jn_cons c p (by simp)]
    simp
theorem jn_pcs (c : UInt8) (l : List UInt8) : jn c (pcs c l) = l := by
  have g : ∀ n (l : List UInt8), l.length ≤ n → jn c (pcs c l) = l := by
    intro n
    induction n with
    | zero =>
      intro l hl
      have : l = [] := List.eq_nil_of_length_eq_zero (by omega)
      subst this; rfl
    | succ n ih =>
      intro l hl
      by_cases h : c ∈ l
      · obtain ⟨a, q, rfl, ha⟩ := first_split h
        rw [pcs_cut ha, jn_cons c a (by intro e; have := pcs_pos c q; rw [e] at this; simp at this), ih q (by simp at hl; omega)]
      · rw [pcs_free h]; rfl
  exact g _ l (Nat.le_refl _)
theorem pcs_jn {c : UInt8} : ∀ {ps : List (List UInt8)}, ps ≠ [] → (∀ p ∈ ps, c ∉ p) → pcs c (jn c ps) = ps
  | [], h, _ => absurd rfl h
  | [p], _, h => pcs_free (h p (by simp))
  | p :: q :: r, _, h => by
    rw [jn_cons c p (by simp), pcs_cut (h p (by simp)), pcs_jn (ps := q :: r) (by simp) (fun x hx => h x (by simp [hx]))]
/- names -/
def okR (n : Nat) : Bool := decide ((97 ≤ n ∧ n ≤ 122) ∨ (48 ≤ n ∧ n ≤ 57) ∨ n = 45 ∨ n = 95 ∨ n = 46)
def okc (b : UInt8) : Bool := okR b.toNat
theorem okR_iff {n : Nat} : okR n = true ↔ ((97 ≤ n ∧ n ≤ 122) ∨ (48 ≤ n ∧ n ≤ 57) ∨ n = 45 ∨ n = 95 ∨ n = 46) := by unfold okR; simp only [decide_eq_true_eq]
theorem okR_not {n : Nat} : okR n = false ↔ ¬ ((97 ≤ n ∧ n ≤ 122) ∨ (48 ≤ n ∧ n ≤ 57) ∨ n = 45 ∨ n = 95 ∨ n = 46) := by unfold okR; simp only [decide_eq_false_iff_not]
def nameL (l : List UInt8) : Bool := decide (1 ≤ l.length) && decide (l.length ≤ 32) && !(l.head? == some 46) && l.all okc
def goodL (l : List UInt8) : Bool := decide (l.length ≤ 128) && ((pcs 47 l).all nameL && decide ((pcs 47 l).length ≤ 8))
def placeL (l : List UInt8) : Bool := l.isEmpty || goodL l
theorem nameL_iff {l : List UInt8} : nameL l = true ↔ 1 ≤ l.length ∧ l.length ≤ 32 ∧ l.head? ≠ some 46 ∧ ∀ b ∈ l, okc b = true := by
  unfold nameL
  simp only [Bool.and_eq_true, decide_eq_true_eq, Bool.not_eq_true', beq_eq_false_iff_ne, List.all_eq_true]
  exact ⟨fun ⟨⟨⟨a, b⟩, c⟩, d⟩ => ⟨a, b, c, d⟩, fun ⟨a, b, c, d⟩ => ⟨⟨⟨a, b⟩, c⟩, d⟩⟩
theorem goodL_iff {l : List UInt8} : goodL l = true ↔ l.length ≤ 128 ∧ (∀ p ∈ pcs 47 l, nameL p = true) ∧ (pcs 47 l).length ≤ 8 := by
  unfold goodL
  simp only [Bool.and_eq_true, decide_eq_true_eq, List.all_eq_true]
theorem okc_small {b : UInt8} (h : okc b = true) : b.toNat < 128 ∧ b ≠ 47 := by
  have h' := okR_iff.1 h
  refine ⟨by omega, fun e => ?_⟩
  subst e
  have : (47 : UInt8).toNat = 47 := rfl
  omega
theorem nameL_free {l : List UInt8} (h : nameL l = true) : (47 : UInt8) ∉ l := fun hm => (okc_small ((nameL_iff.1 h).2.2.2 47 hm)).2 rfl
theorem goodL_pos {l : List UInt8} (h : goodL l = true) : 0 < l.length := by
  rcases Nat.eq_zero_or_pos l.length with e | e
  · have : l = [] := List.eq_nil_of_length_eq_zero e
    subst this
    have := (goodL_iff.1 h).2.1 [] (by simp [pcs_nil])
    have := (nameL_iff.1 this).1
    simp at this
  · exact e
theorem goodL_bytes {l : List UInt8} (h : goodL l = true) : ∀ b ∈ l, b.toNat < 128 := by
  have g : ∀ n (l : List UInt8), l.length ≤ n → (∀ p ∈ pcs 47 l, nameL p = true) → ∀ b ∈ l, b.toNat < 128 := by
    intro n
    induction n with
    | zero =>
      intro l hl _ b hb
      have : l = [] := List.eq_nil_of_length_eq_zero (by omega)
      subst this; simp at hb
    | succ n ih =>
      intro l hl hp b hb
      by_cases h : (47 : UInt8) ∈ l
      · obtain ⟨a, q, rfl, ha⟩ := first_split h
        rw [pcs_cut ha] at hp
        rcases List.mem_append.1 hb with hb | hb
        · exact (okc_small ((nameL_iff.1 (hp a (by simp))).2.2.2 b hb)).1
        · rcases List.mem_cons.1 hb with rfl | hb
          · decide
          · exact ih q (by simp at hl; omega) (fun p hx => hp p (by simp [hx])) b hb
      · rw [pcs_free h] at hp
        exact (okc_small ((nameL_iff.1 (hp l (by simp))).2.2.2 b hb)).1
  exact g _ l (Nat.le_refl _) (goodL_iff.1 h).2.1
/- the last of its bytes -/
def lastCut (c : UInt8) : List UInt8 → Option (List UInt8 × List UInt8)
  | [] => none
  | b :: l => match lastCut c l with
    | some (d, n) => some (b :: d, n)
    | none => if b = c then some ([], l) else none
theorem lastCut_spec (c : UInt8) : ∀ (l : List UInt8), (lastCut c l = none ∧ c ∉ l) ∨ ∃ d n, lastCut c l = some (d, n) ∧ l = d ++ c :: n ∧ c ∉ n
  | [] => .inl ⟨rfl, by simp⟩
  | b :: l => by
    rcases lastCut_spec c l with ⟨h, hn⟩ | ⟨d, n, h, e, hn⟩
    · by_cases hb : b = c
      · exact .inr ⟨[], l, by simp [lastCut, h, hb], by simp [hb], hn⟩
      · exact .inl ⟨by simp [lastCut, h, hb], by simp [hn, Ne.symm hb]⟩
    · exact .inr ⟨b :: d, n, by simp [lastCut, h], by rw [e]; rfl, hn⟩
theorem cut_last {d n d' n' : List UInt8} {c : UInt8} (h1 : c ∉ n) (h2 : c ∉ n') (h : d ++ c :: n = d' ++ c :: n') : d = d' ∧ n = n' := by
  have e : n.reverse ++ c :: d.reverse = n'.reverse ++ c :: d'.reverse := by
    have := congrArg List.reverse h
    simpa using this
  have g : ∀ {l m r s : List UInt8} (hl : c ∉ l) (hm : c ∉ m), l ++ c :: r = m ++ c :: s → l = m ∧ r = s := by
    intro l
    induction l with
    | nil =>
      intro m r s hl hm h
      cases m with
      | nil => exact ⟨rfl, by simpa using h⟩
      | cons x m => simp at h; exact absurd h.1 (fun e => hm (by simp [e]))
    | cons x l ih =>
      intro m r s hl hm h
      cases m with
      | nil => simp at h; exact absurd h.1.symm (fun e => hl (by simp [e]))
      | cons y m =>
        simp at h
        obtain ⟨rfl, h⟩ := h
        obtain ⟨a, b⟩ := ih (fun e => hl (by simp [e])) (fun e => hm (by simp [e])) h
        exact ⟨by rw [a], b⟩
  obtain ⟨a, b⟩ := g (by simpa using h1) (by simpa using h2) e
  exact ⟨by simpa using b, by simpa using a⟩
theorem lastCut_eq {d n : List UInt8} {c : UInt8} (h : c ∉ n) : lastCut c (d ++ c :: n) = some (d, n) := by
  rcases lastCut_spec c (d ++ c :: n) with ⟨_, e⟩ | ⟨a, b, e, g, k⟩
  · exact absurd (by simp) e
  · obtain ⟨rfl, rfl⟩ := cut_last h k g
    exact e
theorem lastCut_none {l : List UInt8} {c : UInt8} (h : c ∉ l) : lastCut c l = none := by
  rcases lastCut_spec c l with ⟨e, _⟩ | ⟨a, b, e, g, k⟩
  · exact e
  · exact absurd (by rw [g]; simp) h
/- a path's last name -/
def baseL (l : List UInt8) : List UInt8 × List UInt8 := if goodL l then (match lastCut 47 l with | some (d, n) => (d, n) | none => ([], l)) else ([], [])
/- a path behind another one -/
def glue (d s : List UInt8) : List UInt8 := if d = [] then s else d ++ 47 :: s
def joinL (d s : List UInt8) : Option (List UInt8) := if goodL s = true ∧ placeL d = true ∧ goodL (glue d s) = true then some (glue d s) else none
/- what stands behind a place -/
def underL (d s : List UInt8) : Option (List UInt8) :=
  if goodL s = true ∧ placeL d = true then (if d = [] then some s else if (d ++ [47]).isPrefixOf s = true then some (s.drop (d.length + 1)) else none) else none
theorem good_glue {d s : List UInt8} (h : goodL (d ++ 47 :: s) = true) : goodL d = true ∧ goodL s = true := by
  obtain ⟨h1, h2, h3⟩ := goodL_iff.1 h
  rw [pcs_join] at h2 h3
  simp at h1 h3
  exact ⟨goodL_iff.2 ⟨by omega, fun p hp => h2 p (by simp [hp]), by omega⟩, goodL_iff.2 ⟨by omega, fun p hp => h2 p (by simp [hp]), by omega⟩⟩
/- where the first byte stands that no name has -/
theorem decode_hi (s : ByteArray) (pos : Nat) (h : pos < s.size) (hb : ¬ (s[pos]'h).toNat < 128) : 128 ≤ (Utf8.decode s pos).1 := by
  have e : s.get! pos = s[pos]'h := by simp [ByteArray.get!, getElem!_pos, h]; rfl
  rw [Lib.decode_at, e]
  unfold Lib.decodeN
  repeat' split
  all_goals first | (exfalso; omega) | (simp only []; omega)
theorem idx_bad (s : ByteArray) : ∀ (f pos : Nat), s.size ≤ pos + f → (0 ≤ Lib.idxFuncFrom (fun r => !okR r) true s f pos ↔ ∃ j, ∃ h : j < s.size, pos ≤ j ∧ okc (s[j]'h) = false) := by
  intro f
  induction f with
  | zero =>
    intro pos hf
    simp only [Lib.idxFuncFrom]
    exact ⟨fun h => absurd h (by decide), fun ⟨j, h, hj, _⟩ => by omega⟩
  | succ f ih =>
    intro pos hf
    unfold Lib.idxFuncFrom
    by_cases hp : pos < s.size
    · rw [if_pos hp]
      by_cases hb : (s[pos]'hp).toNat < 128
      · rw [decode_ascii s pos hp hb]
        simp only []
        cases hk : okR (s[pos]'hp).toNat with
        | true =>
          rw [if_neg (by simp), ih (pos + 1) (by omega)]
          refine ⟨fun ⟨j, h, hj, hx⟩ => ⟨j, h, by omega, hx⟩, fun ⟨j, h, hj, hx⟩ => ⟨j, h, ?_, hx⟩⟩
          by_cases e : j = pos
          · subst e; rw [show okc (s[j]'h) = okR (s[j]'h).toNat from rfl, hk] at hx; cases hx
          · omega
        | false =>
          rw [if_pos (by simp)]
          exact ⟨fun _ => ⟨pos, hp, Nat.le_refl _, hk⟩, fun _ => by omega⟩
      · have hd := decode_hi s pos hp hb
        have hk : okR (Utf8.decode s pos).1 = false := okR_not.2 (by omega)
        rw [hk, if_pos (by simp)]
        exact ⟨fun _ => ⟨pos, hp, Nat.le_refl _, okR_not.2 (by omega)⟩, fun _ => by omega⟩
    · rw [if_neg hp]
      exact ⟨fun h => absurd h (by decide), fun ⟨j, h, hj, _⟩ => by omega⟩
theorem idx_all (s : ByteArray) : decide (0 ≤ Lib.idxFunc (fun r => !okR r) true s) = !s.data.toList.all okc := by
  have h := idx_bad s s.size 0 (by omega)
  cases ha : s.data.toList.all okc with
  | true =>
    rw [Bool.not_true, decide_eq_false_iff_not]
    intro hx
    obtain ⟨j, hj, _, hn⟩ := h.1 hx
    have hm : s[j]'hj ∈ s.data.toList := by
      rw [Array.mem_toList_iff]; exact Array.getElem_mem _
    have := List.all_eq_true.1 ha _ hm
    rw [hn] at this; cases this
  | false =>
    rw [Bool.not_false, decide_eq_true_eq]
    refine h.2 ?_
    rw [List.all_eq_false] at ha
    obtain ⟨x, hx, hn⟩ := ha
    obtain ⟨j, hj, e⟩ := List.getElem_of_mem hx
    have hj' : j < s.size := by simpa using hj
    refine ⟨j, hj', Nat.zero_le _, ?_⟩
    have : s[j]'hj' = x := by rw [← e]; rfl
    rw [this]; simpa using hn
end Go.Proofs.YtilkcjcmcnlfnaaGreatDoor.Pth