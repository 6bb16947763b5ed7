/- Lists of bytes: what stands between the bytes of one kind, names, paths; plain facts. No condition. -/
import Derived.WalkKit
import Derived.Lib.SplitLaws
import Derived.Lib.Hide
import Derived.Lib.DecodeN
import Derived.Shelf.GgClosure.StringsIndexFunc
import Derived.Test.YtaihgciokfkonaaDoorShelf
import Derived.Test.YtaihgciokfkonaaDoorRows
import Derived.ProofKit
import Derived.OpenShut
import Derived.ShutString
import Derived.OneCell
import Derived.Below
import Derived.Lib.SmallJoins
import Derived.WalkSpells
import Derived.OwnWalk
import Derived.Laws.OwnMore
import Derived.StillTailTactics
import Derived.Lib.TrimAscii
import Derived.Shelf.GgClosure.StringsTrimFunc
import Derived.Deep.QuietTactic
import Derived.BigQuiet
namespace Go.Proofs.YtaihgciokfkonaaDoor.Pth
set_option linter.unusedVariables false
open Go.RowKit
def pstep (c : UInt8) (ps : List (List UInt8)) (b : UInt8) : List (List UInt8) := if b = c then ps ++ [[]] else ps.dropLast ++ [ps.getLastD [] ++ [b]]
def pcs (c : UInt8) (l : List UInt8) : List (List UInt8) := l.foldl (pstep c) [[]]
theorem pcs_nil (c : UInt8) : pcs c [] = [[]] := rfl
theorem pcs_snoc (c b : UInt8) (l : List UInt8) : pcs c (l ++ [b]) = pstep c (pcs c l) b := by simp [pcs]
theorem pstep_tail (c b : UInt8) (acc : List (List UInt8)) (p : List UInt8) : pstep c (acc ++ [p]) b = if b = c then acc ++ [p] ++ [[]] else acc ++ [p ++ [b]] := by
  unfold pstep
  split <;> simp
theorem pfold_tail (c : UInt8) (l : List UInt8) : ∀ (acc : List (List UInt8)) (p : List UInt8), l.foldl (pstep c) (acc ++ [p]) = acc ++ l.foldl (pstep c) [p] := by
  induction l with
  | nil => intro acc p; rfl
  | cons b l ih =>
    intro acc p
    simp only [List.foldl_cons]
    rw [pstep_tail]
    have e := pstep_tail c b [] p
    simp only [List.nil_append] at e
    rw [e]
    by_cases h : b = c
    · rw [if_pos h, if_pos h, ih (acc ++ [p]) [], ih [p] []]
      simp
    · rw [if_neg h, if_neg h, ih acc (p ++ [b])]
theorem pfold_free (c : UInt8) (l : List UInt8) (h : c ∉ l) : ∀ (p : List UInt8), l.foldl (pstep c) [p] = [p ++ l] := by
  induction l with
  | nil => intro p; simp
  | cons b l ih =>
    intro p
    have hb : ¬ b = c := fun e => h (by simp [e])
    have e := pstep_tail c b [] p
    simp only [List.nil_append] at e
    simp only [List.foldl_cons]
    rw [e, if_neg hb, ih (fun hm => h (by simp [hm]))]
    simp
theorem pcs_free {c : UInt8} {l : List UInt8} (h : c ∉ l) : pcs c l = [l] := by
  have := pfold_free c l h []
  simpa [pcs] using this
theorem pcs_cut {c : UInt8} {l r : List UInt8} (h : c ∉ l) : pcs c (l ++ c :: r) = l :: pcs c r := by
  unfold pcs
  rw [List.foldl_append, show l.foldl (pstep c) [[]] = [l] from pcs_free h, List.foldl_cons]
  have e := pstep_tail c c [] l
  simp only [List.nil_append] at e
  rw [e, if_pos True.intro, pfold_tail c r [l] []]
  rfl
theorem rev_ind {p : List UInt8 → Prop} (h0 : p []) (h1 : ∀ l b, p l → p (l ++ [b])) (l : List UInt8) : p l := by
  have h : ∀ m : List UInt8, p m.reverse := by
    intro m
    induction m with
    | nil => exact h0
    | cons b m ih => rw [List.reverse_cons]; exact h1 _ _ ih
  have := h l.reverse
  rwa [List.reverse_reverse] at this
theorem pcs_ne (c : UInt8) (l : List UInt8) : ∃ ini q, pcs c l = ini ++ [q] := by
  refine rev_ind (p := fun l => ∃ ini q, pcs c l = ini ++ [q]) ⟨[], [], rfl⟩ (fun l b ih => ?_) l
  rw [pcs_snoc]
  unfold pstep
  split
  · exact ⟨_, _, rfl⟩
  · exact ⟨_, _, rfl⟩
theorem pcs_pos (c : UInt8) (l : List UInt8) : 0 < (pcs c l).length := by
  obtain ⟨i, q, e⟩ := pcs_ne c l
  rw [e]; simp
theorem pcs_len (c : UInt8) (l : List UInt8) : (pcs c l).length ≤ l.length + 1 := by
  refine rev_ind (p := fun l => (pcs c l).length ≤ l.length + 1) (by simp [pcs_nil]) (fun l b ih => ?_) l
  rw [pcs_snoc]
  unfold pstep
  split
  · simp; omega
  · simp; omega
theorem pcs_small (c : UInt8) (l : List UInt8) : ∀ p ∈ pcs c l, p.length ≤ l.length := by
  refine rev_ind (p := fun l => ∀ p ∈ pcs c l, p.length ≤ l.length) (by simp [pcs_nil]) (fun l b ih => ?_) l
  rw [pcs_snoc]
  unfold pstep
  intro p hp
  split at hp
  · rcases List.mem_append.1 hp with h | h
    · have := ih p h; simp; omega
    · simp at h; subst h; simp
  · rcases List.mem_append.1 hp with h | h
    · have := ih p (List.dropLast_subset _ h); simp; omega
    · simp at h
      subst h
      obtain ⟨ini, q, e⟩ := pcs_ne c l
      have := ih q (by rw [e]; simp)
      rw [e]
      simp
      omega
theorem index_pre {c : UInt8} {l r : List UInt8} (h : c ∉ l) : Lib.index (l ++ c :: r) [c] = (l.length : Int) := by
  induction l with
  | nil => simp [Lib.index, List.isPrefixOf]
  | cons b l ih =>
    have hb : ¬ c = b := fun e => h (by simp [e])
    have hi := ih (fun e => h (by simp [e]))
    rw [List.cons_append, Lib.index, hi]
    have hp : ([c] : List UInt8).isPrefixOf (b :: (l ++ c :: r)) = false := by simp [List.isPrefixOf, hb]
    rw [hp]
    have : ((l.length : Int) == -1) = false := by rw [beq_eq_false_iff_ne]; omega
    simp [this]
theorem index_not {c : UInt8} {l : List UInt8} (h : c ∉ l) : Lib.index l [c] = -1 := by
  induction l with
  | nil => simp [Lib.index]
  | cons b l ih =>
    have hb : ¬ c = b := fun e => h (by simp [e])
    rw [Lib.index, ih (fun e => h (by simp [e]))]
    have hp : ([c] : List UInt8).isPrefixOf (b :: l) = false := by simp [List.isPrefixOf, hb]
    rw [hp]
    rfl
theorem first_split {c : UInt8} {l : List UInt8} (h : c ∈ l) : ∃ p r, l = p ++ c :: r ∧ c ∉ p := by
  induction l with
  | nil => cases h
  | cons b l ih =>
    by_cases hb : b = c
    · exact ⟨[], l, by simp [hb], by simp⟩
    · obtain ⟨p, r, e, hp⟩ := ih (by rcases List.mem_cons.1 h with e | e; · exact absurd e.symm hb
                                     · exact e)
      exact ⟨b :: p, r, by rw [e]; rfl, by simp [hp, Ne.symm hb]⟩
theorem split_pcs (c : UInt8) : ∀ (n : Nat) (l : List UInt8), l.length ≤ n → Lib.splitK [c] 0 (Lib.count l [c]) l = pcs c l ∧ (pcs c l).length = Lib.count l [c] + 1 := by
  intro n
  induction n with
  | zero =>
    intro l hl
    have : l = [] := List.eq_nil_of_length_eq_zero (by omega)
    subst this
    rw [Lib.count_miss (index_not (by simp))]
    exact ⟨rfl, rfl⟩
  | succ n ih =>
    intro l hl
    by_cases h : c ∈ l
    · obtain ⟨p, r, rfl, hp⟩ := first_split h
      have hi := index_pre (r := r) hp
      have hd : (p ++ c :: r).drop (p.length + [c].length) = r := by
        rw [← List.drop_drop, List.drop_left]
        rfl
      have hc := Lib.count_hit (sub := [c]) (by simp) hi
      rw [hd] at hc
      obtain ⟨e1, e2⟩ := ih r (by simp at hl; omega)
      rw [hc, pcs_cut hp, Nat.add_comm 1]
      constructor
      · rw [Lib.splitK, hi]
        have : ((p.length : Int) == -1) = false := by rw [beq_eq_false_iff_ne]; omega
        rw [this]
        simp only [Bool.false_eq_true, if_false, Int.toNat_natCast, Nat.add_zero]
        rw [hd, e1, List.take_left']
        rfl
      · rw [List.length_cons, e2]
    · rw [Lib.count_miss (index_not h), pcs_free h]
      exact ⟨rfl, rfl⟩
/- two texts with the byte between them -/
theorem pcs_join (c : UInt8) (l r : List UInt8) : pcs c (l ++ c :: r) = pcs c l ++ pcs c r := by
  have h : ∀ n (l : List UInt8), l.length ≤ n → pcs c (l ++ c :: r) = pcs c l ++ pcs c r := by
    intro n
    induction n with
    | zero =>
      intro l hl
      have : l = [] := List.eq_nil_of_length_eq_zero (by omega)
      subst this
      exact pcs_cut (by simp)
    | succ n ih =>
      intro l hl
      by_cases h : c ∈ l
      · obtain ⟨p, q, rfl, hp⟩ := first_split h
        rw [List.append_assoc, List.cons_append, pcs_cut hp, pcs_cut hp, ih q (by simp at hl; omega)]
        rfl
      · rw [pcs_cut h, pcs_free h]; rfl
  exact h _ l (Nat.le_refl _)
theorem pcs_in {c : UInt8} {l p : List UInt8} (h : p ∈ pcs c l) : c ∉ p := by
  have g : ∀ n (l : List UInt8), l.length ≤ n → ∀ p ∈ pcs c l, c ∉ p := by
    intro n
    induction n with
    | zero =>
      intro l hl p hp
      have : l = [] := List.eq_nil_of_length_eq_zero (by omega)
      subst this
      simp [pcs_nil] at hp
      subst hp; simp
    | succ n ih =>
      intro l hl p hp
      by_cases h : c ∈ l
      · obtain ⟨a, q, rfl, ha⟩ := first_split h
        rw [pcs_cut ha] at hp
        rcases List.mem_cons.1 hp with rfl | hp
        · exact ha
        · exact ih q (by simp at hl; omega) p hp
      · rw [pcs_free h] at hp
        simp at hp; subst hp; exact h
  exact g _ l (Nat.le_refl _) p h
/- the pieces with the byte between them -/
def jn (c : UInt8) : List (List UInt8) → List UInt8
  | [] => []
  | [p] => p
  | p :: q :: r => p ++ c :: jn c (q :: r)
theorem jn_cons (c : UInt8) (p : List UInt8) {r : List (List UInt8)} (h : r ≠ []) : jn c (p :: r) = p ++ c :: jn c r := by
  cases r with
  | nil => exact absurd rfl h
  | cons q r => rfl
theorem jn_snoc (c : UInt8) (q : List UInt8) : ∀ {r : List (List UInt8)}, r ≠ [] → jn c (r ++ [q]) = jn c r ++ c :: q
  | [], h => absurd rfl h
  | [p], _ => rfl
  | p :: a :: r, _ => by
    rw [List.cons_append, jn_cons c p (by simp), jn_snoc c q (r := a :: r) (by simp), jn_cons c p (by simp)]
    simp
theorem jn_pcs (c : UInt8) (l : List UInt8) : jn c (pcs c l) = l := by
  have g : ∀ n (l : List UInt8), l.length ≤ n → jn c (pcs c l) = l := by
    intro n
    induction n with
    | zero =>
      intro l hl
      have : l = [] := List.eq_nil_of_length_eq_zero (by omega)
      subst this; rfl
    | succ n ih =>
      intro l hl
      by_cases h : c ∈ l
      · obtain ⟨a, q, rfl, ha⟩ := first_split h
        rw [pcs_cut ha, jn_cons c a (by intro e; have := pcs_pos c q; rw [e] at this; simp at this), ih q (by simp at hl; omega)]
      · rw [pcs_free h]; rfl
  exact g _ l (Nat.le_refl _)
theorem pcs_jn {c : UInt8} : ∀ {ps : List (List UInt8)}, ps ≠ [] → (∀ p ∈ ps, c ∉ p) → pcs c (jn c ps) = ps
  | [], h, _ => absurd rfl h
  | [p], _, h => pcs_free (h p (by simp))
  | p :: q :: r, _, h => by
    rw [jn_cons c p (by simp), pcs_cut (h p (by simp)), pcs_jn (ps := q :: r) (by simp) (fun x hx => h x (by simp [hx]))]
/- names -/
def okR (n : Nat) : Bool := decide ((97 ≤ n ∧ n ≤ 122) ∨ (48 ≤ n ∧ n ≤ 57) ∨ n = 45 ∨ n = 95 ∨ n = 46)
def okc (b : UInt8) : Bool := okR b.toNat
theorem okR_iff {n : Nat} : okR n = true ↔ ((97 ≤ n ∧ n ≤ 122) ∨ (48 ≤ n ∧ n ≤ 57) ∨ n = 45 ∨ n = 95 ∨ n = 46) := by unfold okR; simp only [decide_eq_true_eq]
theorem okR_not {n : Nat} : okR n = false ↔ ¬ ((97 ≤ n ∧ n ≤ 122) ∨ (48 ≤ n ∧ n ≤ 57) ∨ n = 45 ∨ n = 95 ∨ n = 46) := by unfold okR; simp only [decide_eq_false_iff_not]
def nameL (l : List UInt8) : Bool := decide (1 ≤ l.length) && decide (l.length ≤ 32) && !(l.head? == some 46) && l.all okc
def goodL (l : List UInt8) : Bool := decide (l.length ≤ 128) && ((pcs 47 l).all nameL && decide ((pcs 47 l).length ≤ 8))
def placeL (l : List UInt8) : Bool := l.isEmpty || goodL l
theorem nameL_iff {l : List UInt8} : nameL l = true ↔ 1 ≤ l.length ∧ l.length ≤ 32 ∧ l.head? ≠ some 46 ∧ ∀ b ∈ l, okc b = true := by
  unfold nameL
  simp only [Bool.and_eq_true, decide_eq_true_eq, Bool.not_eq_true', beq_eq_false_iff_ne, List.all_eq_true]
  exact ⟨fun ⟨⟨⟨a, b⟩, c⟩, d⟩ => ⟨a, b, c, d⟩, fun ⟨a, b, c, d⟩ => ⟨⟨⟨a, b⟩, c⟩, d⟩⟩
theorem goodL_iff {l : List UInt8} : goodL l = true ↔ l.length ≤ 128 ∧ (∀ p ∈ pcs 47 l, nameL p = true) ∧ (pcs 47 l).length ≤ 8 := by
  unfold goodL
  simp only [Bool.and_eq_true, decide_eq_true_eq, List.all_eq_true]
theorem okc_small {b : UInt8} (h : okc b = true) : b.toNat < 128 ∧ b ≠ 47 := by
  have h' := okR_iff.1 h
  refine ⟨by omega, fun e => ?_⟩
  subst e
  have : (47 : UInt8).toNat = 47 := rfl
  omega
theorem nameL_free {l : List UInt8} (h : nameL l = true) : (47 : UInt8) ∉ l := fun hm => (okc_small ((nameL_iff.1 h).2.2.2 47 hm)).2 rfl
theorem goodL_pos {l : List UInt8} (h : goodL l = true) : 0 < l.length := by
  rcases Nat.eq_zero_or_pos l.length with e | e
  · have : l = [] := List.eq_nil_of_length_eq_zero e
    subst this
    have := (goodL_iff.1 h).2.1 [] (by simp [pcs_nil])
    have := (nameL_iff.1 this).1
    simp at this
  · exact e
theorem goodL_bytes {l : List UInt8} (h : goodL l = true) : ∀ b ∈ l, b.toNat < 128 := by
  have g : ∀ n (l : List UInt8), l.length ≤ n → (∀ p ∈ pcs 47 l, nameL p = true) → ∀ b ∈ l, b.toNat < 128 := by
    intro n
    induction n with
    | zero =>
      intro l hl _ b hb
      have : l = [] := List.eq_nil_of_length_eq_zero (by omega)
      subst this; simp at hb
    | succ n ih =>
      intro l hl hp b hb
      by_cases h : (47 : UInt8) ∈ l
      · obtain ⟨a, q, rfl, ha⟩ := first_split h
        rw [pcs_cut ha] at hp
        rcases List.mem_append.1 hb with hb | hb
        · exact (okc_small ((nameL_iff.1 (hp a (by simp))).2.2.2 b hb)).1
        · rcases List.mem_cons.1 hb with rfl | hb
          · decide
          · exact ih q (by simp at hl; omega) (fun p hx => hp p (by simp [hx])) b hb
      · rw [pcs_free h] at hp
        exact (okc_small ((nameL_iff.1 (hp l (by simp))).2.2.2 b hb)).1
  exact g _ l (Nat.le_refl _) (goodL_iff.1 h).2.1
/- the last of its bytes -/
def lastCut (c : UInt8) : List UInt8 → Option (List UInt8 × List UInt8)
  | [] => none
  | b :: l => match lastCut c l with
    | some (d, n) => some (b :: d, n)
    | none => if b = c then some ([], l) else none
theorem lastCut_spec (c : UInt8) : ∀ (l : List UInt8), (lastCut c l = none ∧ c ∉ l) ∨ ∃ d n, lastCut c l = some (d, n) ∧ l = d ++ c :: n ∧ c ∉ n
  | [] => .inl ⟨rfl, by simp⟩
  | b :: l => by
    rcases lastCut_spec c l with ⟨h, hn⟩ | ⟨d, n, h, e, hn⟩
    · by_cases hb : b = c
      · exact .inr ⟨[], l, by simp [lastCut, h, hb], by simp [hb], hn⟩
      · exact .inl ⟨by simp [lastCut, h, hb], by simp [hn, Ne.symm hb]⟩
    · exact .inr ⟨b :: d, n, by simp [lastCut, h], by rw [e]; rfl, hn⟩
theorem cut_last {d n d' n' : List UInt8} {c : UInt8} (h1 : c ∉ n) (h2 : c ∉ n') (h : d ++ c :: n = d' ++ c :: n') : d = d' ∧ n = n' := by
  have e : n.reverse ++ c :: d.reverse = n'.reverse ++ c :: d'.reverse := by
    have := congrArg List.reverse h
    simpa using this
  have g : ∀ {l m r s : List UInt8} (hl : c ∉ l) (hm : c ∉ m), l ++ c :: r = m ++ c :: s → l = m ∧ r = s := by
    intro l
    induction l with
    | nil =>
      intro m r s hl hm h
      cases m with
      | nil => exact ⟨rfl, by simpa using h⟩
      | cons x m => simp at h; exact absurd h.1 (fun e => hm (by simp [e]))
    | cons x l ih =>
      intro m r s hl hm h
      cases m with
      | nil => simp at h; exact absurd h.1.symm (fun e => hl (by simp [e]))
      | cons y m =>
        simp at h
        obtain ⟨rfl, h⟩ := h
        obtain ⟨a, b⟩ := ih (fun e => hl (by simp [e])) (fun e => hm (by simp [e])) h
        exact ⟨by rw [a], b⟩
  obtain ⟨a, b⟩ := g (by simpa using h1) (by simpa using h2) e
  exact ⟨by simpa using b, by simpa using a⟩
theorem lastCut_eq {d n : List UInt8} {c : UInt8} (h : c ∉ n) : lastCut c (d ++ c :: n) = some (d, n) := by
  rcases lastCut_spec c (d ++ c :: n) with ⟨_, e⟩ | ⟨a, b, e, g, k⟩
  · exact absurd (by simp) e
  · obtain ⟨rfl, rfl⟩ := cut_last h k g
    exact e
theorem lastCut_none {l : List UInt8} {c : UInt8} (h : c ∉ l) : lastCut c l = none := by
  rcases lastCut_spec c l with ⟨e, _⟩ | ⟨a, b, e, g, k⟩
  · exact e
  · exact absurd (by rw [g]; simp) h
/- a path's last name -/
def baseL (l : List UInt8) : List UInt8 × List UInt8 := if goodL l then (match lastCut 47 l with | some (d, n) => (d, n) | none => ([], l)) else ([], [])
/- a path behind another one -/
def glue (d s : List UInt8) : List UInt8 := if d = [] then s else d ++ 47 :: s
def joinL (d s : List UInt8) : Option (List UInt8) := if goodL s = true ∧ placeL d = true ∧ goodL (glue d s) = true then some (glue d s) else none
/- what stands behind a place -/
def underL (d s : List UInt8) : Option (List UInt8) :=
  if goodL s = true ∧ placeL d = true then (if d = [] then some s else if (d ++ [47]).isPrefixOf s = true then some (s.drop (d.length + 1)) else none) else none
theorem good_glue {d s : List UInt8} (h : goodL (d ++ 47 :: s) = true) : goodL d = true ∧ goodL s = true := by
  obtain ⟨h1, h2, h3⟩ := goodL_iff.1 h
  rw [pcs_join] at h2 h3
  simp at h1 h3
  exact ⟨goodL_iff.2 ⟨by omega, fun p hp => h2 p (by simp [hp]), by omega⟩, goodL_iff.2 ⟨by omega, fun p hp => h2 p (by simp [hp]), by omega⟩⟩
/- where the first byte stands that no name has -/
theorem decode_hi (s : ByteArray) (pos : Nat) (h : pos < s.size) (hb : ¬ (s[pos]'h).toNat < 128) : 128 ≤ (Utf8.decode s pos).1 := by
  have e : s.get! pos = s[pos]'h := by simp [ByteArray.get!, getElem!_pos, h]; rfl
  rw [Lib.decode_at, e]
  unfold Lib.decodeN
  repeat' split
  all_goals first | (exfalso; omega) | (simp only []; omega)
theorem idx_bad (s : ByteArray) : ∀ (f pos : Nat), s.size ≤ pos + f → (0 ≤ Lib.idxFuncFrom (fun r => !okR r) true s f pos ↔ ∃ j, ∃ h : j < s.size, pos ≤ j ∧ okc (s[j]'h) = false) := by
  intro f
  induction f with
  | zero =>
    intro pos hf
    simp only [Lib.idxFuncFrom]
    exact ⟨fun h => absurd h (by decide), fun ⟨j, h, hj, _⟩ => by omega⟩
  | succ f ih =>
    intro pos hf
    unfold Lib.idxFuncFrom
    by_cases hp : pos < s.size
    · rw [if_pos hp]
      by_cases hb : (s[pos]'hp).toNat < 128
      · rw [decode_ascii s pos hp hb]
        simp only []
        cases hk : okR (s[pos]'hp).toNat with
        | true =>
          rw [if_neg (by simp), ih (pos + 1) (by omega)]
          refine ⟨fun ⟨j, h, hj, hx⟩ => ⟨j, h, by omega, hx⟩, fun ⟨j, h, hj, hx⟩ => ⟨j, h, ?_, hx⟩⟩
          by_cases e : j = pos
          · subst e; rw [show okc (s[j]'h) = okR (s[j]'h).toNat from rfl, hk] at hx; cases hx
          · omega
        | false =>
          rw [if_pos (by simp)]
          exact ⟨fun _ => ⟨pos, hp, Nat.le_refl _, hk⟩, fun _ => by omega⟩
      · have hd := decode_hi s pos hp hb
        have hk : okR (Utf8.decode s pos).1 = false := okR_not.2 (by omega)
        rw [hk, if_pos (by simp)]
        exact ⟨fun _ => ⟨pos, hp, Nat.le_refl _, okR_not.2 (by omega)⟩, fun _ => by omega⟩
    · rw [if_neg hp]
      exact ⟨fun h => absurd h (by decide), fun ⟨j, h, hj, _⟩ => by omega⟩
theorem idx_all (s : ByteArray) : decide (0 ≤ Lib.idxFunc (fun r => !okR r) true s) = !s.data.toList.all okc := by
  have h := idx_bad s s.size 0 (by omega)
  cases ha : s.data.toList.all okc with
  | true =>
    rw [Bool.not_true, decide_eq_false_iff_not]
    intro hx
    obtain ⟨j, hj, _, hn⟩ := h.1 hx
    have hm : s[j]'hj ∈ s.data.toList := by
      rw [Array.mem_toList_iff]; exact Array.getElem_mem _
    have := List.all_eq_true.1 ha _ hm
    rw [hn] at this; cases this
  | false =>
    rw [Bool.not_false, decide_eq_true_eq]
    refine h.2 ?_
    rw [List.all_eq_false] at ha
    obtain ⟨x, hx, hn⟩ := ha
    obtain ⟨j, hj, e⟩ := List.getElem_of_mem hx
    have hj' : j < s.size := by simpa using hj
    refine ⟨j, hj', Nat.zero_le _, ?_⟩
    have : s[j]'hj' = x := by rw [← e]; rfl
    rw [this]; simpa using hn
end Go.Proofs.YtaihgciokfkonaaDoor.Pth
namespace Go.Proofs.YtaihgciokfkonaaDoor.Pth
set_option linter.unusedVariables false
open Go.ChangeShapes Go.WideShapes Go.ChangeAt Go.RowKit
def Gr (w w' : World) : Prop := Below w.heap.size w w'
theorem Gr.refl (w : World) : Gr w w := Below.refl _ _
theorem Gr.alloc {a w : World} (h : Gr a w) (c : Array Value) (t : TypeId) : Gr a (w.alloc (.cells c t)) := Below.alloc h h.size _
theorem grown_trans {a b c : World} (h : Gr a b) (g : Gr b c) : Gr a c := Below.trans h (Below.mono g h.size)
theorem Gr.keep {w w' : World} (h : Gr w w') {a : Addr} {v : Value} (hv : w.cell? a = some v) : w'.cell? a = some v := by
  rw [← hv]
  exact h.cell (World.block_lt_of_cell? w a hv)
theorem Gr.drew {a w : World} (h : Gr a w) : Gr a w.drew := ⟨h.os, h.tape, h.output, h.size, h.block⟩
def Bo (x : Bool) (w : World) (e : Ending) (w' : World) : Prop := e = .returned (.bool x) ∧ Gr w w'
theorem ret_bool {a b : Bool} (h : a = b) : Ending.returned (.bool a) = .returned (.bool b) := by rw [h]
/- the closure: no byte of a name -/
theorem bad_rune (w : World) : PredAt Tryd.prog 57 #[] encR (fun r => !okR r) w := fun W r _ => by
  unfold FnGives
  rcases (show r < 45 ∨ r = 45 ∨ r = 46 ∨ r = 47 ∨ (48 ≤ r ∧ r ≤ 57) ∨ (58 ≤ r ∧ r < 95) ∨ r = 95 ∨ r = 96 ∨ (97 ≤ r ∧ r ≤ 122) ∨ 122 < r by omega) with h | rfl | rfl | rfl | h | h | rfl | rfl | h | h
  all_goals first
    | (have hk : okR r = true := okR_iff.2 (by omega)
       have Hk := Lib.hid hk
       clear hk
       have t1 : ((r : Int) == 45) = false := by rw [beq_eq_false_iff_ne]; omega
       have t2 : ((r : Int) == 95) = false := by rw [beq_eq_false_iff_ne]; omega
       have t3 : ((r : Int) == 46) = false := by rw [beq_eq_false_iff_ne]; omega
       go_enter Tryd.func57, Tryd.ntmps57
       go_wp2
       go_ret
       exact ⟨ret_bool (by rw [Hk.out]; first | rfl | (simp; omega)), 0, rfl⟩)
    | (have hk : okR r = false := okR_not.2 (by omega)
       have Hk := Lib.hid hk
       clear hk
       have t1 : ((r : Int) == 45) = false := by rw [beq_eq_false_iff_ne]; omega
       have t2 : ((r : Int) == 95) = false := by rw [beq_eq_false_iff_ne]; omega
       have t3 : ((r : Int) == 46) = false := by rw [beq_eq_false_iff_ne]; omega
       go_enter Tryd.func57, Tryd.ntmps57
       go_wp2
       go_ret
       exact ⟨ret_bool (by rw [Hk.out]; first | rfl | (simp; omega)), 0, rfl⟩)
    | (go_enter Tryd.func57, Tryd.ntmps57
       go_wp2
       go_ret
       exact ⟨rfl, 0, rfl⟩)
theorem contains_bad (s : ByteArray) (w : World) :
    Calls Tryd.prog 56 #[.string s, .func (.func 57) #[] #[]] w (Bo (!s.data.toList.all okc) w) := by
  have h := Tryd.strings_ContainsFunc 57 #[] (enters_of Tryd.func57 (by kernel_rfl) rfl) (fun r => !okR r) s w (bad_rune w)
  rw [idx_all] at h
  exact h
theorem list_pos {s : ByteArray} (h : 0 < s.size) : s.data.toList = s[0]'h :: s.data.toList.drop 1 := by
  have hl : 0 < s.data.toList.length := by simpa using h
  have := List.drop_eq_getElem_cons hl
  rw [List.drop_zero] at this
  exact this
theorem nameL_zero {s : ByteArray} (h : s.size = 0) : nameL s.data.toList = false := by
  cases hn : nameL s.data.toList with
  | false => rfl
  | true => have := (nameL_iff.1 hn).1; simp at this; omega
theorem nameL_great {s : ByteArray} (h : 32 < s.size) : nameL s.data.toList = false := by
  cases hn : nameL s.data.toList with
  | false => rfl
  | true => have := (nameL_iff.1 hn).2.1; simp at this; omega
theorem nameL_dot {s : ByteArray} (h : 0 < s.size) (h0 : (s[0]'h).toNat = 46) : nameL s.data.toList = false := by
  cases hn : nameL s.data.toList with
  | false => rfl
  | true =>
    have := (nameL_iff.1 hn).2.2.1
    rw [list_pos h] at this
    have e : s[0]'h = 46 := UInt8.toNat_inj.1 (by rw [h0]; rfl)
    simp [e] at this
theorem nameL_rest {s : ByteArray} (h : 0 < s.size) (h1 : s.size ≤ 32) (h0 : (s[0]'h).toNat ≠ 46) : nameL s.data.toList = s.data.toList.all okc := by
  have hl : s.data.toList.length = s.size := by simp
  have e : (s.data.toList.head? == some 46) = false := by
    rw [list_pos h]
    simp
    intro e
    rw [e] at h0
    exact h0 rfl
  unfold nameL
  rw [e, hl]
  simp [show 1 ≤ s.size by omega, h1]
set_option maxHeartbeats 1000000 in
theorem name_any (s : ByteArray) (w : World) (hs : s.size ≤ 1048576) : Calls Tryd.prog 37 #[.string s] w (Bo (nameL s.data.toList) w) := by
  by_cases h0 : s.size = 0
  · have hr := nameL_zero h0
    have Hr := Lib.hid hr
    have e1 : s.toList = [] := by rw [Lib.toList_data]; exact List.eq_nil_of_length_eq_zero (by simpa using h0)
    clear hr
    go_enter Tryd.func37, Tryd.ntmps37
    go_wp2
    go_ret
    exact ⟨ret_bool Hr.out.symm, Gr.refl _⟩
  · have e1 : (!s.toList.isEmpty) = true := by
      rw [Lib.toList_data]
      cases hd : s.data.toList with
      | nil => exact absurd (by have := congrArg List.length hd; simpa using this) h0
      | cons a b => rfl
    have e2 : s.toList.isEmpty = false := by simpa using e1
    by_cases h32 : 32 < s.size
    · have Hr := Lib.hid (nameL_great h32)
      go_enter Tryd.func37, Tryd.ntmps37
      go_wp2
      go_ret
      exact ⟨ret_bool Hr.out.symm, Gr.refl _⟩
    · have hp : 0 < s.size := by omega
      by_cases hd : (s[0]'hp).toNat = 46
      · have Hr := Lib.hid (nameL_dot hp hd)
        have hd' : (((s[0]'hp).toNat : Int) == 46) = true := by rw [beq_iff_eq]; omega
        clear hd
        go_enter Tryd.func37, Tryd.ntmps37
        go_wp2
        go_ret
        exact ⟨ret_bool Hr.out.symm, Gr.refl _⟩
      · have Hr := Lib.hid (nameL_rest hp (by omega) hd)
        have hd' : (((s[0]'hp).toNat : Int) == 46) = false := by rw [beq_eq_false_iff_ne]; omega
        clear hd
        go_enter Tryd.func37, Tryd.ntmps37
        go_wp2_with fail
        refine (contains_bad s w).mono ?_
        rintro e w1 ⟨rfl, g⟩
        go_wp2_with fail
        go_ret
        exact ⟨ret_bool (by rw [Hr.out]; simp), g⟩
end Go.Proofs.YtaihgciokfkonaaDoor.Pth
namespace Go.Proofs.YtaihgciokfkonaaDoor.Pth
set_option linter.unusedVariables false
open Go.ChangeShapes Go.WideShapes Go.ChangeAt Go.RowKit
def NameTo (s : ByteArray) (k : Nat) : Prop := (s.data.toList.take k).all okc = true ∧ (0 < k → s.data.toList.head? ≠ some 46)
theorem take_more (s : ByteArray) (k : Nat) (h : k < s.size) : s.data.toList.take (k + 1) = s.data.toList.take k ++ [s[k]] := by
  rw [List.take_succ_eq_append_getElem (by simpa using h)]
  rfl
theorem nameTo_succ {s : ByteArray} {k : Nat} (h : k < s.size) (g : NameTo s k) (ho : okc s[k] = true) (h0 : k = 0 → (s[k]'h).toNat ≠ 46) : NameTo s (k + 1) := by
  refine ⟨?_, fun _ => ?_⟩
  · rw [take_more s k h, List.all_append, g.1]; simp [ho]
  · by_cases hk : k = 0
    · subst hk
      rw [list_pos h]
      simp
      intro e
      have := h0 rfl
      rw [e] at this
      exact this rfl
    · exact g.2 (by omega)
theorem byte_mem (s : ByteArray) (k : Nat) (h : k < s.size) : s[k]'h ∈ s.data.toList := by
  rw [Array.mem_toList_iff]; exact Array.getElem_mem _
theorem name_bad {s : ByteArray} {k : Nat} (h : k < s.size) (ho : okc s[k] = false) : nameL s.data.toList = false := by
  cases hn : nameL s.data.toList with
  | false => rfl
  | true =>
    have := (nameL_iff.1 hn).2.2.2 _ (byte_mem s k h)
    rw [ho] at this; cases this
theorem name_end {s : ByteArray} (g : NameTo s s.size) : nameL s.data.toList = (decide (1 ≤ s.size) && decide (s.size ≤ 32)) := by
  have hl : s.data.toList.length = s.size := by simp
  have hall : s.data.toList.all okc = true := by
    have := g.1
    rwa [List.take_of_length_le (by simp)] at this
  by_cases h0 : s.size = 0
  · rw [nameL_zero h0, h0]; rfl
  · have e : (s.data.toList.head? == some 46) = false := by rw [beq_eq_false_iff_ne]; exact g.2 (by omega)
    unfold nameL
    rw [e, hl, hall]
    simp
set_option maxHeartbeats 4000000 in
theorem nameR_any (s : ByteArray) (w : World) (hs : s.size ≤ 1048576) : Calls Tryd.prog 21 #[.string s] w (Bo (nameL s.data.toList) w) := by
  go_enter Tryd.func21, Tryd.ntmps21
  go_wp2
  go_loop [3] (fun i => ∃ k : Nat, k ≤ s.size ∧ i = .int .i64 k ∧ NameTo s k) (fun i => s.size - (intOf i).toNat)
  case atStart => exact ⟨0, Nat.zero_le _, rfl, ⟨rfl, fun h => absurd h (by omega)⟩⟩
  case round =>
    obtain ⟨k, hk, rfl, hn⟩ := hrel
    have Hn := Lib.hid hn
    clear hn
    by_cases hlt : k < s.size
    · obtain ⟨n, hb⟩ : ∃ n, (s[k]'hlt).toNat = n := ⟨_, rfl⟩
      have HB := Lib.hid hb
      by_cases ho : okR n = true
      · have ho' := okR_iff.1 ho
        by_cases hd : k = 0 ∧ n = 46
        · obtain ⟨rfl, rfl⟩ := hd
          have Hr := Lib.hid (nameL_dot hlt hb)
          clear ho ho'
          go_wp2
          go_ret
          exact ⟨ret_bool Hr.out.symm, Gr.refl _⟩
        · have Hs := Lib.hid (nameTo_succ hlt Hn.out (by show okR _ = true; rw [hb]; exact ho) (fun e => by rw [hb]; omega))
          clear ho
          rcases (show n = 45 ∨ (n = 46 ∧ 0 < k) ∨ (48 ≤ n ∧ n ≤ 57) ∨ n = 95 ∨ (97 ≤ n ∧ n ≤ 122) by omega) with h | ⟨h, h0⟩ | h | h | h
          · clear ho' hd
            subst h
            go_wp2
            go_round
            case rel => exact ⟨k + 1, by omega, by go_num, Hs.out⟩
            case measure => simp [intOf]; omega
          · clear ho' hd
            subst h
            have hk0 : ((k : Int) == 0) = false := by rw [beq_eq_false_iff_ne]; omega
            go_wp2
            go_round
            case rel => exact ⟨k + 1, by omega, by go_num, Hs.out⟩
            case measure => simp [intOf]; omega
          · clear ho' hd
            go_wp2
            go_round
            case rel => exact ⟨k + 1, by omega, by go_num, Hs.out⟩
            case measure => simp [intOf]; omega
          · clear ho' hd
            subst h
            go_wp2
            go_round
            case rel => exact ⟨k + 1, by omega, by go_num, Hs.out⟩
            case measure => simp [intOf]; omega
          · clear ho' hd
            go_wp2
            go_round
            case rel => exact ⟨k + 1, by omega, by go_num, Hs.out⟩
            case measure => simp [intOf]; omega
      · have ho2 : okR n = false := by simpa using ho
        have ho' := okR_not.1 ho2
        have Hr := Lib.hid (name_bad hlt (by show okR _ = false; rw [hb]; exact ho2))
        clear ho ho2
        rcases (show n < 45 ∨ n = 47 ∨ (57 < n ∧ n < 95) ∨ n = 96 ∨ 122 < n by omega) with h | h | h | h | h
        · have t1 : ((n : Int) != 45) = true := by rw [bne_iff_ne]; omega
          have t2 : ((n : Int) != 95) = true := by rw [bne_iff_ne]; omega
          have t3 : ((n : Int) != 46) = true := by rw [bne_iff_ne]; omega
          clear ho'
          go_wp2
          go_ret
          exact ⟨ret_bool Hr.out.symm, Gr.refl _⟩
        · subst h
          clear ho'
          go_wp2
          go_ret
          exact ⟨ret_bool Hr.out.symm, Gr.refl _⟩
        · have u1 : decide ((n : Int) ≤ 57) = false := by rw [decide_eq_false_iff_not]; omega
          have t1 : ((n : Int) != 45) = true := by rw [bne_iff_ne]; omega
          have t2 : ((n : Int) != 95) = true := by rw [bne_iff_ne]; omega
          have t3 : ((n : Int) != 46) = true := by rw [bne_iff_ne]; omega
          clear ho'
          go_wp2
          go_ret
          exact ⟨ret_bool Hr.out.symm, Gr.refl _⟩
        · subst h
          clear ho'
          go_wp2
          go_ret
          exact ⟨ret_bool Hr.out.symm, Gr.refl _⟩
        · have u2 : decide ((n : Int) ≤ 122) = false := by rw [decide_eq_false_iff_not]; omega
          have u1 : decide ((n : Int) ≤ 57) = false := by rw [decide_eq_false_iff_not]; omega
          have t1 : ((n : Int) != 45) = true := by rw [bne_iff_ne]; omega
          have t2 : ((n : Int) != 95) = true := by rw [bne_iff_ne]; omega
          have t3 : ((n : Int) != 46) = true := by rw [bne_iff_ne]; omega
          clear ho'
          go_wp2
          go_ret
          exact ⟨ret_bool Hr.out.symm, Gr.refl _⟩
    · obtain rfl : k = s.size := by omega
      by_cases h1 : s.size = 0
      · have Hr := Lib.hid (nameL_zero h1)
        go_wp2
        go_ret
        exact ⟨ret_bool Hr.out.symm, Gr.refl _⟩
      · by_cases h2 : s.size ≤ 32
        · have Hr := Lib.hid (show nameL s.data.toList = true by rw [name_end Hn.out, decide_eq_true (by omega : 1 ≤ s.size), decide_eq_true h2]; rfl)
          go_wp2
          go_ret
          exact ⟨ret_bool (by rw [Hr.out]; simp; omega), Gr.refl _⟩
        · have Hr := Lib.hid (nameL_great (s := s) (by omega))
          go_wp2
          go_ret
          exact ⟨ret_bool (by rw [Hr.out]; simp; omega), Gr.refl _⟩
/- the closure: no name -/
def noN (p : ByteArray) : Bool := !nameL p.data.toList
def Found (x : Bool) (n : Nat) (w : World) (e : Ending) (w' : World) : Prop := ∃ i : Int, e = .returned (.int .i64 i) ∧ decide (0 ≤ i) = x ∧ -1 ≤ i ∧ i ≤ n ∧ Gr w w'
end Go.Proofs.YtaihgciokfkonaaDoor.Pth
namespace Go.Proofs.YtaihgciokfkonaaDoor.Pth
set_option linter.unusedVariables false
open Go.ChangeShapes Go.WideShapes Go.ChangeAt Go.RowKit
def Ml (w : World) : Prop := ∃ m, w.cell? ⟨3, 0, none⟩ = some (.int .i64 m)
theorem Ml.keep {w w' : World} (h : Ml w) (g : Gr w w') : Ml w' := by
  obtain ⟨m, h⟩ := h
  exact ⟨m, g.keep h⟩
/- a block of texts -/
def Txts (w : World) (b : Nat) (ps : List ByteArray) : Prop := ∀ j (h : j < ps.length), w.cell? ⟨b, j, none⟩ = some (.string ps[j])
theorem Txts.keep {w w' : World} {b : Nat} {ps : List ByteArray} (h : Txts w b ps) (g : Gr w w') : Txts w' b ps := fun j hj => g.keep (h j hj)
def PartsAt (l : List UInt8) (ps : List ByteArray) (w : World) (e : Ending) (w' : World) : Prop :=
  ps.map (·.data.toList) = pcs 47 l ∧ ∃ b, e = .returned (.slice (some ⟨b, 0, none⟩) ps.length ps.length) ∧ w.heap.size ≤ b ∧ b < w'.heap.size ∧ Txts w' b ps ∧ Gr w w'
theorem parts_small {l : List UInt8} {ps : List ByteArray} (h : ps.map (·.data.toList) = pcs 47 l) (hl : l.length ≤ 1048576) : ∀ p ∈ ps, p.size ≤ 1048576 := by
  intro p hp
  have hm : p.data.toList ∈ pcs 47 l := by rw [← h]; exact List.mem_map.2 ⟨p, hp, rfl⟩
  have := pcs_small 47 l _ hm
  simp at this
  omega
theorem parts_len {l : List UInt8} {ps : List ByteArray} (h : ps.map (·.data.toList) = pcs 47 l) : ps.length = (pcs 47 l).length := by
  have := congrArg List.length h
  simpa using this
theorem all_noN (ps : List ByteArray) : ps.all (nameL ∘ fun x => x.data.toList) = !ps.any noN := by
  induction ps with
  | nil => rfl
  | cons p ps ih => rw [List.all_cons, List.any_cons, ih, Bool.not_or, show noN p = !nameL p.data.toList from rfl, Bool.not_not]; rfl
theorem parts_good {l : List UInt8} {ps : List ByteArray} (h : ps.map (·.data.toList) = pcs 47 l) (hl : l.length ≤ 128) : goodL l = (!ps.any noN && decide (ps.length ≤ 8)) := by
  unfold goodL
  rw [parts_len h, ← h, decide_eq_true hl, List.all_map, Bool.true_and]
  rw [all_noN]
def PartsNo (w : World) (e : Ending) (w' : World) : Prop := e = .returned (.slice none 0 0) ∧ Gr w w'
def PartsYes (l : List UInt8) (w : World) (e : Ending) (w' : World) : Prop := ∃ ps, PartsAt l ps w e w'
theorem good_great {s : ByteArray} (h : 128 < s.size) : goodL s.data.toList = false := by
  cases hg : goodL s.data.toList with
  | false => rfl
  | true => have := (goodL_iff.1 hg).1; simp at this; omega
theorem empty_list {s : ByteArray} (h : s.size = 0) : s.data.toList = [] := List.eq_nil_of_length_eq_zero (by simpa using h)
theorem full_list {s : ByteArray} (h : ¬ s.size = 0) : s.data.toList ≠ [] := fun e => h (by have := congrArg List.length e; simpa using this)
theorem full_str {s : ByteArray} (h : ¬ s.size = 0) : (!s.toList.isEmpty) = true ∧ s.toList.isEmpty = false := by
  have := full_list h
  rw [Lib.toList_data]
  cases hd : s.data.toList with
  | nil => exact absurd hd this
  | cons a b => exact ⟨rfl, rfl⟩
end Go.Proofs.YtaihgciokfkonaaDoor.Pth
namespace Go.Proofs.YtaihgciokfkonaaDoor.Pth
set_option linter.unusedVariables false
open Go.ChangeShapes Go.WideShapes Go.ChangeAt Go.RowKit
def strs (ps : List (List UInt8)) : List Value := ps.map fun p => .string ⟨p.toArray⟩
theorem strs_one (ps : List (List UInt8)) : ∀ u ∈ strs ps, u.oneCell' = true := by
  intro u hu
  obtain ⟨p, _, rfl⟩ := List.mem_map.1 hu
  rfl
theorem strs_len (ps : List (List UInt8)) : (strs ps).length = ps.length := by simp [strs]
/-- A slice of texts that the call has made. -/
def Sl (w0 w : World) (v : Value) (ps : List (List UInt8)) : Prop := w.ownsRow w0.heap.size 9 1 v ps.length (strs ps) ∧ Gr w0 w
theorem gr_grown {w0 w w' : World} {row : Option Nat} (h : Gr w0 w) (hg : w.grownBy w' row) (hr : ∀ k, row = some k → w0.heap.size ≤ k) : Gr w0 w' :=
  ⟨hg.os.trans h.os, hg.tape.trans h.tape, hg.output.trans h.output, Nat.le_trans h.size hg.size, fun k hk => (hg.block k (Nat.lt_of_lt_of_le hk h.size) (fun e => by have := hr k e.symm; omega)).trans (h.block k hk)⟩
theorem Sl.form {w0 w : World} {v : Value} {ps : List (List UInt8)} (h : Sl w0 w v ps) (hn : 0 < ps.length) : ∃ g cap, v = .slice (some ⟨g, 0, none⟩) ps.length cap ∧ w0.heap.size ≤ g ∧ ps.length ≤ cap := by
  rcases h.1.2 with ⟨_, h0⟩ | ⟨g, cap, cur, hv, hb, _, hc, _⟩
  · omega
  · exact ⟨g, cap, hv, hb, hc⟩
theorem infoStr : (Tryd.prog.info? 9).map (fun i => (i.zero, i.size, i.bytes)) = some (some (.string ⟨#[]⟩), 1, 16) := by kernel_rfl
theorem take_one_drop (s : ByteArray) (k : Nat) (h : k < s.size) : (s.data.toList.drop k).take (k + 1 - k) = [s[k]] := by
  rw [List.drop_eq_getElem_cons (by simpa using h), show k + 1 - k = 1 by omega]
  rfl
/- the pieces, as a slice of texts -/
def PcsAt (c : UInt8) (l : List UInt8) (ps : List ByteArray) (w : World) (e : Ending) (w' : World) : Prop :=
  ps.map (·.data.toList) = pcs c l ∧ ∃ b cap, e = .returned (.slice (some ⟨b, 0, none⟩) ps.length cap) ∧ w.heap.size ≤ b ∧ b < w'.heap.size ∧ Txts w' b ps ∧ Gr w w' ∧ ps.length ≤ cap
theorem map_back (l : List (List UInt8)) : (l.map fun p => (⟨p.toArray⟩ : ByteArray)).map (·.data.toList) = l := by
  induction l with
  | nil => rfl
  | cons p l ih => rw [List.map_cons, List.map_cons, ih]
end Go.Proofs.YtaihgciokfkonaaDoor.Pth
namespace Go.Proofs.YtaihgciokfkonaaDoor.Pth
set_option linter.unusedVariables false
open Go.ChangeShapes Go.WideShapes Go.ChangeAt Go.RowKit
/- a text of these bytes -/
def tx (l : List UInt8) : ByteArray := ⟨l.toArray⟩
theorem tx_list (l : List UInt8) : (tx l).data.toList = l := rfl
theorem tx_size (l : List UInt8) : (tx l).size = l.length := by show l.toArray.size = _; simp
theorem tx_of (s : ByteArray) : tx s.data.toList = s := rfl
theorem tx_eq {s : ByteArray} {l : List UInt8} (h : s.data.toList = l) : s = tx l := by rw [← h]; rfl
theorem tx_inj {a b : List UInt8} (h : tx a = tx b) : a = b := by have := congrArg (fun t => t.data.toList) h; exact this
def glueB (a b : ByteArray) : ByteArray := a ++ ⟨#[47]⟩ ++ b
theorem glueB_list {a b : ByteArray} (h : ¬ a.size = 0) : (glueB a b).data.toList = glue a.data.toList b.data.toList := by
  unfold glueB glue
  rw [if_neg (full_list h), ByteArray.data_append, Array.toList_append, ByteArray.data_append, Array.toList_append]
  simp
theorem glue_empty {a b : ByteArray} (h : a.size = 0) : glue a.data.toList b.data.toList = b.data.toList := by
  unfold glue; rw [if_pos (empty_list h)]
theorem place_full {a : ByteArray} (h : ¬ a.size = 0) : placeL a.data.toList = goodL a.data.toList := by
  unfold placeL
  cases hd : a.data.toList with
  | nil => exact absurd hd (full_list h)
  | cons x y => rfl
theorem place_empty {a : ByteArray} (h : a.size = 0) : placeL a.data.toList = true := by
  unfold placeL
  rw [empty_list h]
  rfl
theorem good_size {a : ByteArray} (h : goodL a.data.toList = true) : a.size ≤ 128 := by have := (goodL_iff.1 h).1; simpa using this
def Joined (r : Option (List UInt8)) (w : World) (e : Ending) (w' : World) : Prop :=
  e = .returned (.tuple #[.string (match r with | some l => tx l | none => ⟨#[]⟩), .int .i64 (if r.isSome then 0 else 10)]) ∧ Gr w w'
theorem joined_no {r : Option (List UInt8)} {w w' : World} {e : Ending} (h : r = none) (he : e = .returned (.tuple #[.string ⟨#[]⟩, .int .i64 10])) (g : Gr w w') : Joined r w e w' := by subst h; exact ⟨he, g⟩
theorem joined_yes {r : Option (List UInt8)} {w w' : World} {e : Ending} {s : ByteArray} (h : r = some s.data.toList) (he : e = .returned (.tuple #[.string s, .int .i64 0])) (g : Gr w w') : Joined r w e w' := by subst h; exact ⟨he, g⟩
theorem joinL_none {d s : List UInt8} (h : ¬ (goodL s = true ∧ placeL d = true ∧ goodL (glue d s) = true)) : joinL d s = none := by unfold joinL; rw [if_neg h]
theorem joinL_some {d s : List UInt8} (h1 : goodL s = true) (h2 : placeL d = true) (h3 : goodL (glue d s) = true) : joinL d s = some (glue d s) := by unfold joinL; rw [if_pos ⟨h1, h2, h3⟩]
end Go.Proofs.YtaihgciokfkonaaDoor.Pth
namespace Go.Proofs.YtaihgciokfkonaaDoor.Pth
set_option linter.unusedVariables false
open Go.ChangeShapes Go.WideShapes Go.ChangeAt Go.RowKit
/- where the last stroke stands -/
def Tabs (w : World) : Prop := Lib.Utf8Tabs 1 2 w
theorem Tabs.keep {w w' : World} (h : Tabs w) (g : Gr w w') : Tabs w' :=
  ⟨fun c hc => g.keep (h.1 c hc), fun i hi => ⟨g.keep (h.2 i hi).1, g.keep (h.2 i hi).2⟩⟩
def lastIx (c : UInt8) (l : List UInt8) : Int := match lastCut c l with | some (d, _) => (d.length : Int) | none => -1
theorem lastIx_hit (c : UInt8) (l : List UInt8) : lastIx c (l ++ [c]) = l.length := by
  unfold lastIx; rw [lastCut_eq (d := l) (n := []) (by simp)]
theorem lastIx_miss {c b : UInt8} (l : List UInt8) (h : b ≠ c) : lastIx c (l ++ [b]) = lastIx c l := by
  unfold lastIx
  rcases lastCut_spec c l with ⟨e, hn⟩ | ⟨d, n, e, rfl, hn⟩
  · rw [e, lastCut_none (by simp [hn, Ne.symm h])]
  · rw [e, List.append_assoc, List.cons_append, lastCut_eq (by simp [hn, Ne.symm h])]
theorem lastIdx_eq (s : ByteArray) (ha : ∀ b ∈ s.data.toList, b.toNat < 128) : ∀ (f i : Nat), i ≤ f → i ≤ s.size → Lib.lastIdxFuncFrom (fun r => decide ((r : Int) = 47)) true s f i = lastIx 47 (s.data.toList.take i) := by
  intro f
  induction f with
  | zero =>
    intro i hi _
    obtain rfl : i = 0 := by omega
    rfl
  | succ f ih =>
    intro i hi hs
    unfold Lib.lastIdxFuncFrom
    by_cases h0 : 0 < i
    · rw [if_pos h0]
      obtain ⟨k, rfl⟩ : ∃ k, i = k + 1 := ⟨i - 1, by omega⟩
      rw [take_more s k (by omega), Lib.decodeLastL_ascii _ _ (ha _ (byte_mem s k (by omega)))]
      simp only [Nat.add_sub_cancel]
      by_cases hb : s[k] = 47
      · rw [hb, lastIx_hit, if_pos (by decide), List.length_take]
        have : s.data.toList.length = s.size := by simp
        omega
      · have hn : ¬ (s[k]).toNat = 47 := fun e => hb (UInt8.toNat_inj.1 (by rw [e]; rfl))
        rw [lastIx_miss _ hb, if_neg (by simp; omega), ih k (by omega) (by omega)]
    · obtain rfl : i = 0 := by omega
      rw [if_neg (by omega)]
      rfl
theorem lastIdx_all (s : ByteArray) (h : goodL s.data.toList = true) : Lib.lastIdxFunc (fun r => decide ((r : Int) = 47)) true s = lastIx 47 s.data.toList := by
  unfold Lib.lastIdxFunc
  rw [lastIdx_eq s (goodL_bytes h) _ _ (Nat.le_refl _) (Nat.le_refl _), List.take_of_length_le (by simp)]
theorem Gr.drewN {a w : World} (h : Gr a w) (n : Nat) : Gr a (w.drewN n) := ⟨h.os, h.tape, h.output, h.size, h.block⟩
def Based (r : List UInt8 × List UInt8) (w : World) (e : Ending) (w' : World) : Prop := e = .returned (.tuple #[.string (tx r.1), .string (tx r.2)]) ∧ Gr w w'
theorem baseL_no {l : List UInt8} (h : goodL l = false) : baseL l = ([], []) := by unfold baseL; rw [h]; rfl
theorem baseL_one {l : List UInt8} (h : goodL l = true) (h2 : (47 : UInt8) ∉ l) : baseL l = ([], l) := by unfold baseL; rw [h, lastCut_none h2]; rfl
theorem baseL_two {l d n : List UInt8} (h : goodL l = true) (h2 : lastCut 47 l = some (d, n)) : baseL l = (d, n) := by unfold baseL; rw [h, h2]; rfl
theorem based_mk {r : List UInt8 × List UInt8} {w w' : World} {e : Ending} {d n : ByteArray} (h : r = (d.data.toList, n.data.toList)) (he : e = .returned (.tuple #[.string d, .string n])) (g : Gr w w') : Based r w e w' := by subst h; exact ⟨he, g⟩
theorem cut_at (s : ByteArray) {d n : List UInt8} (h : s.data.toList = d ++ 47 :: n) : (s.extract 0 d.length).data.toList = d ∧ (s.extract (d.length + 1) s.size).data.toList = n := by
  have hs : s.size = d.length + 1 + n.length := by have := congrArg List.length h; simp at this; omega
  constructor
  · rw [ByteArray.data_extract, Array.toList_extract, List.extract_eq_take_drop, h]
    simp
  · rw [ByteArray.data_extract, Array.toList_extract, List.extract_eq_take_drop, h, hs]
    rw [← List.drop_drop, List.drop_left, List.drop_succ_cons, List.drop_zero, List.take_of_length_le (by omega)]
theorem cut_hit {l d n : List UInt8} {c : UInt8} (h : l = d ++ c :: n) (hn : c ∉ n) : lastCut c l = some (d, n) := by rw [h]; exact lastCut_eq hn
theorem drop_more (s : ByteArray) (k : Nat) (h : k < s.size) : s.data.toList.drop k = s[k] :: s.data.toList.drop (k + 1) := by
  have hl : k < s.data.toList.length := by simpa using h
  exact List.drop_eq_getElem_cons hl
end Go.Proofs.YtaihgciokfkonaaDoor.Pth
namespace Go.Proofs.YtaihgciokfkonaaDoor.Pth
set_option linter.unusedVariables false
open Go.ChangeShapes Go.WideShapes Go.ChangeAt Go.RowKit
def Undered (r : Option (List UInt8)) (w : World) (e : Ending) (w' : World) : Prop :=
  e = .returned (.tuple #[.string (match r with | some l => tx l | none => ⟨#[]⟩), .bool r.isSome]) ∧ Gr w w'
theorem undered_no {r : Option (List UInt8)} {w w' : World} {e : Ending} (h : r = none) (he : e = .returned (.tuple #[.string ⟨#[]⟩, .bool false])) (g : Gr w w') : Undered r w e w' := by subst h; exact ⟨he, g⟩
theorem undered_yes {r : Option (List UInt8)} {w w' : World} {e : Ending} {s : ByteArray} (h : r = some s.data.toList) (he : e = .returned (.tuple #[.string s, .bool true])) (g : Gr w w') : Undered r w e w' := by subst h; exact ⟨he, g⟩
theorem underL_bad {d s : List UInt8} (h : ¬ (goodL s = true ∧ placeL d = true)) : underL d s = none := by unfold underL; rw [if_neg h]
theorem underL_empty {d s : List UInt8} (h1 : goodL s = true) (h2 : d = []) : underL d s = some s := by subst h2; unfold underL; rw [if_pos ⟨h1, rfl⟩, if_pos rfl]
theorem underL_miss {d s : List UInt8} (h2 : d ≠ []) (h3 : (d ++ [47]).isPrefixOf s = false) : underL d s = none := by
  unfold underL
  rw [if_neg h2, h3]
  split <;> rfl
theorem underL_hit {d s : List UInt8} (h1 : goodL s = true) (hp : placeL d = true) (h2 : d ≠ []) (h3 : (d ++ [47]).isPrefixOf s = true) : underL d s = some (s.drop (d.length + 1)) := by
  unfold underL
  rw [if_pos ⟨h1, hp⟩, if_neg h2, if_pos h3]
theorem stroke_list (a : ByteArray) : (a ++ (⟨#[47]⟩ : ByteArray)).data.toList = a.data.toList ++ [47] := by
  rw [ByteArray.data_append, Array.toList_append]
theorem pre_split {d s : List UInt8} (h : (d ++ [47]).isPrefixOf s = true) : ∃ r, s = d ++ 47 :: r := by
  rw [List.isPrefixOf_iff_prefix] at h
  obtain ⟨r, h⟩ := h
  exact ⟨r, by rw [← h]; simp⟩
theorem pre_of {d s r : List UInt8} (h : s = d ++ 47 :: r) : (d ++ [47]).isPrefixOf s = true := by
  rw [List.isPrefixOf_iff_prefix, h]
  exact ⟨r, by simp⟩
theorem pre_false {d s : List UInt8} (h : ∀ r, s ≠ d ++ 47 :: r) : (d ++ [47]).isPrefixOf s = false := by
  cases hp : (d ++ [47]).isPrefixOf s with
  | false => rfl
  | true =>
    obtain ⟨r, e⟩ := pre_split hp
    exact absurd e (h r)
theorem bytes_eq {a b : ByteArray} (h : a.data.toList = b.data.toList) : a = b := by
  cases a; cases b
  simp only at h
  congr
  exact Array.ext' h
theorem ext_take (s : ByteArray) (n : Nat) : (s.extract 0 n).data.toList = s.data.toList.take n := by
  rw [ByteArray.data_extract, Array.toList_extract, List.extract_eq_take_drop]
  simp
end Go.Proofs.YtaihgciokfkonaaDoor.Pth
