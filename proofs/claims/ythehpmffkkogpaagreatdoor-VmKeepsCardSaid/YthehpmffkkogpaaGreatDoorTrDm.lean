/- A tree out of a node, in lists: what the program reads, what the document reads. No condition. -/
import Derived.Test.YthehpmffkkogpaaGreatDoorTrEnc
import Derived.Test.YthehpmffkkogpaaGreatDoorSxSameN
namespace Go.Proofs.YthehpmffkkogpaaGreatDoor
set_option linter.unusedVariables false
open Go.ChangeShapes Go.WideShapes Go.ChangeAt Go.RowKit
theorem atL_len (k : Nd) : (atL k).length = k.atom.size := by unfold atL; simp
theorem atL_tx (k : Nd) : tx (atL k) = k.atom := tx_back _
def inputOf (k : Nd) : Option (List UInt8 × List UInt8) := match k.kids with
  | [x, y] => if x.leaf = true ∧ y.leaf = true then some (atL x, atL y) else none
  | _ => none
def inputsOf : List Nd → Option (List (List UInt8 × List UInt8))
  | [] => some []
  | k :: r => match inputOf k with
    | none => none
    | some x => (inputsOf r).map (x :: ·)
theorem nd_leaf {k : Nd} {d : Nat} (h : okN k d = true) (hl : k.leaf = true) : k = atomF (atL k) := by
  obtain ⟨l, a, ks⟩ := k
  have : l = true := hl
  subst this
  rw [okN] at h
  simp only [if_true] at h
  rw [List.isEmpty_iff.1 h]
  unfold atomF atL
  show Nd.mk true a [] = Nd.mk true (tx a.data.toList) []
  rw [tx_back]
theorem nd_open {k : Nd} {d : Nat} (h : okN k d = true) (hk : k.leaf = false) : k = .mk false ⟨#[]⟩ k.kids ∧ okL k.kids (d + 1) = true := by
  obtain ⟨l, a, ks⟩ := k
  have : l = false := hk
  subst this
  rw [okN] at h
  simp only [Bool.false_eq_true, if_false, Bool.and_eq_true, decide_eq_true_eq] at h
  refine ⟨?_, h.2⟩
  show Nd.mk false a ks = _
  rw [empty_of_size h.1.1]
  rfl
theorem nd_kids {k : Nd} {d : Nat} (h : okN k d = true) (hk : k.kids ≠ []) : k.leaf = false := by
  obtain ⟨l, a, ks⟩ := k
  cases l with
  | false => rfl
  | true =>
    rw [okN] at h
    simp only [if_true] at h
    exact absurd (List.isEmpty_iff.1 h) hk
theorem okL_mem {ks : List Nd} {d : Nat} (h : okL ks d = true) : ∀ k ∈ ks, okN k d = true := by
  induction ks with
  | nil => intro k hk; cases hk
  | cons a r ih =>
    rw [okL, Bool.and_eq_true] at h
    intro k hk
    rcases List.mem_cons.1 hk with rfl | hk
    · exact h.1
    · exact ih h.2 k hk
theorem inputOf_back {k : Nd} {d : Nat} {x : List UInt8 × List UInt8} (hk : okN k d = true) (h : inputOf k = some x) : inputF x = k := by
  unfold inputOf at h
  split at h
  · rename_i p q hpq
    split at h
    · rename_i hl
      cases h
      obtain ⟨e, hok⟩ := nd_open hk (nd_kids hk (by rw [hpq]; simp))
      have h1 := nd_leaf (okL_mem hok p (by rw [hpq]; simp)) hl.1
      have h2 := nd_leaf (okL_mem hok q (by rw [hpq]; simp)) hl.2
      rw [e, hpq]
      unfold inputF
      simp only
      rw [← h1, ← h2]
    · cases h
  · cases h
theorem inputOf_form (x : List UInt8 × List UInt8) : inputOf (inputF x) = some x := by
  unfold inputOf inputF
  simp only [Nd.kids]
  rw [if_pos ⟨rfl, rfl⟩, atL_atomF, atL_atomF]
theorem inputsOf_back {ks : List Nd} {d : Nat} : ∀ {l : List (List UInt8 × List UInt8)}, okL ks d = true → inputsOf ks = some l → l.map inputF = ks := by
  induction ks with
  | nil => intro l _ h; cases h; rfl
  | cons k r ih =>
    intro l hok h
    rw [okL, Bool.and_eq_true] at hok
    rw [inputsOf] at h
    split at h
    · cases h
    · rename_i x hx
      cases hr : inputsOf r with
      | none => rw [hr] at h; cases h
      | some l' =>
        rw [hr] at h
        cases h
        rw [List.map_cons, inputOf_back hok.1 hx, ih hok.2 hr]
theorem inputsOf_form (l : List (List UInt8 × List UInt8)) : inputsOf (l.map inputF) = some l := by
  induction l with
  | nil => rfl
  | cons x r ih => rw [List.map_cons, inputsOf, inputOf_form]; simp only; rw [ih]; rfl
theorem inputsOf_snoc {a : List Nd} {k : Nd} {x : InL} : ∀ {l : List InL}, inputsOf a = some l → inputOf k = some x → inputsOf (a ++ [k]) = some (l ++ [x]) := by
  induction a with
  | nil => intro l h1 h2; cases h1; rw [List.nil_append, inputsOf, h2]; rfl
  | cons y r ih =>
    intro l h1 h2
    rw [inputsOf] at h1
    rw [List.cons_append, inputsOf]
    split at h1
    · cases h1
    · rename_i z hz
      cases hr : inputsOf r with
      | none => rw [hr] at h1; cases h1
      | some l' =>
        rw [hr] at h1
        cases h1
        rw [ih hr h2]
        rfl
theorem inputsOf_bad {ks : List Nd} {k : Nd} (hk : k ∈ ks) (h : inputOf k = none) : inputsOf ks = none := by
  induction ks with
  | nil => cases hk
  | cons y r ih =>
    rw [inputsOf]
    rcases List.mem_cons.1 hk with rfl | hk
    · rw [h]
    · split
      · rfl
      · rw [ih hk]; rfl
theorem inputsOf_len {ks : List Nd} : ∀ {l : List InL}, inputsOf ks = some l → l.length = ks.length ∧ ∀ x ∈ l, x.1.length ≤ Nd.counts ks ∧ x.2.length ≤ Nd.counts ks := by
  induction ks with
  | nil => intro l h; cases h; exact ⟨rfl, fun x hx => by cases hx⟩
  | cons k r ih =>
    intro l h
    rw [inputsOf] at h
    split at h
    · cases h
    · rename_i x hx
      cases hr : inputsOf r with
      | none => rw [hr] at h; cases h
      | some l' =>
        rw [hr] at h
        cases h
        obtain ⟨h1, h2⟩ := ih hr
        refine ⟨by rw [List.length_cons, h1, List.length_cons], fun y hy => ?_⟩
        rw [Nd.counts]
        rcases List.mem_cons.1 hy with rfl | hy
        · unfold inputOf at hx
          split at hx
          · rename_i p q hpq
            split at hx
            · cases hx
              have c0 := (cnt_parts k).2
              have c1 := cnt_mem (ks := k.kids) (k := p) (by rw [hpq]; simp)
              have c2 := cnt_mem (ks := k.kids) (k := q) (by rw [hpq]; simp)
              have d1 := (cnt_parts p).1
              have d2 := (cnt_parts q).1
              rw [atL_len, atL_len]
              omega
            · cases hx
          · cases hx
        · have := h2 y hy
          omega
theorem inputOf_two {x p q : Nd} (hk : x.kids = [p, q]) : inputOf x = if p.leaf = true ∧ q.leaf = true then some (atL p, atL q) else none := by
  unfold inputOf
  rw [hk]
theorem inputOf_no {x : Nd} (h : x.kids.length ≠ 2) : inputOf x = none := by
  unfold inputOf
  split
  · rename_i h'
    rw [h'] at h
    exact absurd rfl h
  · rfl
theorem len2 {α : Type} (l : List α) (h : l.length = 2) : ∃ a b, l = [a, b] := by
  match l, h with
  | [a, b], _ => exact ⟨a, b, rfl⟩
def rawIn (k : Nd) : Option (List UInt8 × List UInt8) := match k.kids with
  | [x, y] => some (atL x, atL y)
  | _ => none
def rawIns : List Nd → Option (List (List UInt8 × List UInt8))
  | [] => some []
  | k :: r => match rawIn k with
    | none => none
    | some x => (rawIns r).map (x :: ·)
theorem rawIns_form (l : List (List UInt8 × List UInt8)) : rawIns (l.map inputF) = some l := by
  induction l with
  | nil => rfl
  | cons x r ih =>
    have h : rawIn (inputF x) = some x := by
      unfold rawIn inputF
      simp only [Nd.kids]
      rw [atL_atomF, atL_atomF]
    rw [List.map_cons, rawIns, h]
    simp only
    rw [ih]
    rfl
theorem rawIns_snoc {a : List Nd} {k : Nd} {x : List UInt8 × List UInt8} : ∀ {l : List (List UInt8 × List UInt8)}, rawIns a = some l → rawIn k = some x → rawIns (a ++ [k]) = some (l ++ [x]) := by
  induction a with
  | nil => intro l h1 h2; cases h1; rw [List.nil_append, rawIns, h2]; rfl
  | cons y r ih =>
    intro l h1 h2
    rw [rawIns] at h1
    rw [List.cons_append, rawIns]
    split at h1
    · cases h1
    · rename_i z hz
      cases hr : rawIns r with
      | none => rw [hr] at h1; cases h1
      | some l' =>
        rw [hr] at h1
        cases h1
        rw [ih hr h2]
        rfl
theorem rawIns_bad {ks : List Nd} {k : Nd} (hk : k ∈ ks) (h : rawIn k = none) : rawIns ks = none := by
  induction ks with
  | nil => cases hk
  | cons y r ih =>
    rw [rawIns]
    rcases List.mem_cons.1 hk with rfl | hk
    · rw [h]
    · split
      · rfl
      · rw [ih hk]; rfl
theorem rawIns_len {ks : List Nd} : ∀ {l : List InL}, rawIns ks = some l → l.length = ks.length ∧ ∀ x ∈ l, x.1.length ≤ Nd.counts ks ∧ x.2.length ≤ Nd.counts ks := by
  induction ks with
  | nil => intro l h; cases h; exact ⟨rfl, fun x hx => by cases hx⟩
  | cons k r ih =>
    intro l h
    rw [rawIns] at h
    split at h
    · cases h
    · rename_i x hx
      cases hr : rawIns r with
      | none => rw [hr] at h; cases h
      | some l' =>
        rw [hr] at h
        cases h
        obtain ⟨h1, h2⟩ := ih hr
        refine ⟨by rw [List.length_cons, h1, List.length_cons], fun y hy => ?_⟩
        rw [Nd.counts]
        rcases List.mem_cons.1 hy with rfl | hy
        · unfold rawIn at hx
          split at hx
          · rename_i p q hpq
            cases hx
            have c0 := (cnt_parts k).2
            have c1 := cnt_mem (ks := k.kids) (k := p) (by rw [hpq]; simp)
            have c2 := cnt_mem (ks := k.kids) (k := q) (by rw [hpq]; simp)
            have d1 := (cnt_parts p).1
            have d2 := (cnt_parts q).1
            rw [atL_len, atL_len]
            omega
          · cases hx
        · have := h2 y hy
          omega
theorem rawIn_two {x p q : Nd} (hk : x.kids = [p, q]) : rawIn x = some (atL p, atL q) := by
  unfold rawIn
  rw [hk]
theorem rawIn_no {x : Nd} (h : x.kids.length ≠ 2) : rawIn x = none := by
  unfold rawIn
  split
  · rename_i h'
    rw [h'] at h
    exact absurd rfl h
  · rfl
noncomputable def decT (s : List UInt8) : Except Int (List FileL) := match decR s with
  | .error y => .error y
  | .ok n => match inputsOf n.kids with
    | none => .error 5
    | some l => if n.leaf = false ∧ goodF l = true then .ok l else .error 5
theorem tree_back {n : Nd} {l : List FileL} (h : okN n 0 = true) (hl : n.leaf = false) (hi : inputsOf n.kids = some l) : n = treeN l := by
  obtain ⟨h1, h2⟩ := nd_open h hl
  have := inputsOf_back h2 hi
  unfold treeN
  rw [show List.map inputF l = n.kids from this]
  exact h1
theorem decT_ok {s : List UInt8} {l : List FileL} (h : decT s = .ok l) : decR s = .ok (treeN l) ∧ goodF l = true := by
  unfold decT at h
  split at h
  · cases h
  · rename_i n hn
    obtain ⟨_, _, hok⟩ := decR_ok hn
    split at h
    · cases h
    · rename_i l' hb
      split at h
      · rename_i hg
        cases h
        rw [hn, tree_back hok hg.1 hb]
        exact ⟨rfl, hg.2⟩
      · cases h
theorem decT_of {s : List UInt8} {l : List FileL} (h : decR s = .ok (treeN l)) (hg : goodF l = true) : decT s = .ok l := by
  unfold decT
  rw [h]
  simp only
  rw [show inputsOf (treeN l).kids = some l from inputsOf_form l]
  simp only
  rw [if_pos ⟨rfl, hg⟩]
theorem decT_five {s : List UInt8} {n : Nd} (h : decR s = .ok n) (hn : ∀ l, n = treeN l → goodF l = true → False) : decT s = .error 5 := by
  cases hc : decT s with
  | ok l =>
    obtain ⟨h1, h2⟩ := decT_ok hc
    rw [h] at h1
    cases h1
    exact (hn l rfl h2).elim
  | error y =>
    unfold decT at hc
    rw [h] at hc
    simp only at hc
    split at hc
    · exact hc.symm
    · split at hc
      · cases hc
      · exact hc.symm
theorem decT_err {s : List UInt8} {y : Int} (h : decT s = .error y) : 0 < y ∧ y < 10 := by
  unfold decT at h
  split at h
  · rename_i e he
    cases h
    exact decR_err he
  · split at h
    · cases h; decide
    · split at h
      · cases h
      · cases h; decide
theorem decT_none {s : List UInt8} {n : Nd} (h : decR s = .ok n) (hr : inputsOf n.kids = none) : decT s = .error 5 := by
  unfold decT
  rw [h]
  simp only
  rw [hr]
theorem decT_some {s : List UInt8} {n : Nd} {l : List FileL} (h : decR s = .ok n) (hr : inputsOf n.kids = some l) (h1 : n.leaf = false) (h2 : goodF l = true) : decT s = .ok l := by
  unfold decT
  rw [h]
  simp only
  rw [hr]
  simp only
  rw [if_pos ⟨h1, h2⟩]
theorem decT_bad {s : List UInt8} {n : Nd} {l : List FileL} (h : decR s = .ok n) (hr : inputsOf n.kids = some l) (hb : ¬ (n.leaf = false ∧ goodF l = true)) : decT s = .error 5 := by
  unfold decT
  rw [h]
  simp only
  rw [hr]
  simp only
  rw [if_neg hb]
theorem decT_raw_none {s : List UInt8} {n : Nd} (h : decR s = .ok n) (hr : rawIns n.kids = none) : decT s = .error 5 :=
  decT_five h fun l hn hg => by
    have := rawIns_form l
    rw [hn] at hr
    rw [show rawIns (treeN l).kids = rawIns (l.map inputF) from rfl, this] at hr
    cases hr
theorem decT_raw_ok {s : List UInt8} {n : Nd} {l : List FileL} (h : decR s = .ok n) (hg : goodF l = true) (hn : n = treeN l) : decT s = .ok l :=
  decT_of (by rw [h, hn]) hg
theorem decT_raw_bad {s : List UInt8} {n : Nd} {l : List FileL} (h : decR s = .ok n) (hr : rawIns n.kids = some l) (hb : ¬ (goodF l = true ∧ n = treeN l)) : decT s = .error 5 :=
  decT_five h fun l' hn hg => by
    have := rawIns_form l'
    rw [hn, show rawIns (treeN l').kids = rawIns (l'.map inputF) from rfl, this] at hr
    cases hr
    exact hb ⟨hg, hn⟩
theorem files_cnt (l : List FileL) {b : Nat} (h : ∀ x ∈ l, x.1.length ≤ b ∧ x.2.length ≤ b) : (treeN l).count ≤ 1 + l.length * (2 * b + 3) := by
  have h3 : Nd.counts (l.map inputF) ≤ l.length * (2 * b + 3) := by
    induction l with
    | nil => simp [Nd.counts]
    | cons x r ih =>
      have h1 := h x (by simp)
      have h2 := ih fun y hy => h y (by simp [hy])
      rw [List.map_cons, Nd.counts, List.length_cons, Nat.succ_mul]
      have : (inputF x).count ≤ 2 * b + 3 := by
        unfold inputF
        rw [Nd.count, Nd.counts, Nd.counts, Nd.counts, atom_cnt, atom_cnt]
        have h0 : (⟨#[]⟩ : ByteArray).size = 0 := rfl
        omega
      omega
  unfold treeN
  rw [Nd.count]
  have h0 : (⟨#[]⟩ : ByteArray).size = 0 := rfl
  omega
/- what was read weighs no more as a node than what it was read of -/
theorem raw_cnt {ks : List Nd} : ∀ {l : List FileL}, rawIns ks = some l → Nd.counts (l.map inputF) ≤ Nd.counts ks := by
  induction ks with
  | nil => intro l h; cases h; exact Nat.le_refl _
  | cons k r ih =>
    intro l h
    rw [rawIns] at h
    split at h
    · cases h
    · rename_i x hx
      cases hr : rawIns r with
      | none => rw [hr] at h; cases h
      | some l' =>
        rw [hr] at h
        cases h
        have h1 := ih hr
        rw [List.map_cons, Nd.counts, Nd.counts]
        have : (inputF x).count ≤ k.count := by
          unfold rawIn at hx
          split at hx
          · rename_i p q hpq
            cases hx
            obtain ⟨kl, ka, kk⟩ := k
            simp only [Nd.kids] at hpq
            subst hpq
            obtain ⟨pl, pa, pk⟩ := p
            obtain ⟨ql, qa, qk⟩ := q
            unfold inputF
            rw [Nd.count, Nd.counts, Nd.counts, Nd.counts, atom_cnt, atom_cnt, Nd.count, Nd.counts, Nd.counts, Nd.counts, atL_len, atL_len, Nd.count, Nd.count]
            show _ + (1 + pa.size + (1 + qa.size + 0)) ≤ _
            have h0 : (⟨#[]⟩ : ByteArray).size = 0 := rfl
            omega
          · cases hx
        omega
theorem raw_tree {n : Nd} {l : List FileL} (h : rawIns n.kids = some l) : (treeN l).count ≤ n.count := by
  have := raw_cnt h
  obtain ⟨nl, na, ks⟩ := n
  change Nd.counts _ ≤ Nd.counts ks at this
  unfold treeN
  rw [Nd.count, Nd.count]
  have h0 : (⟨#[]⟩ : ByteArray).size = 0 := rfl
  omega
end Go.Proofs.YthehpmffkkogpaaGreatDoor
namespace Go.Proofs.YthehpmffkkogpaaGreatDoor
set_option linter.unusedVariables false
open Go.ChangeShapes Go.WideShapes Go.ChangeAt Go.RowKit
def outL : Except Int (List FileL) → List FileL
  | .error _ => []
  | .ok d => d
def outE : Except Int (List FileL) → Int
  | .error y => y
  | .ok _ => 0
def OutP (d : List FileL) (y : Int) (w : World) (e : Ending) (w' : World) : Prop := Chg NoB w w' ∧ ∃ q n c kb ko, n = d.length ∧ e = .returned (.tuple #[.agg #[.slice q n c], .int .i64 y]) ∧ InpS w' (NewB w w') (.slice q n c) d kb ko
theorem OutP.val {d : List FileL} {y : Int} {w : World} {e : Ending} {w' : World} (h : OutP d y w e w') : Chg NoB w w' ∧ ∃ q n c kb ko, n = d.length ∧ e = .returned (.tuple #[.agg #[.slice q n c], .int .i64 y]) ∧ InpS w' (NewB w w') (.slice q n c) d kb ko := h
theorem MakeP.out {r : Except Int (List FileL)} {w : World} {e : Ending} {w' : World} (h : MakeP r w e w') : OutP (outL r) (outE r) w e w' := by
  obtain ⟨hc, h⟩ := h
  refine ⟨hc, ?_⟩
  cases r with
  | error y => exact ⟨none, 0, 0, 0, 0, rfl, h, InpS.nil _ _⟩
  | ok d =>
    obtain ⟨v, he, hrow⟩ := h
    obtain ⟨q, c, rfl, -, -⟩ := row_shape hrow
    obtain ⟨kb, hs⟩ := InpS.of_row hrow
    exact ⟨q, _, c, kb, 0, rfl, he, hs⟩
theorem decT_sizes (s : List UInt8) : (outL (decT s)).length ≤ 1048576 ∧ ∀ x ∈ outL (decT s), x.1.length ≤ 131072 ∧ x.2.length ≤ 131072 := by
  cases h : decT s with
  | error y => exact ⟨Nat.zero_le _, fun x hx => by cases hx⟩
  | ok d =>
    have hg := good_sizes (decT_ok h).2
    exact ⟨by show d.length ≤ _; omega, fun x hx => by have := hg.2 x hx; omega⟩
end Go.Proofs.YthehpmffkkogpaaGreatDoor
