/- A reading goes on: what is left grows never, and less with each token. No condition. -/
import Derived.Test.YtdgcpgbknfojhaaDoorRcTake
namespace Go.Proofs.YtdgcpgbknfojhaaDoor
set_option linter.unusedVariables false
theorem quoCut_lt {s t r : List UInt8} (h : quoCut s = some (t, r)) : r.length < s.length := by
  cases s with
  | nil => simp [quoCut] at h
  | cons c l =>
    rw [quoCut] at h
    split at h
    · cases h
    · have := (cutQ_suf _ _ _ _ h).1.length_le
      rw [List.length_cons]; omega
theorem tokF_le {l : List UInt8} {st : RdL} (h : tokF l = .ok st) : st.rest.length ≤ l.length ∧ (st.kind ≠ 0 → st.rest.length < l.length) := by
  cases l with
  | nil => cases h; exact ⟨Nat.le_refl _, fun h => absurd rfl h⟩
  | cons c r =>
    rw [tokF] at h
    split at h
    · cases hq : quoCut (c :: r) with
      | none => rw [hq] at h; cases h
      | some x =>
        obtain ⟨t, b⟩ := x
        rw [hq] at h
        cases h
        have := quoCut_lt hq
        exact ⟨Nat.le_of_lt this, fun _ => this⟩
    · split at h
      · cases h
        exact ⟨by simp, fun _ => by simp⟩
      · split at h
        · rename_i hw
          cases h
          have h1 := (takeW_pos (r := r)).2 hw
          have h2 := congrArg List.length (List.takeWhile_append_dropWhile (p := wordC) (l := c :: r))
          rw [List.length_append] at h2
          exact ⟨by show ((c :: r).dropWhile wordC).length ≤ _; omega, fun _ => by show ((c :: r).dropWhile wordC).length < _; omega⟩
        · cases h
theorem skipF_len (l : List UInt8) (n : Bool) : (skipF n l).length ≤ l.length := (skipF_suffix l n).length_le
theorem takeF_le {l : List UInt8} {st : RdL} (h : takeF l = .ok st) : st.rest.length ≤ l.length ∧ (st.kind ≠ 0 → st.rest.length < l.length) := by
  have h1 := tokF_le (show tokF (skipF false l) = .ok st from h)
  have h2 := skipF_len l false
  exact ⟨by omega, fun h => by have := h1.2 h; omega⟩
abbrev TermL := RdL → Except FaultL (ExL × RdL)
structure GoodT (t : TermL) : Prop where
  kind : ∀ {st : RdL} {y : ExL} {s2 : RdL}, t st = .ok (y, s2) → st.kind ≠ 0
  le : ∀ {st : RdL} {y : ExL} {s2 : RdL}, t st = .ok (y, s2) → s2.rest.length ≤ st.rest.length
theorem mustF_le {k : Nat} {s : List UInt8} {st s2 : RdL} (h : mustF k s st = .ok s2) : s2.rest.length ≤ st.rest.length := by
  unfold mustF at h
  split at h
  · exact (takeF_le h).1
  · cases h
theorem moreF_le {t : TermL} (g : GoodT t) : ∀ (n : Nat) (acc : List ExL) (st : RdL) (r : List ExL × RdL), moreF t n acc st = .ok r → r.2.rest.length ≤ st.rest.length
  | 0, acc, st, r, h => by cases h; exact Nat.le_refl _
  | n + 1, acc, st, r, h => by
    rw [moreF] at h
    split at h
    · cases h1 : takeF st.rest with
      | error e => rw [h1] at h; cases h
      | ok s1 =>
        rw [h1] at h
        simp only at h
        cases h2 : t s1 with
        | error e => rw [h2] at h; cases h
        | ok x =>
          obtain ⟨y, s2⟩ := x
          rw [h2] at h
          have a := (takeF_le h1).1
          have b := g.le h2
          have c := moreF_le g n _ s2 r h
          omega
    · cases h; exact Nat.le_refl _
theorem exprW_le {t : TermL} (g : GoodT t) {st : RdL} {x : ExL} {s2 : RdL} (h : exprW t st = .ok (x, s2)) : s2.rest.length ≤ st.rest.length := by
  unfold exprW at h
  cases h1 : t st with
  | error e => rw [h1] at h; cases h
  | ok z =>
    obtain ⟨y, s1⟩ := z
    rw [h1] at h
    simp only at h
    cases h2 : moreF t (s1.rest.length + 1) [y] s1 with
    | error e => rw [h2] at h; cases h
    | ok z =>
      obtain ⟨ks, s3⟩ := z
      rw [h2] at h
      cases h
      have a := g.le h1
      have b := moreF_le g _ _ _ _ h2
      simp only at b
      omega
theorem exprM_le {t : TermL} (g : GoodT t) {k : Nat} {s : List UInt8} {st : RdL} {x : ExL} {s2 : RdL} (h : exprM t k s st = .ok (x, s2)) : s2.rest.length ≤ st.rest.length := by
  unfold exprM at h
  cases h1 : exprW t st with
  | error e => rw [h1] at h; cases h
  | ok z =>
    obtain ⟨y, s1⟩ := z
    rw [h1] at h
    simp only at h
    cases h2 : mustF k s s1 with
    | error e => rw [h2] at h; cases h
    | ok s3 =>
      rw [h2] at h
      cases h
      have a := exprW_le g h1
      have b := mustF_le h2
      omega
theorem choiceF_le {t : TermL} (g : GoodT t) {st : RdL} {x : ExL} {s5 : RdL} (h : choiceF t st = .ok (x, s5)) : s5.rest.length ≤ st.rest.length := by
  unfold choiceF at h
  cases h1 : exprM t 2 [61] st with
  | error e => rw [h1] at h; cases h
  | ok z =>
    obtain ⟨a, s1⟩ := z
    rw [h1] at h
    simp only at h
    cases h2 : exprM t 1 kThen s1 with
    | error e => rw [h2] at h; cases h
    | ok z =>
      obtain ⟨b, s2⟩ := z
      rw [h2] at h
      simp only at h
      cases h3 : exprM t 1 kElse s2 with
      | error e => rw [h3] at h; cases h
      | ok z =>
        obtain ⟨c, s3⟩ := z
        rw [h3] at h
        simp only at h
        cases h4 : exprW t s3 with
        | error e => rw [h4] at h; cases h
        | ok z =>
          obtain ⟨d, s4⟩ := z
          rw [h4] at h
          cases h
          have := exprM_le g h1
          have := exprM_le g h2
          have := exprM_le g h3
          have := exprW_le g h4
          omega
theorem nameT_le {st s2 : RdL} (h : nameT st = .ok s2) : s2.rest.length ≤ st.rest.length := by
  unfold nameT at h
  split at h
  · cases h
  · exact (takeF_le h).1
theorem bindF_le {t : TermL} (g : GoodT t) {st : RdL} {x : ExL} {s5 : RdL} (h : bindF t st = .ok (x, s5)) : s5.rest.length ≤ st.rest.length := by
  unfold bindF at h
  cases h0 : nameT st with
  | error e => rw [h0] at h; cases h
  | ok s0 =>
    rw [h0] at h
    simp only at h
    cases h1 : mustF 2 [61] s0 with
    | error e => rw [h1] at h; cases h
    | ok s1 =>
      rw [h1] at h
      simp only at h
      cases h2 : exprM t 1 kIn s1 with
      | error e => rw [h2] at h; cases h
      | ok z =>
        obtain ⟨a, s2⟩ := z
        rw [h2] at h
        simp only at h
        cases h3 : exprW t s2 with
        | error e => rw [h3] at h; cases h
        | ok z =>
          obtain ⟨b, s3⟩ := z
          rw [h3] at h
          cases h
          have := nameT_le h0
          have := mustF_le h1
          have := exprM_le g h2
          have := exprW_le g h3
          omega
theorem begins_kind {st : RdL} (h : beginsF st = true) : st.kind = 1 ∨ st.kind = 2 ∨ st.kind = 3 := by
  unfold beginsF RdL.is at h
  simp only [Bool.or_eq_true, Bool.and_eq_true, decide_eq_true_eq] at h
  omega
theorem term_good : ∀ d, GoodT (termF d)
  | 0 => by
    constructor
    · intro st y s2 h; cases h
    · intro st y s2 h; cases h
  | d + 1 => by
    have g := term_good d
    have key : ∀ {st : RdL} {y : ExL} {s2 : RdL}, termF (d + 1) st = .ok (y, s2) → st.kind ≠ 0 ∧ s2.rest.length ≤ st.rest.length := by
      intro st y s2 h
      rw [termF] at h
      split at h
      · rename_i hb
        have hk := begins_kind hb
        refine ⟨by omega, ?_⟩
        cases h1 : takeF st.rest with
        | error e => rw [h1] at h; cases h
        | ok s1 =>
          rw [h1] at h
          simp only at h
          have a := (takeF_le h1).1
          split at h
          · cases h; exact a
          · split at h
            · have := exprM_le g h; omega
            · split at h
              · have := choiceF_le g h; omega
              · split at h
                · have := bindF_le g h; omega
                · cases h; exact a
      · cases h
    constructor
    · intro st y s2 h; exact (key h).1
    · intro st y s2 h; exact (key h).2
end Go.Proofs.YtdgcpgbknfojhaaDoor
