/- What is read can be, in lists. No condition. -/
import Derived.Test.YtdgcpgbknfojhaaDoorRcPrM
namespace Go.Proofs.YtdgcpgbknfojhaaDoor
set_option linter.unusedVariables false
def Tk (st : RdL) : Prop := st.kind ≠ 0 → st.rest.length < st.rem
theorem tokF_tk {l : List UInt8} {st : RdL} (h : tokF l = .ok st) : st.rem ≤ l.length ∧ Tk st := by
  refine ⟨?_, ?_⟩
  · cases l with
    | nil => cases h; exact Nat.le_refl _
    | cons c r =>
      rw [tokF] at h
      split at h
      · cases hq : quoCut (c :: r) with
        | none => rw [hq] at h; cases h
        | some x => rw [hq] at h; cases h; exact Nat.le_refl _
      · split at h
        · cases h; exact Nat.le_refl _
        · split at h
          · cases h; exact Nat.le_refl _
          · cases h
  · intro hk
    have h1 := (tokF_le h).2 hk
    suffices st.rem = l.length by omega
    cases l with
    | nil => cases h; exact absurd rfl hk
    | cons c r =>
      rw [tokF] at h
      split at h
      · cases hq : quoCut (c :: r) with
        | none => rw [hq] at h; cases h
        | some x => rw [hq] at h; cases h; rfl
      · split at h
        · cases h; rfl
        · split at h
          · cases h; rfl
          · cases h
theorem takeF_tk {l : List UInt8} {st : RdL} (h : takeF l = .ok st) : st.rem ≤ l.length ∧ Tk st := by
  have h1 := tokF_tk (show tokF (skipF false l) = .ok st from h)
  have h2 := skipF_len l false
  exact ⟨by omega, h1.2⟩
theorem takeF_next {st st' : RdL} (hk : Tk st) (h0 : st.kind ≠ 0) (h : takeF st.rest = .ok st') : st'.rem + 1 ≤ st.rem ∧ Tk st' := by
  have h1 := takeF_tk h
  have := hk h0
  exact ⟨by omega, h1.2⟩
theorem is_kind {st : RdL} {k : Nat} {s : List UInt8} (h : st.is k s = true) : st.kind = k := by
  unfold RdL.is at h
  rw [Bool.and_eq_true, decide_eq_true_eq] at h
  exact h.1
theorem mustF_tk {k : Nat} {s : List UInt8} {st s2 : RdL} (hk : Tk st) (h0 : k ≠ 0) (h : mustF k s st = .ok s2) : s2.rem + 1 ≤ st.rem ∧ Tk s2 := by
  unfold mustF at h
  split at h
  · rename_i h1
    exact takeF_next hk (by rw [is_kind h1]; exact h0) h
  · cases h
mutual
theorem okE_mono {d e : Nat} (hd : d ≤ e) : ∀ x : ExL, okE d x = true → okE e x = true
  | .mk k s ks, h => by
    rw [okE, Bool.and_eq_true, Bool.and_eq_true, decide_eq_true_eq] at h ⊢
    exact ⟨⟨by omega, h.1.2⟩, okEs_mono (by omega) ks h.2⟩
theorem okEs_mono {d e : Nat} (hd : d ≤ e) : ∀ ks : List ExL, okEs d ks = true → okEs e ks = true
  | [], _ => rfl
  | k :: r, h => by
    rw [okEs, Bool.and_eq_true] at h ⊢
    exact ⟨okE_mono hd k h.1, okEs_mono hd r h.2⟩
end
theorem okEs_app {d : Nat} {y : ExL} : ∀ {ks : List ExL}, okEs d ks = true → okE d y = true → okEs d (ks ++ [y]) = true
  | [], _, h => by rw [List.nil_append, okEs, h]; rfl
  | k :: r, h1, h => by
    rw [okEs, Bool.and_eq_true] at h1
    rw [List.cons_append, okEs, h1.1, okEs_app h1.2 h]; rfl
theorem nodesL_app (y : ExL) : ∀ ks : List ExL, ExL.nodesL (ks ++ [y]) = ExL.nodesL ks + y.nodes
  | [] => by simp [ExL.nodesL]
  | k :: r => by rw [List.cons_append, ExL.nodesL, ExL.nodesL, nodesL_app y r]; omega
def KeptT (D : Nat) (t : TermL) : Prop := ∀ (st : RdL) (x : ExL) (st' : RdL), Tk st → t st = .ok (x, st') → okE D x = true ∧ x.nodes + st'.rem ≤ st.rem ∧ Tk st'
theorem more_kept {D : Nat} {t : TermL} (ht : KeptT D t) : ∀ (n : Nat) (acc : List ExL) (st : RdL) (ks : List ExL) (st' : RdL), Tk st → okEs D acc = true → moreF t n acc st = .ok (ks, st') →
    okEs D ks = true ∧ ExL.nodesL ks + ks.length + st'.rem ≤ ExL.nodesL acc + acc.length + st.rem ∧ acc.length ≤ ks.length ∧ Tk st'
  | 0, acc, st, ks, st', hk, ha, h => by cases h; exact ⟨ha, Nat.le_refl _, Nat.le_refl _, hk⟩
  | n + 1, acc, st, ks, st', hk, ha, h => by
    rw [moreF] at h
    split at h
    · rename_i hi
      cases h1 : takeF st.rest with
      | error e => rw [h1] at h; cases h
      | ok s1 =>
        rw [h1] at h
        simp only at h
        obtain ⟨a1, a2⟩ := takeF_next hk (by rw [is_kind hi]; decide) h1
        cases h2 : t s1 with
        | error e => rw [h2] at h; cases h
        | ok x =>
          obtain ⟨y, s2⟩ := x
          rw [h2] at h
          simp only at h
          obtain ⟨b1, b2, b3⟩ := ht s1 y s2 a2 h2
          obtain ⟨c1, c2, c3, c4⟩ := more_kept ht n _ s2 ks st' b3 (okEs_app ha b1) h
          rw [nodesL_app, List.length_append] at c2
          rw [List.length_append] at c3
          simp only [List.length_cons, List.length_nil] at c2 c3
          exact ⟨c1, by omega, by omega, c4⟩
    · cases h; exact ⟨ha, Nat.le_refl _, Nat.le_refl _, hk⟩
theorem expr_kept {D : Nat} {t : TermL} (ht : KeptT D t) : KeptT (D + 1) (exprW t) := by
  intro st x st' hk h
  unfold exprW at h
  cases h1 : t st with
  | error e => rw [h1] at h; cases h
  | ok z =>
    obtain ⟨y, s1⟩ := z
    rw [h1] at h
    simp only at h
    obtain ⟨a1, a2, a3⟩ := ht st y s1 hk h1
    cases h2 : moreF t (s1.rest.length + 1) [y] s1 with
    | error e => rw [h2] at h; cases h
    | ok z =>
      obtain ⟨ks, s2⟩ := z
      rw [h2] at h
      cases h
      obtain ⟨b1, b2, b3, b4⟩ := more_kept ht _ _ _ _ _ a3 (by rw [okEs, a1]; rfl) h2
      simp only [ExL.nodesL, List.length_cons, List.length_nil] at b2 b3
      refine ⟨?_, ?_, b4⟩
      · match ks, b3, b1 with
        | [k], _, b1 =>
          rw [okEs, Bool.and_eq_true] at b1
          exact okE_mono (Nat.le_succ _) k b1.1
        | a :: b :: r, _, b1 =>
          show okE (D + 1) (.mk 3 [] (a :: b :: r)) = true
          rw [okE, Nat.add_sub_cancel, b1]
          simp [shapeF]
      · match ks, b3, b2 with
        | [k], _, b2 =>
          show k.nodes + st'.rem ≤ st.rem
          simp only [ExL.nodesL, List.length_cons, List.length_nil] at b2
          omega
        | a :: b :: r, _, b2 =>
          show (ExL.mk 3 [] (a :: b :: r)).nodes + st'.rem ≤ st.rem
          rw [ExL.nodes]
          simp only [List.length_cons] at b2
          omega
theorem exprM_kept {D : Nat} {t : TermL} (ht : KeptT D t) {k : Nat} {s : List UInt8} (h0 : k ≠ 0) {st : RdL} {x : ExL} {st' : RdL} (hk : Tk st) (h : exprM t k s st = .ok (x, st')) : okE (D + 1) x = true ∧ x.nodes + 1 + st'.rem ≤ st.rem ∧ Tk st' := by
  unfold exprM at h
  cases h1 : exprW t st with
  | error e => rw [h1] at h; cases h
  | ok z =>
    obtain ⟨y, s1⟩ := z
    rw [h1] at h
    simp only at h
    obtain ⟨a1, a2, a3⟩ := expr_kept ht st y s1 hk h1
    cases h2 : mustF k s s1 with
    | error e => rw [h2] at h; cases h
    | ok s3 =>
      rw [h2] at h
      cases h
      obtain ⟨b1, b2⟩ := mustF_tk a3 h0 h2
      exact ⟨a1, by omega, b2⟩
theorem choice_kept {D : Nat} {t : TermL} (ht : KeptT D t) : KeptT (D + 2) (choiceF t) := by
  intro st x st' hk h
  unfold choiceF at h
  cases h1 : exprM t 2 [61] st with
  | error e => rw [h1] at h; cases h
  | ok z =>
    obtain ⟨a, s1⟩ := z
    rw [h1] at h
    simp only at h
    obtain ⟨a1, a2, a3⟩ := exprM_kept ht (by decide) hk h1
    cases h2 : exprM t 1 kThen s1 with
    | error e => rw [h2] at h; cases h
    | ok z =>
      obtain ⟨b, s2⟩ := z
      rw [h2] at h
      simp only at h
      obtain ⟨b1, b2, b3⟩ := exprM_kept ht (by decide) a3 h2
      cases h3 : exprM t 1 kElse s2 with
      | error e => rw [h3] at h; cases h
      | ok z =>
        obtain ⟨c, s3⟩ := z
        rw [h3] at h
        simp only at h
        obtain ⟨c1, c2, c3⟩ := exprM_kept ht (by decide) b3 h3
        cases h4 : exprW t s3 with
        | error e => rw [h4] at h; cases h
        | ok z =>
          obtain ⟨d, s4⟩ := z
          rw [h4] at h
          cases h
          obtain ⟨d1, d2, d3⟩ := expr_kept ht s3 d st' c3 h4
          refine ⟨?_, ?_, d3⟩
          · rw [okE, show D + 2 - 1 = D + 1 by omega, okEs, okEs, okEs, okEs, okEs, a1, b1, c1, d1]
            simp [shapeF]
          · simp only [ExL.nodes, ExL.nodesL]
            omega
theorem bind_kept {D : Nat} {t : TermL} (ht : KeptT D t) : KeptT (D + 2) (bindF t) := by
  intro st x st' hk h
  unfold bindF at h
  cases h0 : nameT st with
  | error e => rw [h0] at h; cases h
  | ok s0 =>
    rw [h0] at h
    simp only at h
    unfold nameT at h0
    split at h0
    · cases h0
    · rename_i hn
      obtain ⟨n1, n2⟩ := takeF_next hk (by have := Classical.not_not.1 hn; rw [this.1]; decide) h0
      have hnm := (Classical.not_not.1 hn).2
      cases h1 : mustF 2 [61] s0 with
      | error e => rw [h1] at h; cases h
      | ok s1 =>
        rw [h1] at h
        simp only at h
        obtain ⟨a2, a3⟩ := mustF_tk n2 (by decide) h1
        cases h2 : exprM t 1 kIn s1 with
        | error e => rw [h2] at h; cases h
        | ok z =>
          obtain ⟨a, s2⟩ := z
          rw [h2] at h
          simp only at h
          obtain ⟨b1, b2, b3⟩ := exprM_kept ht (by decide) a3 h2
          cases h3 : exprW t s2 with
          | error e => rw [h3] at h; cases h
          | ok z =>
            obtain ⟨b, s3⟩ := z
            rw [h3] at h
            cases h
            obtain ⟨d1, d2, d3⟩ := expr_kept ht s2 b st' b3 h3
            refine ⟨?_, ?_, d3⟩
            · rw [okE, show D + 2 - 1 = D + 1 by omega, okEs, okEs, okEs, b1, d1]
              simp [shapeF, hnm]
            · simp only [ExL.nodes, ExL.nodesL]
              omega
theorem term_kept : ∀ n, KeptT (2 * n + 1) (termF (n + 1)) ∧ (∀ m, n = m + 1 → KeptT (2 * m + 1) (termF n))
  | n => by
    have key : ∀ n, KeptT (2 * n + 1) (termF (n + 1)) := by
      intro n
      induction n with
      | zero =>
        have h0 : KeptT 0 (termF 0) := by intro st x st' _ h; cases h
        intro st x st' hk h
        rw [termF] at h
        split at h
        · rename_i hb
          cases h1 : takeF st.rest with
          | error e => rw [h1] at h; cases h
          | ok s1 =>
            rw [h1] at h
            simp only at h
            obtain ⟨a1, a2⟩ := takeF_next hk (by have := begins_kind hb; omega) h1
            split at h
            · cases h; exact ⟨by rfl, by simp only [ExL.nodes, ExL.nodesL]; omega, a2⟩
            · split at h
              · obtain ⟨b1, b2, b3⟩ := exprM_kept h0 (by decide) a2 h
                exact ⟨b1, by omega, b3⟩
              · split at h
                · have h5 : ∀ st x st', choiceF (termF 0) st ≠ .ok (x, st') := fun st x st' e => by cases e
                  exact absurd h (h5 _ _ _)
                · split at h
                  · have h5 : ∀ st x st', bindF (termF 0) st ≠ .ok (x, st') := fun st x st' e => by
                      unfold bindF at e
                      cases e0 : nameT st with
                      | error z => rw [e0] at e; cases e
                      | ok s0 =>
                        rw [e0] at e
                        simp only at e
                        cases e1 : mustF 2 [61] s0 with
                        | error z => rw [e1] at e; cases e
                        | ok s1 => rw [e1] at e; cases e
                    exact absurd h (h5 _ _ _)
                  · rename_i hk3 hk2 hki hkl
                    cases h
                    refine ⟨?_, by simp only [ExL.nodes, ExL.nodesL]; omega, a2⟩
                    have hkk := begins_kind hb
                    have hk1 : st.kind = 1 := by omega
                    have hnm : nameN st.s = true := by
                      unfold beginsF RdL.is at hb
                      rw [hk1] at hb
                      simp only [Nat.reduceEqDiff, decide_false, decide_true, Bool.false_and, Bool.false_or, Bool.true_and, Bool.or_eq_true, beq_iff_eq] at hb
                      rcases hb with (hb | hb) | hb
                      · exact absurd hb hki
                      · exact absurd hb hkl
                      · exact hb
                    simp [okE, okEs, shapeF, hnm]
        · cases h
      | succ n ih =>
        intro st x st' hk h
        rw [termF] at h
        split at h
        · rename_i hb
          cases h1 : takeF st.rest with
          | error e => rw [h1] at h; cases h
          | ok s1 =>
            rw [h1] at h
            simp only at h
            obtain ⟨a1, a2⟩ := takeF_next hk (by have := begins_kind hb; omega) h1
            split at h
            · cases h; exact ⟨by simp [okE, okEs, shapeF], by simp only [ExL.nodes, ExL.nodesL]; omega, a2⟩
            · split at h
              · obtain ⟨b1, b2, b3⟩ := exprM_kept ih (by decide) a2 h
                exact ⟨okE_mono (by omega) _ b1, by omega, b3⟩
              · split at h
                · obtain ⟨b1, b2, b3⟩ := choice_kept ih _ _ _ a2 h
                  exact ⟨okE_mono (by omega) _ b1, by omega, b3⟩
                · split at h
                  · obtain ⟨b1, b2, b3⟩ := bind_kept ih _ _ _ a2 h
                    exact ⟨okE_mono (by omega) _ b1, by omega, b3⟩
                  · rename_i hk3 hk2 hki hkl
                    cases h
                    refine ⟨?_, by simp only [ExL.nodes, ExL.nodesL]; omega, a2⟩
                    have hkk := begins_kind hb
                    have hk1 : st.kind = 1 := by omega
                    have hnm : nameN st.s = true := by
                      unfold beginsF RdL.is at hb
                      rw [hk1] at hb
                      simp only [Nat.reduceEqDiff, decide_false, decide_true, Bool.false_and, Bool.false_or, Bool.true_and, Bool.or_eq_true, beq_iff_eq] at hb
                      rcases hb with (hb | hb) | hb
                      · exact absurd hb hki
                      · exact absurd hb hkl
                      · exact hb
                    simp [okE, okEs, shapeF, hnm]
        · cases h
    exact ⟨key n, fun m e => by subst e; exact key m⟩
theorem exprF_kept {st : RdL} {x : ExL} {st' : RdL} (hk : Tk st) (hr : st.rem ≤ 4096) (h : exprF 32 st = .ok (x, st')) : goodE x = true ∧ st'.rem ≤ st.rem ∧ Tk st' := by
  obtain ⟨a, b, c⟩ := expr_kept (term_kept 31).1 st x st' hk h
  refine ⟨?_, by omega, c⟩
  unfold goodE
  rw [Bool.and_eq_true, decide_eq_true_eq]
  exact ⟨a, by omega⟩
theorem fieldK_ok (st : RdL) : 0 ≤ fieldK st ∧ fieldK st ≤ 3 ∧ (fieldK st ≠ 0 → st.kind = 1) := by
  unfold fieldK
  split
  · exact ⟨by decide, by decide, fun _ => is_kind (by assumption)⟩
  · split
    · exact ⟨by decide, by decide, fun _ => is_kind (by assumption)⟩
    · split
      · exact ⟨by decide, by decide, fun _ => is_kind (by assumption)⟩
      · exact ⟨by decide, by decide, fun h => absurd rfl h⟩
theorem fields_kept : ∀ (n : Nat) (acc : List FldL) (st : RdL) (fs : List FldL) (st' : RdL), Tk st → st.rem ≤ 4096 → acc.length ≤ 20 → acc.all goodFl = true → fieldsF n acc st = .ok (fs, st') → fs.length ≤ 20 ∧ fs.all goodFl = true
  | 0, acc, st, fs, st', _, _, hl, ha, h => by cases h; exact ⟨hl, ha⟩
  | n + 1, acc, st, fs, st', hk, hr, hl, ha, h => by
    rw [fieldsF] at h
    split at h
    · cases h; exact ⟨hl, ha⟩
    · split at h
      · cases h
      · rename_i hf
        split at h
        · cases h
        · rename_i hl2
          obtain ⟨f1, f2, f3⟩ := fieldK_ok st
          cases h1 : takeF st.rest with
          | error e => rw [h1] at h; cases h
          | ok s1 =>
            rw [h1] at h
            simp only at h
            obtain ⟨a1, a2⟩ := takeF_next hk (by rw [f3 hf]; decide) h1
            cases h2 : exprF 32 s1 with
            | error e => rw [h2] at h; cases h
            | ok z =>
              obtain ⟨a, s2⟩ := z
              rw [h2] at h
              simp only at h
              obtain ⟨b1, b2, b3⟩ := exprF_kept a2 (by omega) h2
              cases h3 : exprF 32 s2 with
              | error e => rw [h3] at h; cases h
              | ok z =>
                obtain ⟨b, s3⟩ := z
                rw [h3] at h
                simp only at h
                obtain ⟨c1, c2, c3⟩ := exprF_kept b3 (by omega) h3
                refine fields_kept n _ s3 fs st' c3 (by omega) (by rw [List.length_append]; show acc.length + 1 ≤ 20; omega) ?_ h
                rw [List.all_append, ha, List.all_cons, List.all_nil]
                unfold goodFl
                simp only [b1, c1, Bool.and_true, Bool.true_and, decide_eq_true_eq]
                omega
theorem parse_good {s : List UInt8} {r : RcpL} (h : parseF s = .ok r) : goodR r = true ∧ s.length ≤ 4096 := by
  unfold parseF at h
  split at h
  · cases h
  · rename_i hl
    refine ⟨?_, by omega⟩
    cases h0 : takeF s with
    | error e => rw [h0] at h; cases h
    | ok st =>
      rw [h0] at h
      simp only at h
      obtain ⟨z1, z2⟩ := takeF_tk h0
      cases hs : sourceF st with
      | error e => rw [hs] at h; cases h
      | ok r' =>
        rw [hs] at h
        cases h
        unfold sourceF at hs
        cases h1 : mustF 1 kPackage st with
        | error e => rw [h1] at hs; cases hs
        | ok s1 =>
          rw [h1] at hs
          simp only at hs
          obtain ⟨a1, a2⟩ := mustF_tk z2 (by decide) h1
          cases h2 : exprF 32 s1 with
          | error e => rw [h2] at hs; cases hs
          | ok z =>
            obtain ⟨a, s2⟩ := z
            rw [h2] at hs
            simp only at hs
            obtain ⟨b1, b2, b3⟩ := exprF_kept a2 (by omega) h2
            cases h3 : mustF 1 kVersion s2 with
            | error e => rw [h3] at hs; cases hs
            | ok s3 =>
              rw [h3] at hs
              simp only at hs
              obtain ⟨c1, c2⟩ := mustF_tk b3 (by decide) h3
              cases h4 : exprF 32 s3 with
              | error e => rw [h4] at hs; cases hs
              | ok z =>
                obtain ⟨b, s4⟩ := z
                rw [h4] at hs
                simp only at hs
                obtain ⟨d1, d2, d3⟩ := exprF_kept c2 (by omega) h4
                cases h5 : fieldsF (s4.rest.length + 2) [] s4 with
                | error e => rw [h5] at hs; cases hs
                | ok z =>
                  obtain ⟨fs, s5⟩ := z
                  rw [h5] at hs
                  cases hs
                  obtain ⟨e1, e2⟩ := fields_kept _ _ _ _ _ d3 (by omega) (by simp) rfl h5
                  unfold goodR
                  simp only [b1, d1, e2, decide_eq_true e1, Bool.and_true]
end Go.Proofs.YtdgcpgbknfojhaaDoor
