/- Two texts of the same tokens are read alike but for places, in lists. No condition. -/
import Derived.Test.YtdgcpgbknfojhaaDoorRcGoodM
namespace Go.Proofs.YtdgcpgbknfojhaaDoor
set_option linter.unusedVariables false
inductive Toks : List UInt8 → List (Nat × List UInt8) → Prop
  | nil {l : List UInt8} {st : RdL} (h : takeF l = .ok st) (h0 : st.kind = 0) : Toks l []
  | cons {l : List UInt8} {st : RdL} {ts : List (Nat × List UInt8)} (h : takeF l = .ok st) (h0 : st.kind ≠ 0) (hr : Toks st.rest ts) : Toks l ((st.kind, st.s) :: ts)
theorem toks_of {l l' : List UInt8} {ts : List (Nat × List UInt8)} (e : takeF l = takeF l') (h : Toks l' ts) : Toks l ts := by
  cases h with
  | nil h h0 => exact .nil (e.trans h) h0
  | cons h h0 hr => exact .cons (e.trans h) h0 hr
def SimL (l l' : List UInt8) : Prop := ∃ ts, Toks l ts ∧ Toks l' ts
def SimS (a b : RdL) : Prop := a.kind = b.kind ∧ a.s = b.s ∧ SimL a.rest b.rest
theorem kind_zero {l : List UInt8} {st : RdL} (h : takeF l = .ok st) (h0 : st.kind = 0) : st = ⟨0, [], 0, []⟩ := by
  have h1 : tokF (skipF false l) = .ok st := h
  generalize skipF false l = m at h1
  cases m with
  | nil => cases h1; rfl
  | cons c r =>
    rw [tokF] at h1
    split at h1
    · cases hq : quoCut (c :: r) with
      | none => rw [hq] at h1; cases h1
      | some x => rw [hq] at h1; cases h1; cases h0
    · split at h1
      · cases h1; cases h0
      · split at h1
        · cases h1; cases h0
        · cases h1
theorem sim_nil : SimL [] [] := ⟨[], .nil (st := ⟨0, [], 0, []⟩) rfl rfl, .nil (st := ⟨0, [], 0, []⟩) rfl rfl⟩
theorem sim_take {l l' : List UInt8} (h : SimL l l') : ∃ a b, takeF l = .ok a ∧ takeF l' = .ok b ∧ SimS a b := by
  obtain ⟨ts, h1, h2⟩ := h
  cases h1 with
  | nil h h0 =>
    cases h2 with
    | nil g g0 =>
      have e1 := kind_zero h h0
      have e2 := kind_zero g g0
      subst e1 e2
      exact ⟨_, _, h, g, rfl, rfl, sim_nil⟩
  | @cons _ st _ h h0 hr =>
    generalize hx : (st.kind, st.s) = x at h2
    cases h2 with
    | @cons _ st2 _ g g0 gr =>
      simp only [Prod.mk.injEq] at hx
      exact ⟨_, _, h, g, hx.1, hx.2, _, hr, gr⟩
/- results alike -/
def SimR {α : Type} (a b : Except FaultL (α × RdL)) : Prop := match a, b with
  | .ok x, .ok y => x.1 = y.1 ∧ SimS x.2 y.2
  | .error x, .error y => x.2 = y.2
  | _, _ => False
def SimT (a b : Except FaultL RdL) : Prop := match a, b with
  | .ok x, .ok y => SimS x y
  | .error x, .error y => x.2 = y.2
  | _, _ => False
theorem take_sim {l l' : List UInt8} (h : SimL l l') : SimT (takeF l) (takeF l') := by
  obtain ⟨a, b, h1, h2, h3⟩ := sim_take h
  rw [h1, h2]
  exact h3
theorem is_sim {a b : RdL} (h : SimS a b) (k : Nat) (s : List UInt8) : a.is k s = b.is k s := by unfold RdL.is; rw [h.1, h.2.1]
theorem must_sim {a b : RdL} (h : SimS a b) (k : Nat) (s : List UInt8) : SimT (mustF k s a) (mustF k s b) := by
  unfold mustF
  rw [is_sim h]
  split
  · exact take_sim h.2.2
  · exact rfl
def SimF (t : TermL) : Prop := ∀ a b, SimS a b → SimR (t a) (t b)
theorem more_fuel {t : TermL} (g : GoodT t) : ∀ (n m : Nat) (acc : List ExL) (st : RdL), st.rest.length < n → st.rest.length < m → moreF t n acc st = moreF t m acc st
  | 0, m, acc, st, h, _ => by omega
  | n + 1, 0, acc, st, _, h => by omega
  | n + 1, m + 1, acc, st, h1, h2 => by
    rw [moreF, moreF]
    split
    · cases h3 : takeF st.rest with
      | error e => rfl
      | ok s1 =>
        simp only
        cases h4 : t s1 with
        | error e => rfl
        | ok x =>
          obtain ⟨y, s2⟩ := x
          simp only
          have a := takeF_le h3
          have b := g.le h4
          have c := a.2 (g.kind h4)
          exact more_fuel g n m _ s2 (by omega) (by omega)
    · rfl
theorem more_sim {t : TermL} (ht : SimF t) : ∀ (n : Nat) (acc : List ExL) (a b : RdL), SimS a b → SimR (moreF t n acc a) (moreF t n acc b)
  | 0, acc, a, b, h => ⟨rfl, h⟩
  | n + 1, acc, a, b, h => by
    rw [moreF, moreF, is_sim h]
    split
    · obtain ⟨c, d, h1, h2, h3⟩ := sim_take h.2.2
      rw [h1, h2]
      simp only
      have h4 := ht c d h3
      cases hc : t c with
      | error x =>
        cases hd : t d with
        | error y => rw [hc, hd] at h4; exact h4
        | ok y => rw [hc, hd] at h4; exact h4.elim
      | ok x =>
        cases hd : t d with
        | error y => rw [hc, hd] at h4; exact h4.elim
        | ok y =>
          rw [hc, hd] at h4
          obtain ⟨x1, x2⟩ := x
          obtain ⟨y1, y2⟩ := y
          obtain ⟨e, h5⟩ := h4
          simp only at e h5 ⊢
          subst e
          exact more_sim ht n _ x2 y2 h5
    · exact ⟨rfl, h⟩
theorem expr_sim {t : TermL} (g : GoodT t) (ht : SimF t) : SimF (exprW t) := by
  intro a b h
  unfold exprW
  have h4 := ht a b h
  cases hc : t a with
  | error x =>
    cases hd : t b with
    | error y => rw [hc, hd] at h4; exact h4
    | ok y => rw [hc, hd] at h4; exact h4.elim
  | ok x =>
    cases hd : t b with
    | error y => rw [hc, hd] at h4; exact h4.elim
    | ok y =>
      rw [hc, hd] at h4
      obtain ⟨x1, x2⟩ := x
      obtain ⟨y1, y2⟩ := y
      obtain ⟨e, h5⟩ := h4
      simp only at e h5 ⊢
      subst e
      rw [more_fuel g (x2.rest.length + 1) (x2.rest.length + y2.rest.length + 1) _ x2 (by omega) (by omega), more_fuel g (y2.rest.length + 1) (x2.rest.length + y2.rest.length + 1) _ y2 (by omega) (by omega)]
      have h6 := more_sim ht (x2.rest.length + y2.rest.length + 1) [x1] x2 y2 h5
      cases hm : moreF t (x2.rest.length + y2.rest.length + 1) [x1] x2 with
      | error x =>
        cases hn : moreF t (x2.rest.length + y2.rest.length + 1) [x1] y2 with
        | error y => rw [hm, hn] at h6; exact h6
        | ok y => rw [hm, hn] at h6; exact h6.elim
      | ok x =>
        cases hn : moreF t (x2.rest.length + y2.rest.length + 1) [x1] y2 with
        | error y => rw [hm, hn] at h6; exact h6.elim
        | ok y =>
          rw [hm, hn] at h6
          obtain ⟨u1, u2⟩ := x
          obtain ⟨v1, v2⟩ := y
          obtain ⟨e, h7⟩ := h6
          simp only at e h7 ⊢
          subst e
          exact ⟨rfl, h7⟩
/- one reading after the other -/
theorem bind_sim {β : Type} {a b : Except FaultL (ExL × RdL)} {f : ExL → RdL → Except FaultL (β × RdL)} (h : SimR a b) (hf : ∀ x s s', SimS s s' → SimR (f x s) (f x s')) :
    SimR (match (generalizing := false) a with | .error e => .error e | .ok (x, s) => f x s) (match (generalizing := false) b with | .error e => .error e | .ok (x, s) => f x s) := by
  cases a with
  | error x =>
    cases b with
    | error y => exact h
    | ok y => exact h.elim
  | ok x =>
    cases b with
    | error y => exact h.elim
    | ok y =>
      obtain ⟨x1, x2⟩ := x
      obtain ⟨y1, y2⟩ := y
      obtain ⟨e, h5⟩ := h
      simp only at e h5 ⊢
      subst e
      exact hf x1 x2 y2 h5
theorem bindF_sim {β : Type} {a b : Except FaultL (List FldL × RdL)} {f : List FldL → RdL → Except FaultL (β × RdL)} (h : SimR a b) (hf : ∀ x s s', SimS s s' → SimR (f x s) (f x s')) :
    SimR (match (generalizing := false) a with | .error e => .error e | .ok (x, s) => f x s) (match (generalizing := false) b with | .error e => .error e | .ok (x, s) => f x s) := by
  cases a with
  | error x =>
    cases b with
    | error y => exact h
    | ok y => exact h.elim
  | ok x =>
    cases b with
    | error y => exact h.elim
    | ok y =>
      obtain ⟨x1, x2⟩ := x
      obtain ⟨y1, y2⟩ := y
      obtain ⟨e, h5⟩ := h
      simp only at e h5 ⊢
      subst e
      exact hf x1 x2 y2 h5
theorem bindT_sim {β : Type} {a b : Except FaultL RdL} {f : RdL → Except FaultL (β × RdL)} (h : SimT a b) (hf : ∀ s s', SimS s s' → SimR (f s) (f s')) :
    SimR (match (generalizing := false) a with | .error e => .error e | .ok s => f s) (match (generalizing := false) b with | .error e => .error e | .ok s => f s) := by
  cases a with
  | error x =>
    cases b with
    | error y => exact h
    | ok y => exact h.elim
  | ok x =>
    cases b with
    | error y => exact h.elim
    | ok y => exact hf x y h
theorem exprM_sim {t : TermL} (g : GoodT t) (ht : SimF t) (k : Nat) (s : List UInt8) : SimF (exprM t k s) := by
  intro a b h
  unfold exprM
  exact bind_sim (f := fun x s1 => match mustF k s s1 with | .error e => .error e | .ok st2 => .ok (x, st2)) (expr_sim g ht a b h) fun x s1 s2 h1 => bindT_sim (f := fun st2 => .ok (x, st2)) (must_sim h1 k s) fun _ _ h2 => ⟨rfl, h2⟩
theorem choice_sim {t : TermL} (g : GoodT t) (ht : SimF t) : SimF (choiceF t) := by
  intro a b h
  unfold choiceF
  refine bind_sim (f := fun a s1 => match exprM t 1 kThen s1 with | .error e => .error e | .ok (b, s2) => match exprM t 1 kElse s2 with | .error e => .error e | .ok (c, s3) => match exprW t s3 with | .error e => .error e | .ok (d, s4) => .ok (ExL.mk 4 [] [a, b, c, d], s4)) (exprM_sim g ht _ _ a b h) fun x s1 s1' h1 => ?_
  refine bind_sim (f := fun b s2 => match exprM t 1 kElse s2 with | .error e => .error e | .ok (c, s3) => match exprW t s3 with | .error e => .error e | .ok (d, s4) => .ok (ExL.mk 4 [] [x, b, c, d], s4)) (exprM_sim g ht _ _ _ _ h1) fun y s2 s2' h2 => ?_
  refine bind_sim (f := fun c s3 => match exprW t s3 with | .error e => .error e | .ok (d, s4) => .ok (ExL.mk 4 [] [x, y, c, d], s4)) (exprM_sim g ht _ _ _ _ h2) fun z s3 s3' h3 => ?_
  exact bind_sim (f := fun d s4 => .ok (ExL.mk 4 [] [x, y, z, d], s4)) (expr_sim g ht _ _ h3) fun u s4 s4' h4 => ⟨rfl, h4⟩
theorem nameT_sim {a b : RdL} (h : SimS a b) : SimT (nameT a) (nameT b) := by
  unfold nameT
  rw [h.1, h.2.1]
  split
  · exact rfl
  · exact take_sim h.2.2
theorem let_sim {t : TermL} (g : GoodT t) (ht : SimF t) : SimF (bindF t) := by
  intro a b h
  unfold bindF
  rw [h.2.1]
  refine bindT_sim (f := fun s0 => match mustF 2 [61] s0 with | .error e => .error e | .ok s1 => match exprM t 1 kIn s1 with | .error e => .error e | .ok (a, s2) => match exprW t s2 with | .error e => .error e | .ok (x, s3) => .ok (ExL.mk 5 b.s [a, x], s3)) (nameT_sim h) fun s0 s0' h0 => ?_
  refine bindT_sim (f := fun s1 => match exprM t 1 kIn s1 with | .error e => .error e | .ok (a, s2) => match exprW t s2 with | .error e => .error e | .ok (x, s3) => .ok (ExL.mk 5 b.s [a, x], s3)) (must_sim h0 _ _) fun s1 s1' h1 => ?_
  refine bind_sim (f := fun a s2 => match exprW t s2 with | .error e => .error e | .ok (x, s3) => .ok (ExL.mk 5 b.s [a, x], s3)) (exprM_sim g ht _ _ _ _ h1) fun x s2 s2' h2 => ?_
  exact bind_sim (f := fun y s3 => .ok (ExL.mk 5 b.s [x, y], s3)) (expr_sim g ht _ _ h2) fun y s3 s3' h3 => ⟨rfl, h3⟩
theorem begins_sim {a b : RdL} (h : SimS a b) : beginsF a = beginsF b := by unfold beginsF; rw [is_sim h, is_sim h, is_sim h, h.1, h.2.1]
theorem term_sim : ∀ d, SimF (termF d)
  | 0 => by
    intro a b h
    show (if beginsF a = true then (4 : Int) else 50) = if beginsF b = true then 4 else 50
    rw [begins_sim h]
  | d + 1 => by
    intro a b h
    have ih := term_sim d
    have g := term_good d
    rw [termF, termF, begins_sim h]
    split
    · refine bindT_sim (f := fun s1 => if a.kind = 3 then .ok (ExL.mk 1 a.s [], s1) else if a.kind = 2 then exprM (termF d) 2 [41] s1 else if a.s = kIf then choiceF (termF d) s1 else if a.s = kLet then bindF (termF d) s1 else .ok (ExL.mk 2 a.s [], s1)) (take_sim h.2.2) (fun s s' h1 => ?_) |> fun hh => by rw [← h.1, ← h.2.1]; exact hh
      split
      · exact ⟨rfl, h1⟩
      · split
        · exact exprM_sim g ih _ _ _ _ h1
        · split
          · exact choice_sim g ih _ _ h1
          · split
            · exact let_sim g ih _ _ h1
            · exact ⟨rfl, h1⟩
    · exact rfl
theorem exprF_sim : SimF (exprF 32) := expr_sim (term_good 32) (term_sim 32)
theorem fieldK_sim {a b : RdL} (h : SimS a b) : fieldK a = fieldK b := by unfold fieldK; rw [is_sim h, is_sim h, is_sim h]
theorem fields_fuel : ∀ (n m : Nat) (acc : List FldL) (st : RdL), st.rest.length + 1 < n → st.rest.length + 1 < m → fieldsF n acc st = fieldsF m acc st
  | 0, m, acc, st, h, _ => by omega
  | n + 1, 0, acc, st, _, h => by omega
  | n + 1, m + 1, acc, st, h1, h2 => by
    rw [fieldsF, fieldsF]
    split
    · rfl
    · split
      · rfl
      · split
        · rfl
        · cases h3 : takeF st.rest with
          | error e => rfl
          | ok s1 =>
            simp only
            cases h4 : exprF 32 s1 with
            | error e => rfl
            | ok x =>
              obtain ⟨y, s2⟩ := x
              simp only
              cases h5 : exprF 32 s2 with
              | error e => rfl
              | ok x =>
                obtain ⟨z, s3⟩ := x
                simp only
                have a1 := exprW_le (term_good 32) h5
                have a2 := exprW_le (term_good 32) h4
                have a3 := takeF_le h3
                have a4 : s1.kind ≠ 0 := by
                  unfold exprF exprW at h4
                  cases h6 : termF 32 s1 with
                  | error z => rw [h6] at h4; cases h4
                  | ok z => exact (term_good 32).kind h6
                have := a3.2 a4
                exact fields_fuel n m _ s3 (by omega) (by omega)
theorem fields_sim : ∀ (n : Nat) (acc : List FldL) (a b : RdL), SimS a b → SimR (fieldsF n acc a) (fieldsF n acc b)
  | 0, acc, a, b, h => ⟨rfl, h⟩
  | n + 1, acc, a, b, h => by
    rw [fieldsF, fieldsF, fieldK_sim h, h.1]
    split
    · exact ⟨rfl, h⟩
    · split
      · exact rfl
      · split
        · exact rfl
        · refine bindT_sim (f := fun s1 => match exprF 32 s1 with | .error e => .error e | .ok (x, s2) => match exprF 32 s2 with | .error e => .error e | .ok (y, s3) => fieldsF n (acc ++ [⟨fieldK b, x, y⟩]) s3) (take_sim h.2.2) fun s1 s1' h1 => ?_
          refine bind_sim (f := fun x s2 => match exprF 32 s2 with | .error e => .error e | .ok (y, s3) => fieldsF n (acc ++ [⟨fieldK b, x, y⟩]) s3) (exprF_sim _ _ h1) fun x s2 s2' h2 => ?_
          exact bind_sim (f := fun y s3 => fieldsF n (acc ++ [⟨fieldK b, x, y⟩]) s3) (exprF_sim _ _ h2) fun y s3 s3' h3 => fields_sim n _ _ _ h3
/- the two texts' recipes, or their faults -/
def SimP (a b : Except (Int × Int) RcpL) : Prop := match a, b with
  | .ok x, .ok y => x = y
  | .error x, .error y => x.2 = y.2
  | _, _ => False
def srcS (st : RdL) : Except FaultL (RcpL × RdL) := match mustF 1 kPackage st with
  | .error e => .error e
  | .ok s1 => match exprF 32 s1 with
    | .error e => .error e
    | .ok (a, s2) => match mustF 1 kVersion s2 with
      | .error e => .error e
      | .ok s3 => match exprF 32 s3 with
        | .error e => .error e
        | .ok (b, s4) => match fieldsF (s4.rest.length + 2) [] s4 with
          | .error e => .error e
          | .ok (fs, s5) => .ok (RcpL.mk a b fs, s5)
theorem src_sim : ∀ a b, SimS a b → SimR (srcS a) (srcS b) := by
  intro a b h
  unfold srcS
  refine bindT_sim (f := fun s1 => match exprF 32 s1 with | .error e => .error e | .ok (a, s2) => match mustF 1 kVersion s2 with | .error e => .error e | .ok s3 => match exprF 32 s3 with | .error e => .error e | .ok (b, s4) => match fieldsF (s4.rest.length + 2) [] s4 with | .error e => .error e | .ok (fs, s5) => .ok (RcpL.mk a b fs, s5)) (must_sim h _ _) fun s1 s1' h1 => ?_
  refine bind_sim (f := fun a s2 => match mustF 1 kVersion s2 with | .error e => .error e | .ok s3 => match exprF 32 s3 with | .error e => .error e | .ok (b, s4) => match fieldsF (s4.rest.length + 2) [] s4 with | .error e => .error e | .ok (fs, s5) => .ok (RcpL.mk a b fs, s5)) (exprF_sim _ _ h1) fun x s2 s2' h2 => ?_
  refine bindT_sim (f := fun s3 => match exprF 32 s3 with | .error e => .error e | .ok (b, s4) => match fieldsF (s4.rest.length + 2) [] s4 with | .error e => .error e | .ok (fs, s5) => .ok (RcpL.mk x b fs, s5)) (must_sim h2 _ _) fun s3 s3' h3 => ?_
  refine bind_sim (f := fun b s4 => match fieldsF (s4.rest.length + 2) [] s4 with | .error e => .error e | .ok (fs, s5) => .ok (RcpL.mk x b fs, s5)) (exprF_sim _ _ h3) fun y s4 s4' h4 => ?_
  rw [fields_fuel (s4.rest.length + 2) (s4.rest.length + s4'.rest.length + 2) _ s4 (by omega) (by omega), fields_fuel (s4'.rest.length + 2) (s4.rest.length + s4'.rest.length + 2) _ s4' (by omega) (by omega)]
  exact bindF_sim (f := fun fs s5 => .ok (RcpL.mk x y fs, s5)) (fields_sim _ _ _ _ h4) fun z s5 s5' h5 => ⟨rfl, h5⟩
theorem src_srcS (st : RdL) : sourceF st = match srcS st with | .error e => .error e | .ok (r, _) => .ok r := by
  unfold sourceF srcS
  cases mustF 1 kPackage st with
  | error e => rfl
  | ok s1 =>
    simp only
    cases exprF 32 s1 with
    | error e => rfl
    | ok p =>
      obtain ⟨a, s2⟩ := p
      simp only
      cases mustF 1 kVersion s2 with
      | error e => rfl
      | ok s3 =>
        simp only
        cases exprF 32 s3 with
        | error e => rfl
        | ok p =>
          obtain ⟨b, s4⟩ := p
          simp only
          cases fieldsF (s4.rest.length + 2) [] s4 with
          | error e => rfl
          | ok p => rfl
theorem parse_sim {s o : List UInt8} {ts : List (Nat × List UInt8)} (h1 : Toks s ts) (h2 : Toks o ts) (hs : s.length ≤ 4096) (ho : o.length ≤ 4096) : SimP (parseF s) (parseF o) := by
  obtain ⟨a, b, e1, e2, h3⟩ := sim_take ⟨ts, h1, h2⟩
  unfold parseF
  rw [if_neg (by omega), if_neg (by omega), e1, e2]
  simp only
  rw [src_srcS, src_srcS]
  have h4 := src_sim a b h3
  cases hc : srcS a with
  | error x =>
    cases hd : srcS b with
    | error y => rw [hc, hd] at h4; exact h4
    | ok y => rw [hc, hd] at h4; exact h4.elim
  | ok x =>
    cases hd : srcS b with
    | error y => rw [hc, hd] at h4; exact h4.elim
    | ok y =>
      rw [hc, hd] at h4
      exact h4.1
theorem skip_idem : ∀ (l : List UInt8) (n : Bool), skipF false (skipF n l) = skipF n l
  | [], n => by cases n <;> rfl
  | c :: r, n => by
    rw [skipF]
    split
    · exact skip_idem r _
    · rename_i h
      exact skip_stop _ fun e => h (.inr e)
theorem List.mem_takeWhile_imp' {p : UInt8 → Bool} : ∀ {l : List UInt8} {x : UInt8}, x ∈ l.takeWhile p → p x = true
  | [], x, h => by simp at h
  | c :: l, x, h => by
    rw [List.takeWhile_cons] at h
    split at h
    · rename_i hc
      rcases List.mem_cons.1 h with rfl | h
      · exact hc
      · exact List.mem_takeWhile_imp' h
    · simp at h
/- a token's own bytes are read as it, whatever stands behind that is no word's -/
theorem raw_tok {l : List UInt8} {st : RdL} (h : tokF l = .ok st) (h0 : st.kind ≠ 0) : ∃ raw, l = raw ++ st.rest ∧ raw ≠ [] ∧ (∀ r, skipF false (raw ++ r) = raw ++ r ∨ True) ∧ ∀ r, HeadOk r → ∃ n, tokF (raw ++ r) = .ok ⟨st.kind, st.s, n, r⟩ := by
  cases l with
  | nil => cases h; exact absurd rfl h0
  | cons c r0 =>
    rw [tokF] at h
    split at h
    · rename_i hc
      cases hq : quoCut (c :: r0) with
      | none => rw [hq] at h; cases h
      | some x =>
        obtain ⟨t, b⟩ := x
        rw [hq] at h
        cases h
        rw [quoCut_cons, if_neg (by simp [hc])] at hq
        obtain ⟨i, e1, e2⟩ := cutR_some _ _ _ _ (Nat.le_refl _) hq
        refine ⟨c :: (i ++ [34]), by rw [e1]; simp, by simp, fun _ => .inr trivial, fun r hr => ⟨(c :: (i ++ [34]) ++ r).length, ?_⟩⟩
        have e3 : c :: (i ++ [34]) ++ r = c :: (i ++ 34 :: r) := by simp
        rw [e3, tokF, if_pos hc, quoCut_cons, if_neg (by simp [hc]), cutR_inner _ _ _ r (Nat.le_refl _) e2]
    · rename_i hc
      split at h
      · rename_i hs
        cases h
        refine ⟨[c], rfl, by simp, fun _ => .inr trivial, fun r hr => ⟨(c :: r).length, ?_⟩⟩
        show tokF (c :: r) = _
        rw [tokF, if_neg hc, if_pos hs]
      · rename_i hs
        split at h
        · rename_i hw
          cases h
          refine ⟨(c :: r0).takeWhile wordC, (List.takeWhile_append_dropWhile).symm, ?_, fun _ => .inr trivial, fun r hr => ?_⟩
          · rw [List.takeWhile_cons, hw]; simp
          · have ha : ((c :: r0).takeWhile wordC).all wordC = true := by
              rw [List.all_eq_true]
              intro x hx
              exact List.mem_takeWhile_imp' hx
            obtain ⟨h1, h2⟩ := takeW_app ha hr
            have hcons : ∃ m, (c :: r0).takeWhile wordC = c :: m := by rw [List.takeWhile_cons, hw]; exact ⟨_, rfl⟩
            obtain ⟨m, hm⟩ := hcons
            rw [hm] at h1 h2 ⊢
            refine ⟨(c :: m ++ r).length, ?_⟩
            rw [List.cons_append] at h1 h2 ⊢
            rw [tok_word hw, h1, h2]
        · cases h
theorem skip_tok {l : List UInt8} {st : RdL} (h : takeF l = .ok st) (h0 : st.kind ≠ 0) : ∃ raw, skipF false l = raw ++ st.rest ∧ raw ≠ [] ∧ ∀ r, HeadOk r → ∃ n, takeF (raw ++ r) = .ok ⟨st.kind, st.s, n, r⟩ := by
  obtain ⟨raw, h1, h2, _, h3⟩ := raw_tok (show tokF (skipF false l) = .ok st from h) h0
  refine ⟨raw, h1, h2, fun r hr => ?_⟩
  obtain ⟨n, h4⟩ := h3 r hr
  refine ⟨n, ?_⟩
  have hs : ∀ x, skipF false (raw ++ x) = raw ++ x := by
    intro x
    obtain ⟨c, m, rfl⟩ : ∃ c m, raw = c :: m := by
      cases raw with
      | nil => exact absurd rfl h2
      | cons c m => exact ⟨c, m, rfl⟩
    rw [List.cons_append]
    refine skip_stop _ (fun hc => ?_)
    have h5 : skipF false (skipF false l) = skipF false l := skip_idem l false
    rw [h1, List.cons_append, skipF, if_pos (.inr hc)] at h5
    have := (skipF_suffix (m ++ st.rest) (decide (c.toNat = 35) || (false && decide (c.toNat ≠ 10)))).length_le
    rw [h5] at this
    simp at this
    omega
  unfold takeF
  rw [hs, h4]
end Go.Proofs.YtdgcpgbknfojhaaDoor
