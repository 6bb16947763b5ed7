/- The document's Parse, in lists: step by step it is what parseF says. No condition. -/
import Derived.Test.YtdgcpgbknfojhaaDoorRcRTerm
namespace Go.Proofs.YtdgcpgbknfojhaaDoor
set_option linter.unusedVariables false
def fieldsO (m : Nat) (fs : List FldL) : StL → Except FaultL (List FldL × RdL)
  | .ok st => fieldsF m fs st
  | .error z => .error z
def fieldWs : List (List UInt8) := [kTool, kBuild, kRun]
def kU (st : RdL) : Nat → Int
  | 0 => 0
  | i + 1 => if st.is 1 (fieldWs.getD i []) = true then ((i : Int) + 1) else kU st i
theorem kU_three (st : RdL) : kU st 3 = fieldK st := by
  have h : ∀ s : List UInt8, st.is 1 s = true ↔ st.kind = 1 ∧ st.s = s := fun s => by
    unfold RdL.is
    rw [Bool.and_eq_true, decide_eq_true_eq, beq_iff_eq]
  unfold fieldK
  simp only [kU, fieldWs, List.getD_cons_zero, List.getD_cons_succ, h]
  by_cases h1 : st.kind = 1 ∧ st.s = kTool
  · rw [if_pos h1, if_pos h1, if_neg (by rw [h1.2]; rintro ⟨_, e⟩; cases e), if_neg (by rw [h1.2]; rintro ⟨_, e⟩; cases e)]; rfl
  · rw [if_neg h1, if_neg h1]
    by_cases h2 : st.kind = 1 ∧ st.s = kBuild
    · rw [if_pos h2, if_pos h2, if_neg (by rw [h2.2]; rintro ⟨_, e⟩; cases e)]; rfl
    · rw [if_neg h2, if_neg h2]; rfl
def guardO (st : RdL) (n : Nat) : StL := if fieldK st = 0 then .error (st.rem, 50) else if n = 20 then .error (st.rem, 13) else .ok st
theorem fields_step {st : RdL} {fs : List FldL} {m : Nat} (h0 : st.kind ≠ 0) (xa xb : ExL) (hA : ∀ y s, runO (exprF 32) (stepS (guardO st fs.length)) = .ok (y, s) → xa = y)
    (hB : ∀ y s, runO (exprF 32) (stO (runO (exprF 32) (stepS (guardO st fs.length)))) = .ok (y, s) → xb = y) :
    fieldsO m (fs ++ [⟨fieldK st, xa, xb⟩]) (stO (runO (exprF 32) (stO (runO (exprF 32) (stepS (guardO st fs.length)))))) = fieldsF (m + 1) fs st := by
  rw [fieldsF, if_neg h0]
  unfold guardO at hA hB ⊢
  by_cases h1 : fieldK st = 0
  · rw [if_pos h1, if_pos h1]; rfl
  rw [if_neg h1] at hA hB ⊢
  rw [if_neg h1]
  by_cases h2 : fs.length = 20
  · rw [if_pos h2, if_pos h2]; rfl
  rw [if_neg h2] at hA hB ⊢
  rw [if_neg h2]
  have e1 : stepS (.ok st) = takeF st.rest := rfl
  rw [e1] at hA hB ⊢
  cases h3 : takeF st.rest with
  | error z => rfl
  | ok s1 =>
    rw [h3] at hA hB
    have e2 : runO (exprF 32) (.ok s1) = exprF 32 s1 := rfl
    rw [e2] at hA hB ⊢
    dsimp only
    cases h4 : exprF 32 s1 with
    | error z => rfl
    | ok p =>
      obtain ⟨a, s2⟩ := p
      rw [h4] at hA hB
      have e3 := hA a s2 rfl
      subst e3
      have e4 : runO (exprF 32) (stO (.ok (xa, s2))) = exprF 32 s2 := rfl
      rw [e4] at hB ⊢
      dsimp only
      cases h5 : exprF 32 s2 with
      | error z => rfl
      | ok p =>
        obtain ⟨b, s3⟩ := p
        have e5 := hB b s3 h5
        subst e5
        rfl
theorem fields_dec {st s3 : RdL} {n : Nat} (h : stO (runO (exprF 32) (stO (runO (exprF 32) (stepS (guardO st n))))) = .ok s3) : s3.rest.length < st.rest.length ∧ n ≠ 20 := by
  unfold guardO at h
  by_cases h1 : fieldK st = 0
  · rw [if_pos h1] at h; cases h
  rw [if_neg h1] at h
  by_cases h2 : n = 20
  · rw [if_pos h2] at h; cases h
  rw [if_neg h2] at h
  refine ⟨?_, h2⟩
  have e1 : stepS (.ok st) = takeF st.rest := rfl
  rw [e1] at h
  cases h3 : takeF st.rest with
  | error z => rw [h3] at h; cases h
  | ok s1 =>
    rw [h3] at h
    have e2 : runO (exprF 32) (.ok s1) = exprF 32 s1 := rfl
    rw [e2] at h
    cases h4 : exprF 32 s1 with
    | error z => rw [h4] at h; cases h
    | ok p =>
      obtain ⟨a, s2⟩ := p
      rw [h4] at h
      have e4 : runO (exprF 32) (stO (.ok (a, s2))) = exprF 32 s2 := rfl
      rw [e4] at h
      cases h5 : exprF 32 s2 with
      | error z => rw [h5] at h; cases h
      | ok p =>
        obtain ⟨b, s4⟩ := p
        rw [h5] at h
        have e : s4 = s3 := by cases h; rfl
        subst e
        have a1 := exprW_le (term_good 32) h5
        have a2 := exprW_le (term_good 32) h4
        have a3 := takeF_le h3
        have a4 : s1.kind ≠ 0 := by
          unfold exprF exprW at h4
          cases h6 : termF 32 s1 with
          | error z => rw [h6] at h4; cases h4
          | ok z => exact (term_good 32).kind h6
        have := a3.2 a4
        omega
def finP (s : List UInt8) (a b : ExL) : Except FaultL (List FldL × RdL) → Except (Int × Int) RcpL
  | .ok x => .ok ⟨a, b, x.1⟩
  | .error x => .error (((s.length - x.1 : Nat) : Int), x.2)
def fuelO : StL → Nat
  | .ok st => st.rest.length + 2
  | .error _ => 0
theorem parse_eq {s : List UInt8} (hl : s.length ≤ 4096) (xa xb : ExL) (hA : ∀ y t, runO (exprF 32) (wantS kPackage (takeF s)) = .ok (y, t) → xa = y)
    (hT : ∀ t, stO (runO (exprF 32) (wantS kPackage (takeF s))) = .ok t → TokOk t)
    (hB : ∀ y t, runO (exprF 32) (wantS kVersion (stO (runO (exprF 32) (wantS kPackage (takeF s))))) = .ok (y, t) → xb = y) :
    parseF s = finP s xa xb (fieldsO (fuelO (stO (runO (exprF 32) (wantS kVersion (stO (runO (exprF 32) (wantS kPackage (takeF s)))))))) [] (stO (runO (exprF 32) (wantS kVersion (stO (runO (exprF 32) (wantS kPackage (takeF s)))))))) := by
  unfold parseF
  rw [if_neg (by omega)]
  cases h1 : takeF s with
  | error z => rfl
  | ok s0 =>
    rw [h1] at hA hT hB
    rw [want_word (take_ok h1).1 (by decide)] at hA hT hB ⊢
    dsimp only
    unfold sourceF
    cases h2 : mustF 1 kPackage s0 with
    | error z => rfl
    | ok s1 =>
      rw [h2] at hA hT hB
      have e2 : runO (exprF 32) (.ok s1) = exprF 32 s1 := rfl
      rw [e2] at hA hT hB ⊢
      dsimp only
      cases h3 : exprF 32 s1 with
      | error z => rfl
      | ok p =>
        obtain ⟨a, s2⟩ := p
        rw [h3] at hA hT hB
        have e3 := hA a s2 rfl
        subst e3
        have e4 : stO (.ok (xa, s2)) = .ok s2 := rfl
        rw [e4] at hT hB ⊢
        rw [want_word (hT s2 rfl) (by decide)] at hB ⊢
        dsimp only
        cases h4 : mustF 1 kVersion s2 with
        | error z => rfl
        | ok s3 =>
          rw [h4] at hB
          have e5 : runO (exprF 32) (.ok s3) = exprF 32 s3 := rfl
          rw [e5] at hB ⊢
          dsimp only
          cases h5 : exprF 32 s3 with
          | error z => rfl
          | ok p =>
            obtain ⟨b, s4⟩ := p
            have e6 := hB b s4 h5
            subst e6
            have e7 : stO (.ok (xb, s4)) = .ok s4 := rfl
            rw [e7]
            show _ = finP s xa xb (fieldsF (s4.rest.length + 2) [] s4)
            dsimp only
            cases h6 : fieldsF (s4.rest.length + 2) [] s4 with
            | error z => rfl
            | ok p => rfl
end Go.Proofs.YtdgcpgbknfojhaaDoor
