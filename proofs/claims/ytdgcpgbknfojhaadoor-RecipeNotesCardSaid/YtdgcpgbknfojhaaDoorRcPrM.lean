/- Recipes as texts, in lists: what is printed is read as it is, or too deep. No condition. -/
import Derived.Test.YtdgcpgbknfojhaaDoorRcLen
namespace Go.Proofs.YtdgcpgbknfojhaaDoor
set_option linter.unusedVariables false
/- what an expression must be -/
def shapeF (k : Int) (s : List UInt8) (n : Nat) : Bool :=
  if k = 1 then decide (n = 0) else if k = 2 then decide (n = 0) && nameN s else if k = 3 then decide (2 ≤ n) && decide (s = []) else if k = 4 then decide (n = 4) && decide (s = []) else if k = 5 then decide (n = 2) && nameN s else false
mutual
def okE : Nat → ExL → Bool
  | d, .mk k s ks => decide (0 < d) && shapeF k s ks.length && okEs (d - 1) ks
def okEs : Nat → List ExL → Bool
  | _, [] => true
  | d, k :: r => okE d k && okEs d r
end
mutual
def ExL.nodes : ExL → Nat
  | .mk _ _ ks => 1 + ExL.nodesL ks
def ExL.nodesL : List ExL → Nat
  | [] => 0
  | k :: r => k.nodes + ExL.nodesL r
end
def goodE (x : ExL) : Bool := okE 64 x && decide (x.nodes ≤ 4096)
def goodFl (f : FldL) : Bool := decide (1 ≤ f.kind ∧ f.kind ≤ 3) && goodE f.name && goodE f.range
def goodR (r : RcpL) : Bool := decide (r.fields.length ≤ 20) && goodE r.name && goodE r.version && r.fields.all goodFl
/- texts -/
def parT (k : Int) (t : List UInt8) : List UInt8 := if k = 1 ∨ k = 2 then t else 40 :: (t ++ [41])
def plusT (t : Int × List UInt8) : List UInt8 := 32 :: 43 :: 32 :: parT t.1 t.2
def asmX (k : Int) (s : List UInt8) (ts : List (Int × List UInt8)) : List UInt8 :=
  if k = 1 then quoF s else if k = 2 then s
  else if k = 3 then (match ts with
    | [] => []
    | t :: r => parT t.1 t.2 ++ (r.map plusT).flatten)
  else if k = 4 then (match ts with
    | [a, b, c, d] => kIf ++ 32 :: (a.2 ++ 32 :: 61 :: 32 :: (b.2 ++ 32 :: (kThen ++ 32 :: (c.2 ++ 32 :: (kElse ++ 32 :: d.2)))))
    | _ => [])
  else if k = 5 then (match ts with
    | [a, b] => kLet ++ 32 :: (s ++ 32 :: 61 :: 32 :: (a.2 ++ 32 :: (kIn ++ 32 :: b.2)))
    | _ => [])
  else []
mutual
def textX : ExL → List UInt8
  | .mk k s ks => asmX k s (textsX ks)
def textsX : List ExL → List (Int × List UInt8)
  | [] => []
  | x :: r => (x.kind, textX x) :: textsX r
end
def wordK (k : Int) : List UInt8 := if k = 1 then kTool else if k = 2 then kBuild else if k = 3 then kRun else []
def fieldT (f : FldL) : List UInt8 := wordK f.kind ++ 32 :: (textX f.name ++ 32 :: (textX f.range ++ [10]))
def printS (r : RcpL) : List UInt8 := kPackage ++ 32 :: (textX r.name ++ 10 :: (kVersion ++ 32 :: (textX r.version ++ 10 :: (r.fields.map fieldT).flatten)))
def printF (r : RcpL) : Except Int (List UInt8) := if goodR r = true then (if 4096 < (printS r).length then .error 3 else .ok (printS r)) else .error 1
/- tokens of a text -/
def HeadOk (r : List UInt8) : Prop := ∀ c l, r = c :: l → wordC c = false
theorem headOk_cons {c : UInt8} {l : List UInt8} (h : wordC c = false) : HeadOk (c :: l) := by
  intro c' l' e
  cases e
  exact h
theorem tk_blank (l : List UInt8) : takeF (32 :: l) = takeF l := by
  unfold takeF
  rw [skipF, if_pos (by decide)]
  rfl
theorem tk_feed (l : List UInt8) : takeF (10 :: l) = takeF l := by
  unfold takeF
  rw [skipF, if_pos (by decide)]
  rfl
theorem skip_stop {c : UInt8} (l : List UInt8) (h : ¬ (c.toNat = 32 ∨ c.toNat = 10 ∨ c.toNat = 9 ∨ c.toNat = 35)) : skipF false (c :: l) = c :: l := by
  rw [skipF, if_neg (by rintro (e | e); cases e; exact h e)]
theorem takeW_app {w r : List UInt8} (hw : w.all wordC = true) (hr : HeadOk r) : (w ++ r).takeWhile wordC = w ∧ (w ++ r).dropWhile wordC = r := by
  have h1 : ∀ a ∈ w, wordC a = true := List.all_eq_true.1 hw
  have h2 : r.takeWhile wordC = [] ∧ r.dropWhile wordC = r := by
    cases r with
    | nil => exact ⟨rfl, rfl⟩
    | cons c l => rw [List.takeWhile_cons, List.dropWhile_cons, hr c l rfl]; exact ⟨rfl, rfl⟩
  rw [List.takeWhile_append_of_pos h1, List.dropWhile_append_of_pos h1, h2.1, h2.2, List.append_nil]
  exact ⟨rfl, rfl⟩
theorem word_stop {c : UInt8} (h : wordC c = true) : ¬ (c.toNat = 32 ∨ c.toNat = 10 ∨ c.toNat = 9 ∨ c.toNat = 35) := by
  unfold wordC at h
  simp only [Bool.or_eq_true, decide_eq_true_eq] at h
  omega
theorem sign_stop {c : UInt8} (h : signC c = true) : ¬ (c.toNat = 32 ∨ c.toNat = 10 ∨ c.toNat = 9 ∨ c.toNat = 35) := by
  unfold signC at h
  simp only [Bool.or_eq_true, decide_eq_true_eq] at h
  omega
theorem tk_word {w r : List UInt8} (h0 : w ≠ []) (hw : w.all wordC = true) (hr : HeadOk r) : ∃ n, takeF (w ++ r) = .ok ⟨1, w, n, r⟩ := by
  obtain ⟨h1, h2⟩ := takeW_app hw hr
  cases w with
  | nil => exact absurd rfl h0
  | cons c l =>
    have hc : wordC c = true := by rw [List.all_cons, Bool.and_eq_true] at hw; exact hw.1
    refine ⟨(c :: l ++ r).length, ?_⟩
    unfold takeF
    rw [List.cons_append] at h1 h2 ⊢
    rw [skip_stop _ (word_stop hc), tok_word hc, h1, h2]
theorem tk_sign {c : UInt8} {r : List UInt8} (h : signC c = true) : ∃ n, takeF (c :: r) = .ok ⟨2, [c], n, r⟩ := by
  refine ⟨(c :: r).length, ?_⟩
  unfold takeF
  rw [skip_stop _ (sign_stop h), tok_sign h]
theorem tk_text (s r : List UInt8) : ∃ n, takeF (quoF s ++ r) = .ok ⟨3, s, n, r⟩ := by
  refine ⟨(quoF s ++ r).length, ?_⟩
  unfold takeF quoF
  rw [List.cons_append, List.cons_append, skip_stop _ (by decide), tokF, if_pos (by decide), quoCut_cons, if_neg (by decide)]
  have := cutR_inner _ _ _ r (Nat.le_refl _) (inner_quo s)
  rw [List.append_assoc, List.cons_append, List.nil_append, this]
/- read, or too deep -/
def OrDeep {α : Type} (o : Except FaultL α) (v : α) : Prop := o = .ok v ∨ ∃ n, o = .error (n, 4)
def NoPlus (st : RdL) : Prop := st.is 2 [43] = false
theorem noPlus_kind {st : RdL} (h : st.kind ≠ 2) : NoPlus st := by
  unfold NoPlus RdL.is
  rw [decide_eq_false h, Bool.false_and]
theorem noPlus0 {s : List UInt8} {n : Nat} {r : List UInt8} : NoPlus ⟨0, s, n, r⟩ := noPlus_kind (show (0 : Nat) ≠ 2 by decide)
theorem noPlus1 {s : List UInt8} {n : Nat} {r : List UInt8} : NoPlus ⟨1, s, n, r⟩ := noPlus_kind (show (1 : Nat) ≠ 2 by decide)
theorem noPlusE {n : Nat} {r : List UInt8} : NoPlus ⟨2, [61], n, r⟩ := by unfold NoPlus; rfl
theorem noPlus3 {s : List UInt8} {n : Nat} {r : List UInt8} : NoPlus ⟨3, s, n, r⟩ := noPlus_kind (show (3 : Nat) ≠ 2 by decide)
theorem must_rd {k : Nat} {s r : List UInt8} {n : Nat} {st st' : RdL} (h : takeF r = .ok st') (hs : st = ⟨k, s, n, r⟩) : mustF k s st = .ok st' := by
  subst hs
  unfold mustF RdL.is
  rw [if_pos (by simp)]
  exact h
theorem exprM_rd {t : TermL} {k : Nat} {s : List UInt8} {st st1 st2 : RdL} {x : ExL} (h : OrDeep (exprW t st) (x, st1)) (hm : mustF k s st1 = .ok st2) : OrDeep (exprM t k s st) (x, st2) := by
  unfold exprM
  rcases h with h | ⟨n, h⟩
  · rw [h]
    simp only
    rw [hm]
    exact .inl rfl
  · rw [h]
    exact .inr ⟨n, rfl⟩
def ReadA (x : ExL) : Prop := ∀ (d : Nat) (r : List UInt8) (st' : RdL), HeadOk r → takeF r = .ok st' → NoPlus st' → ∃ st0, takeF (textX x ++ r) = .ok st0 ∧ NoPlus st0 ∧ OrDeep (exprW (termF d) st0) (x, st')
def ReadB (x : ExL) : Prop := ∀ (d : Nat) (r : List UInt8) (st' : RdL), HeadOk r → takeF r = .ok st' → ∃ st0, takeF (parT x.kind (textX x) ++ r) = .ok st0 ∧ NoPlus st0 ∧ OrDeep (termF d st0) (x, st')
def ReadC (x : ExL) : Prop := ∀ (d : Nat) (r : List UInt8) (st' : RdL), HeadOk r → takeF r = .ok st' → NoPlus st' → ∃ st0, takeF (textX x ++ r) = .ok st0 ∧ NoPlus st0 ∧ OrDeep (termF d st0) (x, st')
theorem A_of_C {x : ExL} (h : ReadC x) : ReadA x := by
  intro d r st' hr ht hp
  obtain ⟨st0, h1, h2, h3⟩ := h d r st' hr ht hp
  refine ⟨st0, h1, h2, ?_⟩
  unfold exprW
  rcases h3 with h3 | ⟨n, h3⟩
  · rw [h3]
    simp only
    rw [moreF, if_neg (by rw [show st'.is 2 [43] = false from hp]; decide)]
    exact .inl rfl
  · rw [h3]
    exact .inr ⟨n, rfl⟩
theorem B_of_A {x : ExL} (h : ReadA x) (hk : ¬ (x.kind = 1 ∨ x.kind = 2)) : ReadB x := by
  intro d r st' hr ht
  obtain ⟨n, hs⟩ := tk_sign (c := 40) (r := textX x ++ 41 :: r) (by decide)
  have e : parT x.kind (textX x) ++ r = 40 :: (textX x ++ 41 :: r) := by unfold parT; rw [if_neg hk]; simp
  rw [e]
  refine ⟨_, hs, rfl, ?_⟩
  obtain ⟨m, hc⟩ := tk_sign (c := 41) (r := r) (by decide)
  cases d with
  | zero => exact .inr ⟨n, rfl⟩
  | succ d =>
    obtain ⟨s1, h1, _, h2⟩ := h d (41 :: r) _ (headOk_cons (by decide)) hc rfl
    rw [termF, if_pos (by rfl)]
    simp only
    rw [h1]
    simp only
    rw [if_neg (by decide), if_pos trivial]
    exact exprM_rd h2 (must_rd ht rfl)
theorem name_parts {s : List UInt8} (h : nameN s = true) : s ≠ [] ∧ s.all wordC = true ∧ keyF s = false := by
  unfold nameN at h
  simp only [Bool.and_eq_true, decide_eq_true_eq, Bool.not_eq_true'] at h
  exact ⟨h.1.1.1.1, h.1.2, h.2⟩
theorem C_text (s : List UInt8) : ReadC (.mk 1 s []) ∧ ReadB (.mk 1 s []) := by
  have h : ∀ (d : Nat) (r : List UInt8) (st' : RdL), takeF r = .ok st' → ∃ st0, takeF (quoF s ++ r) = .ok st0 ∧ NoPlus st0 ∧ OrDeep (termF d st0) (.mk 1 s [], st') := by
    intro d r st' ht
    obtain ⟨n, hs⟩ := tk_text s r
    refine ⟨_, hs, noPlus3, ?_⟩
    cases d with
    | zero => exact .inr ⟨n, rfl⟩
    | succ d =>
      rw [termF, if_pos (by rfl)]
      simp only
      rw [ht]
      simp only
      rw [if_pos trivial]
      exact .inl rfl
  exact ⟨fun d r st' _ ht _ => h d r st' ht, fun d r st' _ ht => h d r st' ht⟩
theorem begins_name {s r : List UInt8} {n : Nat} (h : nameN s = true) : beginsF ⟨1, s, n, r⟩ = true := by
  unfold beginsF
  simp [h]
theorem key_ne {s k : List UInt8} (h : keyF s = false) (hk : k ∈ keyL) : s ≠ k := by
  intro e
  unfold keyF at h
  have := List.any_eq_false.1 h k hk
  rw [e] at this
  simp at this
theorem C_name {s : List UInt8} (hn : nameN s = true) : ReadC (.mk 2 s []) ∧ ReadB (.mk 2 s []) := by
  obtain ⟨a, b, c⟩ := name_parts hn
  have h : ∀ (d : Nat) (r : List UInt8) (st' : RdL), HeadOk r → takeF r = .ok st' → ∃ st0, takeF (s ++ r) = .ok st0 ∧ NoPlus st0 ∧ OrDeep (termF d st0) (.mk 2 s [], st') := by
    intro d r st' hr ht
    obtain ⟨n, hs⟩ := tk_word a b hr
    refine ⟨_, hs, noPlus1, ?_⟩
    cases d with
    | zero =>
      rw [termF, if_pos (begins_name hn)]
      exact .inr ⟨n, rfl⟩
    | succ d =>
      rw [termF, if_pos (begins_name hn)]
      simp only
      rw [ht]
      simp only
      rw [if_neg (by decide), if_neg (by decide), if_neg (key_ne c (by decide)), if_neg (key_ne c (by decide))]
      exact .inl rfl
  exact ⟨fun d r st' hr ht _ => h d r st' hr ht, fun d r st' hr ht => h d r st' hr ht⟩
theorem C_if {a b c e : ExL} (ha : ReadA a) (hb : ReadA b) (hc : ReadA c) (he : ReadA e) : ReadC (.mk 4 [] [a, b, c, e]) := by
  intro d r st' hr ht hp
  have ex : textX (.mk 4 [] [a, b, c, e]) ++ r = kIf ++ (32 :: (textX a ++ (32 :: 61 :: 32 :: (textX b ++ (32 :: (kThen ++ (32 :: (textX c ++ (32 :: (kElse ++ (32 :: (textX e ++ r))))))))))))  := by
    show (kIf ++ 32 :: (textX a ++ 32 :: 61 :: 32 :: (textX b ++ 32 :: (kThen ++ 32 :: (textX c ++ 32 :: (kElse ++ 32 :: textX e)))))) ++ r = _
    simp only [List.append_assoc, List.cons_append]
  rw [ex]
  obtain ⟨n, hs⟩ := tk_word (w := kIf) (r := 32 :: (textX a ++ (32 :: 61 :: 32 :: (textX b ++ (32 :: (kThen ++ (32 :: (textX c ++ (32 :: (kElse ++ (32 :: (textX e ++ r)))))))))))) (by decide) (by decide) (headOk_cons (by decide))
  refine ⟨_, hs, noPlus1, ?_⟩
  cases d with
  | zero => exact .inr ⟨n, rfl⟩
  | succ d =>
    have hW : ∀ l : List UInt8, HeadOk (32 :: l) := fun l => headOk_cons (by decide)
    obtain ⟨s4, he1, he2, he3⟩ := he d r st' hr ht hp
    obtain ⟨n3, w3⟩ := tk_word (w := kElse) (r := 32 :: (textX e ++ r)) (by decide) (by decide) (hW _)
    obtain ⟨s3, hc1, hc2, hc3⟩ := hc d (32 :: (kElse ++ (32 :: (textX e ++ r)))) _ (hW _) (by rw [tk_blank]; exact w3) (noPlus1)
    obtain ⟨n2, w2⟩ := tk_word (w := kThen) (r := 32 :: (textX c ++ (32 :: (kElse ++ (32 :: (textX e ++ r)))))) (by decide) (by decide) (hW _)
    obtain ⟨s2, hb1, hb2, hb3⟩ := hb d (32 :: (kThen ++ (32 :: (textX c ++ (32 :: (kElse ++ (32 :: (textX e ++ r)))))))) _ (hW _) (by rw [tk_blank]; exact w2) (noPlus1)
    obtain ⟨n1, w1⟩ := tk_sign (c := 61) (r := 32 :: (textX b ++ (32 :: (kThen ++ (32 :: (textX c ++ (32 :: (kElse ++ (32 :: (textX e ++ r))))))))) ) (by decide)
    obtain ⟨s1, ha1, ha2, ha3⟩ := ha d (32 :: 61 :: 32 :: (textX b ++ (32 :: (kThen ++ (32 :: (textX c ++ (32 :: (kElse ++ (32 :: (textX e ++ r)))))))))) _ (hW _) (by rw [tk_blank]; exact w1) noPlusE
    rw [termF, if_pos (by rfl)]
    simp only
    rw [tk_blank, ha1]
    simp only
    rw [if_neg (by decide), if_neg (by decide), if_pos trivial]
    unfold choiceF
    rcases exprM_rd ha3 (must_rd (st' := s2) (by rw [tk_blank]; exact hb1) rfl) with h | ⟨m, h⟩
    · rw [h]
      simp only
      rcases exprM_rd hb3 (must_rd (st' := s3) (by rw [tk_blank]; exact hc1) rfl) with h | ⟨m, h⟩
      · rw [h]
        simp only
        rcases exprM_rd hc3 (must_rd (st' := s4) (by rw [tk_blank]; exact he1) rfl) with h | ⟨m, h⟩
        · rw [h]
          simp only
          rcases he3 with h | ⟨m, h⟩
          · rw [h]
            exact .inl rfl
          · rw [h]
            exact .inr ⟨m, rfl⟩
        · rw [h]
          exact .inr ⟨m, rfl⟩
      · rw [h]
        exact .inr ⟨m, rfl⟩
    · rw [h]
      exact .inr ⟨m, rfl⟩
theorem C_let {s : List UInt8} {a b : ExL} (hn : nameN s = true) (ha : ReadA a) (hb : ReadA b) : ReadC (.mk 5 s [a, b]) := by
  intro d r st' hr ht hp
  obtain ⟨nn, nw, nk⟩ := name_parts hn
  have ex : textX (.mk 5 s [a, b]) ++ r = kLet ++ (32 :: (s ++ (32 :: 61 :: 32 :: (textX a ++ (32 :: (kIn ++ (32 :: (textX b ++ r)))))))) := by
    show (kLet ++ 32 :: (s ++ 32 :: 61 :: 32 :: (textX a ++ 32 :: (kIn ++ 32 :: textX b)))) ++ r = _
    simp only [List.append_assoc, List.cons_append]
  rw [ex]
  obtain ⟨n, hs⟩ := tk_word (w := kLet) (r := 32 :: (s ++ (32 :: 61 :: 32 :: (textX a ++ (32 :: (kIn ++ (32 :: (textX b ++ r)))))))) (by decide) (by decide) (headOk_cons (by decide))
  refine ⟨_, hs, noPlus1, ?_⟩
  cases d with
  | zero => exact .inr ⟨n, rfl⟩
  | succ d =>
    have hW : ∀ l : List UInt8, HeadOk (32 :: l) := fun l => headOk_cons (by decide)
    obtain ⟨s4, he1, he2, he3⟩ := hb d r st' hr ht hp
    obtain ⟨n3, w3⟩ := tk_word (w := kIn) (r := 32 :: (textX b ++ r)) (by decide) (by decide) (hW _)
    obtain ⟨s3, hc1, hc2, hc3⟩ := ha d (32 :: (kIn ++ (32 :: (textX b ++ r)))) _ (hW _) (by rw [tk_blank]; exact w3) (noPlus1)
    obtain ⟨n1, w1⟩ := tk_sign (c := 61) (r := 32 :: (textX a ++ (32 :: (kIn ++ (32 :: (textX b ++ r)))))) (by decide)
    obtain ⟨n0, w0⟩ := tk_word (r := 32 :: 61 :: 32 :: (textX a ++ (32 :: (kIn ++ (32 :: (textX b ++ r)))))) nn nw (hW _)
    rw [termF, if_pos (by rfl)]
    simp only
    rw [tk_blank, w0]
    simp only
    rw [if_neg (by decide), if_neg (by decide), if_neg (by decide), if_pos trivial]
    unfold bindF nameT
    rw [if_neg (by simp [hn])]
    simp only
    rw [tk_blank, w1]
    simp only
    rw [must_rd (st' := s3) (by rw [tk_blank]; exact hc1) rfl]
    simp only
    rcases exprM_rd hc3 (must_rd (st' := s4) (by rw [tk_blank]; exact he1) rfl) with h | ⟨m, h⟩
    · rw [h]
      simp only
      rcases he3 with h | ⟨m, h⟩
      · rw [h]
        exact .inl rfl
      · rw [h]
        exact .inr ⟨m, rfl⟩
    · rw [h]
      exact .inr ⟨m, rfl⟩
def sumT (ks : List ExL) : List UInt8 := ((textsX ks).map plusT).flatten
theorem sumT_cons (k : ExL) (ks : List ExL) : sumT (k :: ks) = 32 :: 43 :: 32 :: (parT k.kind (textX k) ++ sumT ks) := rfl
theorem sumT_len : ∀ ks : List ExL, 3 * ks.length ≤ (sumT ks).length
  | [] => by simp
  | k :: ks => by
    have := sumT_len ks
    rw [sumT_cons]
    simp only [List.length_cons, List.length_append]
    omega
theorem sumT_head {ks : List ExL} {r : List UInt8} (hr : HeadOk r) : HeadOk (sumT ks ++ r) := by
  cases ks with
  | nil => exact hr
  | cons k ks => rw [sumT_cons]; exact headOk_cons (by decide)
theorem sumT_tok {ks : List ExL} {r : List UInt8} {st' : RdL} (ht : takeF r = .ok st') : ∃ st, takeF (sumT ks ++ r) = .ok st := by
  cases ks with
  | nil => exact ⟨st', ht⟩
  | cons k ks =>
    rw [sumT_cons]
    obtain ⟨n, h⟩ := tk_sign (c := 43) (r := 32 :: (parT k.kind (textX k) ++ sumT ks) ++ r) (by decide)
    exact ⟨_, by rw [List.cons_append, tk_blank]; exact h⟩
theorem more_rd {r : List UInt8} {st' : RdL} (d : Nat) (hr : HeadOk r) (ht : takeF r = .ok st') (hp : NoPlus st') : ∀ (ks acc : List ExL) (st : RdL) (n : Nat), (∀ k ∈ ks, ReadB k) → takeF (sumT ks ++ r) = .ok st → ks.length < n → OrDeep (moreF (termF d) n acc st) (acc ++ ks, st')
  | [], acc, st, n, _, h, hn => by
    obtain ⟨n, rfl⟩ : ∃ m, n = m + 1 := ⟨n - 1, by simp at hn; omega⟩
    rw [show sumT [] ++ r = r from rfl, ht] at h
    cases h
    rw [moreF, if_neg (by rw [show st'.is 2 [43] = false from hp]; decide), List.append_nil]
    exact .inl rfl
  | k :: ks, acc, st, n, hk, h, hn => by
    obtain ⟨n, rfl⟩ : ∃ m, n = m + 1 := ⟨n - 1, by simp at hn; omega⟩
    obtain ⟨m, h1⟩ := tk_sign (c := 43) (r := 32 :: (parT k.kind (textX k) ++ (sumT ks ++ r))) (by decide)
    have e : sumT (k :: ks) ++ r = 32 :: 43 :: 32 :: (parT k.kind (textX k) ++ (sumT ks ++ r)) := by rw [sumT_cons]; simp
    rw [e, tk_blank, h1] at h
    cases h
    obtain ⟨st2, h2⟩ := sumT_tok (ks := ks) ht
    obtain ⟨s1, h3, _, h4⟩ := hk k (by simp) d _ _ (sumT_head hr) h2
    rw [moreF, if_pos (by rfl)]
    simp only
    rw [tk_blank, h3]
    simp only
    rcases h4 with h4 | ⟨q, h4⟩
    · rw [h4]
      simp only
      have := more_rd d hr ht hp ks (acc ++ [k]) st2 n (fun x hx => hk x (by simp [hx])) h2 (by simp at hn; omega)
      rw [List.append_assoc] at this
      exact this
    · rw [h4]
      exact .inr ⟨q, rfl⟩
theorem A_sum {k : ExL} {ks : List ExL} (h1 : ks ≠ []) (hk : ∀ x ∈ k :: ks, ReadB x) : ReadA (.mk 3 [] (k :: ks)) := by
  intro d r st' hr ht hp
  have ex : textX (.mk 3 [] (k :: ks)) ++ r = parT k.kind (textX k) ++ (sumT ks ++ r) := by
    show (parT k.kind (textX k) ++ sumT ks) ++ r = _
    rw [List.append_assoc]
  rw [ex]
  obtain ⟨st2, h2⟩ := sumT_tok (ks := ks) ht
  obtain ⟨s1, h3, h5, h4⟩ := hk k (by simp) d _ _ (sumT_head hr) h2
  refine ⟨s1, h3, h5, ?_⟩
  unfold exprW
  rcases h4 with h4 | ⟨q, h4⟩
  · rw [h4]
    simp only
    have hf : ks.length < st2.rest.length + 1 := by
      match ks, h1 with
      | k2 :: ks2, _ =>
        obtain ⟨m, h6⟩ := tk_sign (c := 43) (r := 32 :: (parT k2.kind (textX k2) ++ (sumT ks2 ++ r))) (by decide)
        have e : sumT (k2 :: ks2) ++ r = 32 :: 43 :: 32 :: (parT k2.kind (textX k2) ++ (sumT ks2 ++ r)) := by rw [sumT_cons]; simp
        rw [e, tk_blank, h6] at h2
        cases h2
        have := sumT_len ks2
        simp only [List.length_cons, List.length_append]
        omega
    rcases more_rd d hr ht hp ks [k] st2 _ (fun x hx => hk x (by simp [hx])) h2 hf with h | ⟨q, h⟩
    · rw [h]
      simp only
      match ks, h1 with
      | _ :: _, _ => exact .inl rfl
    · rw [h]
      exact .inr ⟨q, rfl⟩
  · rw [h4]
    exact .inr ⟨q, rfl⟩
theorem okEs_mem {d : Nat} : ∀ {ks : List ExL}, okEs d ks = true → ∀ k ∈ ks, okE d k = true
  | [], _, k, hk => by cases hk
  | x :: r, h, k, hk => by
    rw [okEs, Bool.and_eq_true] at h
    rcases List.mem_cons.1 hk with rfl | hk
    · exact h.1
    · exact okEs_mem h.2 k hk
theorem read_all : ∀ (D : Nat) (x : ExL), okE D x = true → ReadA x ∧ ReadB x
  | 0, .mk k s ks, h => by simp [okE] at h
  | D + 1, .mk k s ks, h => by
    rw [okE, Bool.and_eq_true, Bool.and_eq_true] at h
    obtain ⟨⟨_, hs⟩, hk⟩ := h
    have ih : ∀ k ∈ ks, ReadA k ∧ ReadB k := fun k hk2 => read_all D k (okEs_mem hk k hk2)
    unfold shapeF at hs
    by_cases k1 : k = 1
    · rw [if_pos k1, decide_eq_true_eq] at hs
      have := List.eq_nil_of_length_eq_zero hs
      subst this k1
      exact ⟨A_of_C (C_text s).1, (C_text s).2⟩
    rw [if_neg k1] at hs
    by_cases k2 : k = 2
    · rw [if_pos k2, Bool.and_eq_true, decide_eq_true_eq] at hs
      have := List.eq_nil_of_length_eq_zero hs.1
      subst this k2
      exact ⟨A_of_C (C_name hs.2).1, (C_name hs.2).2⟩
    rw [if_neg k2] at hs
    have hB : ReadA (.mk k s ks) → ReadA (.mk k s ks) ∧ ReadB (.mk k s ks) := fun h => ⟨h, B_of_A h (by rintro (e | e); exact k1 e; exact k2 e)⟩
    refine hB ?_
    by_cases k3 : k = 3
    · rw [if_pos k3, Bool.and_eq_true, decide_eq_true_eq, decide_eq_true_eq] at hs
      obtain ⟨hs1, rfl⟩ := hs
      subst k3
      match ks, hs1 with
      | a :: b :: r, _ => exact A_sum (by simp) fun x hx => (ih x hx).2
    rw [if_neg k3] at hs
    by_cases k4 : k = 4
    · rw [if_pos k4, Bool.and_eq_true, decide_eq_true_eq, decide_eq_true_eq] at hs
      obtain ⟨hs1, rfl⟩ := hs
      subst k4
      match ks, hs1 with
      | [a, b, c, e], _ => exact A_of_C (C_if (ih a (by simp)).1 (ih b (by simp)).1 (ih c (by simp)).1 (ih e (by simp)).1)
    rw [if_neg k4] at hs
    by_cases k5 : k = 5
    · rw [if_pos k5, Bool.and_eq_true, decide_eq_true_eq] at hs
      subst k5
      match ks, hs.1 with
      | [a, b], _ => exact A_of_C (C_let hs.2 (ih a (by simp)).1 (ih b (by simp)).1)
    rw [if_neg k5] at hs
    cases hs
theorem read_good {x : ExL} (h : goodE x = true) : ReadA x := by
  unfold goodE at h
  rw [Bool.and_eq_true] at h
  exact (read_all 64 x h.1).1
/- recipes -/
def fieldsT (fs : List FldL) : List UInt8 := (fs.map fieldT).flatten
theorem fieldsT_cons (f : FldL) (fs : List FldL) : fieldsT (f :: fs) = wordK f.kind ++ (32 :: (textX f.name ++ (32 :: (textX f.range ++ (10 :: fieldsT fs))))) := by
  show (wordK f.kind ++ 32 :: (textX f.name ++ 32 :: (textX f.range ++ [10]))) ++ fieldsT fs = _
  simp only [List.append_assoc, List.cons_append, List.nil_append]
theorem wordK_ok {k : Int} (h : 1 ≤ k ∧ k ≤ 3) : wordK k ≠ [] ∧ (wordK k).all wordC = true ∧ ∀ n r, fieldK ⟨1, wordK k, n, r⟩ = k := by
  have : k = 1 ∨ k = 2 ∨ k = 3 := by omega
  rcases this with rfl | rfl | rfl
  · exact ⟨by decide, by decide, fun _ _ => rfl⟩
  · exact ⟨by decide, by decide, fun _ _ => rfl⟩
  · exact ⟨by decide, by decide, fun _ _ => rfl⟩
theorem goodFl_parts {f : FldL} (h : goodFl f = true) : (1 ≤ f.kind ∧ f.kind ≤ 3) ∧ goodE f.name = true ∧ goodE f.range = true := by
  unfold goodFl at h
  rw [Bool.and_eq_true, Bool.and_eq_true, decide_eq_true_eq] at h
  exact ⟨h.1.1, h.1.2, h.2⟩
theorem fieldsT_tok : ∀ (fs : List FldL), fs.all goodFl = true → ∃ st, takeF (fieldsT fs) = .ok st ∧ NoPlus st ∧ fs.length ≤ st.rest.length + 1
  | [], _ => ⟨⟨0, [], 0, []⟩, rfl, noPlus0, by simp⟩
  | f :: fs, h => by
    rw [List.all_cons, Bool.and_eq_true] at h
    obtain ⟨h1, h2, h3⟩ := wordK_ok (goodFl_parts h.1).1
    rw [fieldsT_cons]
    obtain ⟨n, h4⟩ := tk_word (r := 32 :: (textX f.name ++ (32 :: (textX f.range ++ (10 :: fieldsT fs))))) h1 h2 (headOk_cons (by decide))
    refine ⟨_, h4, noPlus1, ?_⟩
    have : ∀ l : List FldL, l.length ≤ (fieldsT l).length := by
      intro l
      induction l with
      | nil => simp
      | cons x l ih =>
        rw [fieldsT_cons]
        simp only [List.length_append, List.length_cons]
        omega
    have := this fs
    simp only [List.length_append, List.length_cons]
    omega
theorem fields_rd : ∀ (fs acc : List FldL) (st : RdL) (n : Nat), fs.all goodFl = true → takeF (fieldsT fs) = .ok st → fs.length < n → acc.length + fs.length ≤ 20 → ∃ st', OrDeep (fieldsF n acc st) (acc ++ fs, st')
  | [], acc, st, n, _, h, hn, _ => by
    obtain ⟨n, rfl⟩ : ∃ m, n = m + 1 := ⟨n - 1, by simp at hn; omega⟩
    cases h
    exact ⟨⟨0, [], 0, []⟩, .inl (by rw [fieldsF, if_pos rfl, List.append_nil])⟩
  | f :: fs, acc, st, n, hg, h, hn, hl => by
    obtain ⟨n, rfl⟩ : ∃ m, n = m + 1 := ⟨n - 1, by simp at hn; omega⟩
    rw [List.all_cons, Bool.and_eq_true] at hg
    obtain ⟨hk, hg1, hg2⟩ := goodFl_parts hg.1
    obtain ⟨h1, h2, h3⟩ := wordK_ok hk
    rw [fieldsT_cons] at h
    obtain ⟨m, h4⟩ := tk_word (r := 32 :: (textX f.name ++ (32 :: (textX f.range ++ (10 :: fieldsT fs))))) h1 h2 (headOk_cons (by decide))
    rw [h4] at h
    cases h
    obtain ⟨s4, a1, a2, _⟩ := fieldsT_tok fs hg.2
    obtain ⟨s3, b1, b2, b3⟩ := read_good hg2 32 (10 :: fieldsT fs) s4 (headOk_cons (by decide)) (by rw [tk_feed]; exact a1) a2
    obtain ⟨s2, c1, c2, c3⟩ := read_good hg1 32 (32 :: (textX f.range ++ (10 :: fieldsT fs))) s3 (headOk_cons (by decide)) (by rw [tk_blank]; exact b1) b2
    simp only [List.length_cons] at hl hn
    rw [fieldsF, if_neg (show ¬ (1 : Nat) = 0 by decide), h3, if_neg (by omega), if_neg (by omega)]
    simp only
    rw [tk_blank, c1]
    simp only
    unfold exprF
    rcases c3 with h | ⟨q, h⟩
    · rw [h]
      simp only
      rcases b3 with h | ⟨q, h⟩
      · rw [h]
        simp only
        obtain ⟨st', h5⟩ := fields_rd fs (acc ++ [f]) s4 n hg.2 a1 (by omega) (by rw [List.length_append]; show acc.length + 1 + _ ≤ _; omega)
        rw [List.append_assoc] at h5
        exact ⟨st', h5⟩
      · rw [h]
        exact ⟨s4, .inr ⟨q, rfl⟩⟩
    · rw [h]
      exact ⟨s4, .inr ⟨q, rfl⟩⟩
theorem goodR_parts {r : RcpL} (h : goodR r = true) : r.fields.length ≤ 20 ∧ goodE r.name = true ∧ goodE r.version = true ∧ r.fields.all goodFl = true := by
  unfold goodR at h
  rw [Bool.and_eq_true, Bool.and_eq_true, Bool.and_eq_true, decide_eq_true_eq] at h
  exact ⟨h.1.1.1, h.1.1.2, h.1.2, h.2⟩
theorem parse_print {r : RcpL} (h : goodR r = true) (hl : (printS r).length ≤ 4096) : parseF (printS r) = .ok r ∨ ∃ n, parseF (printS r) = .error (n, 4) := by
  obtain ⟨h1, h2, h3, h4⟩ := goodR_parts h
  obtain ⟨s6, a1, a2, a3⟩ := fieldsT_tok r.fields h4
  obtain ⟨s5, b1, b2, b3⟩ := read_good h3 32 (10 :: fieldsT r.fields) s6 (headOk_cons (by decide)) (by rw [tk_feed]; exact a1) a2
  obtain ⟨n4, w4⟩ := tk_word (w := kVersion) (r := 32 :: (textX r.version ++ (10 :: fieldsT r.fields))) (by decide) (by decide) (headOk_cons (by decide))
  obtain ⟨s3, c1, c2, c3⟩ := read_good h2 32 (10 :: (kVersion ++ 32 :: (textX r.version ++ (10 :: fieldsT r.fields)))) _ (headOk_cons (by decide)) (by rw [tk_feed]; exact w4) (noPlus1)
  obtain ⟨n1, w1⟩ := tk_word (w := kPackage) (r := 32 :: (textX r.name ++ 10 :: (kVersion ++ 32 :: (textX r.version ++ (10 :: fieldsT r.fields))))) (by decide) (by decide) (headOk_cons (by decide))
  have w1' : takeF (printS r) = .ok ⟨1, kPackage, n1, 32 :: (textX r.name ++ 10 :: (kVersion ++ 32 :: (textX r.version ++ (10 :: fieldsT r.fields))))⟩ := w1
  have hsrc : OrDeep (sourceF ⟨1, kPackage, n1, 32 :: (textX r.name ++ 10 :: (kVersion ++ 32 :: (textX r.version ++ (10 :: fieldsT r.fields))))⟩) r := by
    unfold sourceF
    rw [must_rd (st' := s3) (by rw [tk_blank]; exact c1) rfl]
    simp only
    unfold exprF
    rcases c3 with h | ⟨q, h⟩
    · rw [h]
      simp only
      rw [must_rd (st' := s5) (by rw [tk_blank]; exact b1) rfl]
      simp only
      rcases b3 with h | ⟨q, h⟩
      · rw [h]
        simp only
        obtain ⟨st', h5⟩ := fields_rd r.fields [] s6 (s6.rest.length + 2) h4 a1 (by omega) (by simpa using h1)
        rw [List.nil_append] at h5
        rcases h5 with h | ⟨q, h⟩
        · rw [h]
          exact .inl rfl
        · rw [h]
          exact .inr ⟨q, rfl⟩
      · rw [h]
        exact .inr ⟨q, rfl⟩
    · rw [h]
      exact .inr ⟨q, rfl⟩
  unfold parseF
  rw [if_neg (by omega), w1']
  simp only
  rcases hsrc with h | ⟨q, h⟩
  · rw [h]
    exact .inl rfl
  · rw [h]
    exact .inr ⟨_, rfl⟩
end Go.Proofs.YtdgcpgbknfojhaaDoor
