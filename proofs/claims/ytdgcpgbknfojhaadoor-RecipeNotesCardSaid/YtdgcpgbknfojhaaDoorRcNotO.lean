/- A text put together out of another one's tokens, with notes and blanks between them. No condition. -/
import Derived.Test.YtdgcpgbknfojhaaDoorRcNotM
namespace Go.Proofs.YtdgcpgbknfojhaaDoor
set_option linter.unusedVariables false
def oddF (note : List UInt8) (k : Nat) : List UInt8 := if k = 0 then [32] else if k = 1 then [10] else if k = 2 then [9, 35, 32, 105, 110, 10] else 32 :: 35 :: (note ++ [10, 32])
theorem skip_over : ∀ (note r : List UInt8), (∀ c ∈ note, c.toNat ≠ 10) → skipF true (note ++ 10 :: r) = skipF false r
  | [], r, _ => by rw [List.nil_append, skipF, if_pos (.inl rfl)]; rfl
  | c :: n, r, h => by
    rw [List.cons_append, skipF, if_pos (.inl rfl)]
    have hc := h c (by simp)
    have : (decide (c.toNat = 35) || (true && decide (c.toNat ≠ 10))) = true := by rw [decide_eq_true hc]; simp
    rw [this]
    exact skip_over n r fun x hx => h x (by simp [hx])
theorem odd_take {note : List UInt8} (hn : ∀ c ∈ note, c.toNat ≠ 10) (k : Nat) (r : List UInt8) : takeF (oddF note k ++ r) = takeF r ∧ HeadOk (oddF note k ++ r) := by
  unfold oddF
  by_cases h0 : k = 0
  · rw [if_pos h0]; exact ⟨tk_blank r, headOk_cons (by decide)⟩
  rw [if_neg h0]
  by_cases h1 : k = 1
  · rw [if_pos h1]; exact ⟨tk_feed r, headOk_cons (by decide)⟩
  rw [if_neg h1]
  by_cases h2 : k = 2
  · rw [if_pos h2]; exact ⟨rfl, headOk_cons (by decide)⟩
  rw [if_neg h2]
  refine ⟨?_, headOk_cons (by decide)⟩
  show tokF (skipF false (32 :: 35 :: (note ++ [10, 32]) ++ r)) = tokF (skipF false r)
  have e : (32 :: 35 :: (note ++ [10, 32]) ++ r : List UInt8) = 32 :: 35 :: (note ++ 10 :: 32 :: r) := by simp
  rw [e, skipF, if_pos (by decide)]
  show tokF (skipF false (35 :: (note ++ 10 :: 32 :: r))) = _
  rw [skipF, if_pos (by decide)]
  show tokF (skipF true (note ++ 10 :: 32 :: r)) = _
  rw [skip_over _ _ hn, skipF, if_pos (by decide)]
  rfl
theorem odd_len (note : List UInt8) (k : Nat) (h : note.length ≤ 100) : (oddF note k).length ≤ 104 := by
  unfold oddF
  (repeat' split) <;> simp <;> omega
/- so far: O has the tokens ahead of the place a -/
def OutI (s : List UInt8) (a : Nat) (O : List UInt8) : Prop := O.length ≤ 110 + a * 110 ∧ ∃ us, (∀ ts, Toks (s.drop a) ts → Toks s (us ++ ts)) ∧ (∀ r ts, Toks r ts → Toks (O ++ r) (us ++ ts))
theorem out_start {s note : List UInt8} (hn : ∀ c ∈ note, c.toNat ≠ 10) (hl : note.length ≤ 100) : OutI s 0 (oddF note 3) := by
  refine ⟨by have := odd_len note 3 hl; omega, [], fun ts h => h, fun r ts h => ?_⟩
  exact toks_of (odd_take hn 3 r).1 h
theorem out_step {s note O : List UInt8} {a : Nat} {st : RdL} (hn : ∀ c ∈ note, c.toNat ≠ 10) (hl : note.length ≤ 100) (ha : a ≤ s.length) (h : OutI s a O) (ht : takeF (s.drop a) = .ok st) (h0 : st.kind ≠ 0) (k : Nat) :
    (s.length - st.rem ≤ s.length - st.rest.length) ∧ a < s.length - st.rest.length ∧ OutI s (s.length - st.rest.length) (O ++ (s.take (s.length - st.rest.length)).drop (s.length - st.rem) ++ oddF note k) := by
  obtain ⟨hlen, us, h1, h2⟩ := h
  obtain ⟨raw, e1, e2, e3⟩ := skip_tok ht h0
  have hsuf : raw ++ st.rest <:+ s := by rw [← e1]; exact (skipF_suffix _ _).trans (List.drop_suffix _ _)
  have hskl : (raw ++ st.rest).length ≤ s.length - a := by rw [← e1]; have := skipF_len (s.drop a) false; rw [List.length_drop] at this; exact this
  have hrem : st.rem = (raw ++ st.rest).length := by
    rw [← e1]
    have h4 : tokF (skipF false (s.drop a)) = .ok st := ht
    generalize skipF false (s.drop a) = l at h4
    cases l with
    | nil => cases h4; exact absurd rfl h0
    | cons c r =>
      rw [tokF] at h4
      split at h4
      · cases hq : quoCut (c :: r) with
        | none => rw [hq] at h4; cases h4
        | some x => rw [hq] at h4; cases h4; rfl
      · split at h4
        · cases h4; rfl
        · split at h4
          · cases h4; rfl
          · cases h4
  obtain ⟨pre, rfl⟩ := hsuf
  have hr0 : 0 < raw.length := List.length_pos_iff.2 e2
  rw [List.length_append] at hrem hskl
  have hL : (pre ++ (raw ++ st.rest)).length = pre.length + raw.length + st.rest.length := by simp only [List.length_append]; omega
  have hA : (pre ++ (raw ++ st.rest)).length - st.rem = pre.length := by rw [hL, hrem]; omega
  have hE : (pre ++ (raw ++ st.rest)).length - st.rest.length = pre.length + raw.length := by rw [hL]; omega
  have hcut : ((pre ++ (raw ++ st.rest)).take (pre.length + raw.length)).drop pre.length = raw := by
    rw [List.drop_take]
    simp
  have hdrop : (pre ++ (raw ++ st.rest)).drop (pre.length + raw.length) = st.rest := by
    rw [← List.append_assoc, show pre.length + raw.length = (pre ++ raw).length by simp]
    simp
  rw [hA, hE, hcut]
  have hap : a ≤ pre.length := by rw [hL] at hskl; omega
  refine ⟨by omega, by omega, ?_, us ++ [(st.kind, st.s)], fun ts hts => ?_, fun r ts hts => ?_⟩
  · have := odd_len note k hl
    simp only [List.length_append]
    omega
  · rw [hdrop] at hts
    rw [List.append_assoc]
    exact h1 _ (.cons ht h0 hts)
  · have e : O ++ raw ++ oddF note k ++ r = O ++ (raw ++ (oddF note k ++ r)) := by simp
    rw [e, List.append_assoc]
    obtain ⟨n, h5⟩ := e3 (oddF note k ++ r) (odd_take hn k r).2
    exact h2 _ _ (.cons (st := ⟨st.kind, st.s, n, oddF note k ++ r⟩) h5 h0 (toks_of (odd_take hn k r).1 hts))
theorem out_end {s O : List UInt8} {a : Nat} {st : RdL} (h : OutI s a O) (ht : takeF (s.drop a) = .ok st) (h0 : st.kind = 0) : ∃ ts, Toks s ts ∧ Toks O ts := by
  obtain ⟨_, us, h1, h2⟩ := h
  refine ⟨us, ?_, ?_⟩
  · have := h1 [] (.nil ht h0)
    rwa [List.append_nil] at this
  · have := h2 [] [] (.nil (st := ⟨0, [], 0, []⟩) rfl rfl)
    rwa [List.append_nil, List.append_nil] at this
theorem out_same {s O : List UInt8} {a : Nat} {st : RdL} (h : OutI s a O) (ht : takeF (s.drop a) = .ok st) (h0 : st.kind = 0) (hs : s.length ≤ 4096) (hO : O.length ≤ 4096) : SimP (parseF s) (parseF O) := by
  obtain ⟨ts, h1, h2⟩ := out_end h ht h0
  exact parse_sim h1 h2 hs hO
end Go.Proofs.YtdgcpgbknfojhaaDoor
