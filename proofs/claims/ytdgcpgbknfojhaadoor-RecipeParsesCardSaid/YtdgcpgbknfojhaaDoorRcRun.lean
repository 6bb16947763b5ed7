/- The document's Run in memory; the contracts of fail, step, has, want. Condition: the text is not too long. -/
import Derived.Test.YtdgcpgbknfojhaaDoorRcRNext
import Derived.Test.YtdgcpgbknfojhaaDoorRcExpr
import Derived.StillTailTactics


namespace Go.Proofs.YtdgcpgbknfojhaaDoor
set_option linter.unusedVariables false
open Go.ChangeShapes Go.WideShapes Go.ChangeAt Go.RowKit
abbrev StL := Except FaultL RdL
/- what a run's seven cells say -/
def rnV (src : List UInt8) (k : Nat) (s : List UInt8) (a b : Nat) (why place : Int) : Array Value := #[.string (tx src), .int .i64 k, .string (tx s), .int .i64 a, .int .i64 b, .int .i64 why, .int .i64 place]
structure TokOk (st : RdL) : Prop where
  sg : st.kind = 2 → ∃ c, st.s = [c] ∧ signC c = true
  wd : st.kind = 1 → st.s.all wordC = true ∧ st.s ≠ []
def RuC (src : List UInt8) (o : StL) (k : Nat) (s : List UInt8) (a b : Nat) (why place : Int) : Prop := match o with
  | .ok st => k = st.kind ∧ s = st.s ∧ a = src.length - st.rem ∧ b = src.length - st.rest.length ∧ why = 0 ∧ place = 0 ∧ st.rest <:+ src ∧ st.rem ≤ src.length ∧ TokOk st
  | .error x => why = x.2 ∧ place = ((src.length - x.1 : Nat) : Int) ∧ x.2 ≠ 0
def RuM (w : World) (rb : Nat) (src : List UInt8) (o : StL) : Prop := ∃ k s a b why place, w.heap[rb]? = some (.cells (rnV src k s a b why place) 63 (0, 0)) ∧ s.length ≤ src.length ∧ RuC src o k s a b why place
theorem RuM.keep {w w' : World} {rb : Nat} {src : List UInt8} {o : StL} (h : RuM w rb src o) (hc : Chg NoB w w') : RuM w' rb src o := by
  obtain ⟨k, s, a, b, y, p, h1, h2⟩ := h
  exact ⟨k, s, a, b, y, p, row_kept hc h1 id, h2⟩
theorem RuM.chg {S : Nat → Prop} {w w' : World} {rb : Nat} {src : List UInt8} {o : StL} (h : RuM w rb src o) (hc : Chg S w w') (hS : ¬ S rb) : RuM w' rb src o := by
  obtain ⟨k, s, a, b, y, p, h1, h2⟩ := h
  exact ⟨k, s, a, b, y, p, row_kept hc h1 hS, h2⟩
theorem RuM.lt {w : World} {rb : Nat} {src : List UInt8} {o : StL} (h : RuM w rb src o) : rb < w.heap.size := by
  obtain ⟨k, s, a, b, y, p, h1, h2⟩ := h
  exact lt_of_block h1
theorem RuM.tok {w : World} {rb : Nat} {src : List UInt8} {st : RdL} (h : RuM w rb src (.ok st)) : TokOk st := by
  obtain ⟨k, s, a, b, y, p, h1, h2, h3⟩ := h
  exact h3.2.2.2.2.2.2.2.2
theorem cell7 {w : World} {b : Nat} {x0 x1 x2 x3 x4 x5 x6 : Value} {t : TypeId} (h : w.heap[b]? = some (.cells #[x0, x1, x2, x3, x4, x5, x6] t (0, 0))) :
    w.cell? ⟨b, 0, none⟩ = some x0 ∧ w.cell? ⟨b, 1, none⟩ = some x1 ∧ w.cell? ⟨b, 2, none⟩ = some x2 ∧ w.cell? ⟨b, 3, none⟩ = some x3 ∧ w.cell? ⟨b, 4, none⟩ = some x4 ∧ w.cell? ⟨b, 5, none⟩ = some x5 ∧ w.cell? ⟨b, 6, none⟩ = some x6 := by
  refine ⟨?_, ?_, ?_, ?_, ?_, ?_, ?_⟩ <;> rw [cell_of_row w b _ _ t (0, 0) h] <;> rfl
theorem takeW_word : ∀ l : List UInt8, (l.takeWhile wordC).all wordC = true
  | [] => rfl
  | c :: l => by
    rw [List.takeWhile_cons]
    split
    · rename_i h
      rw [List.all_cons, h, takeW_word l]; rfl
    · rfl
/- what a token is -/
theorem tok_ok {l : List UInt8} {st : RdL} (h : tokF l = .ok st) : TokOk st ∧ st.s.length ≤ l.length ∧ st.rest <:+ l ∧ st.rem ≤ l.length := by
  cases l with
  | nil =>
    cases h
    exact ⟨⟨fun e => absurd e (by decide), fun e => absurd e (by decide)⟩, Nat.le_refl _, List.suffix_refl _, Nat.le_refl _⟩
  | cons c r =>
    rw [tokF] at h
    split at h
    · cases hq : quoCut (c :: r) with
      | none => rw [hq] at h; cases h
      | some x =>
        obtain ⟨t, b⟩ := x
        rw [hq] at h
        cases h
        obtain ⟨h1, h2⟩ := quoCut_suf hq
        exact ⟨⟨fun e => absurd e (show ¬ (3 : Nat) = 2 by decide), fun e => absurd e (show ¬ (3 : Nat) = 1 by decide)⟩, h2, h1, Nat.le_refl _⟩
    · split at h
      · rename_i hs
        cases h
        exact ⟨⟨fun _ => ⟨c, rfl, hs⟩, fun e => absurd e (show ¬ (2 : Nat) = 1 by decide)⟩, by simp, List.suffix_cons c r, Nat.le_refl _⟩
      · split at h
        · rename_i hw
          cases h
          refine ⟨⟨fun e => absurd e (show ¬ (1 : Nat) = 2 by decide), fun _ => ⟨takeW_word _, fun e => ?_⟩⟩, (List.takeWhile_prefix _).length_le, List.dropWhile_suffix _, Nat.le_refl _⟩
          have := (takeW_pos (r := r)).2 hw
          simp only at e
          rw [e] at this
          exact absurd this (Nat.lt_irrefl _)
        · cases h
theorem take_ok {l : List UInt8} {st : RdL} (h : takeF l = .ok st) : TokOk st ∧ st.s.length ≤ l.length ∧ st.rest <:+ l ∧ st.rem ≤ l.length := by
  have h1 := skipF_suffix l false
  obtain ⟨a, b, c, d⟩ := tok_ok (show tokF (skipF false l) = .ok st from h)
  have := h1.length_le
  exact ⟨a, by omega, c.trans h1, by omega⟩
theorem tok_bad {l : List UInt8} {x : FaultL} (h : tokF l = .error x) : x.2 = 50 := by
  cases l with
  | nil => cases h
  | cons c r =>
    rw [tokF] at h
    split at h
    · cases hq : quoCut (c :: r) with
      | none => rw [hq] at h; cases h; rfl
      | some x => rw [hq] at h; cases h
    · split at h
      · cases h
      · split at h
        · cases h
        · cases h; rfl
theorem take_bad {l : List UInt8} {x : FaultL} (h : takeF l = .error x) : x.2 = 50 := tok_bad h
/- what the run's functions do to a state -/
def failS (rem : Nat) (e : Int) : StL → StL
  | .ok _ => .error (rem, e)
  | .error x => .error x
def stepS : StL → StL
  | .ok st => takeF st.rest
  | .error x => .error x
def hasS (o : StL) (s : List UInt8) : Bool := match o with
  | .ok st => (decide (st.kind = 1) || decide (st.kind = 2)) && (st.s == s)
  | .error _ => false
def wantS (s : List UInt8) (o : StL) : StL := match o with
  | .ok st => if hasS o s = true then takeF st.rest else .error (st.rem, 50)
  | .error x => .error x
theorem has_sign {st : RdL} (h : TokOk st) {c : UInt8} (hc : signC c = true) : hasS (.ok st) [c] = st.is 2 [c] := by
  unfold hasS RdL.is
  simp only
  by_cases h2 : st.kind = 2
  · simp [h2]
  · by_cases h1 : st.kind = 1
    · obtain ⟨h3, h4⟩ := h.wd h1
      have : (st.s == [c]) = false := by
        rw [beq_eq_false_iff_ne]
        intro e
        rw [e] at h3
        simp only [List.all_cons, List.all_nil, Bool.and_true] at h3
        rw [(word_sign h3).2] at hc
        cases hc
      rw [this, Bool.and_false, Bool.and_false]
    · simp [h1, h2]
theorem has_word {st : RdL} (h : TokOk st) {s : List UInt8} (hs : s.all wordC = true) : hasS (.ok st) s = st.is 1 s := by
  unfold hasS RdL.is
  simp only
  by_cases h1 : st.kind = 1
  · simp [h1]
  · by_cases h2 : st.kind = 2
    · obtain ⟨c, h3, h4⟩ := h.sg h2
      have : (st.s == s) = false := by
        rw [beq_eq_false_iff_ne]
        intro e
        rw [← e, h3] at hs
        simp only [List.all_cons, List.all_nil, Bool.and_true] at hs
        rw [(word_sign hs).2] at h4
        cases h4
      rw [this, Bool.and_false, Bool.and_false]
    · simp [h1, h2]
theorem want_sign {st : RdL} (h : TokOk st) {c : UInt8} (hc : signC c = true) : wantS [c] (.ok st) = mustF 2 [c] st := by
  unfold wantS mustF
  rw [← has_sign h hc]
theorem want_word {st : RdL} (h : TokOk st) {s : List UInt8} (hs : s.all wordC = true) : wantS s (.ok st) = mustF 1 s st := by
  unfold wantS mustF
  rw [← has_word h hs]
def RunP (rb : Nat) (src : List UInt8) (o : StL) (w : World) (e : Ending) (w' : World) : Prop := Chg (fun k => k = rb) w w' ∧ e = .returned (.tuple #[]) ∧ RuM w' rb src o
set_option maxHeartbeats 2000000 in
set_option maxRecDepth 20000 in
theorem rfail_any {w : World} {rb : Nat} {src : List UInt8} {o : StL} (h : RuM w rb src o) (at' rem : Nat) (hat : at' = src.length - rem) (e : Int) (he : e ≠ 0) : Calls Tryd.prog 33 #[.pointer (some ⟨rb, 0, none⟩), .int .i64 (at' : Int), .int .i64 e] w (RunP rb src (failS rem e o) w) := by
  subst hat
  obtain ⟨k, s, a, b, y, p, h1, h2, h3⟩ := h
  obtain ⟨c0, c1, c2, c3, c4, c5, c6⟩ := cell7 h1
  cases o with
  | ok st =>
    obtain ⟨rfl, rfl, rfl, rfl, rfl, rfl, h4⟩ := h3
    have fr := row_free h1
    have hw5 := Lib.hid (heap_set (heap_set h1 (i := 5) (.int .i64 e)) (i := 6) (.int .i64 ((src.length - rem : Nat) : Int)))
    have hc5 := Lib.hid (((Chg.refl (fun k => k = rb) w).setCell (p := ⟨rb, 5, none⟩) (.inl rfl) (.int .i64 e)).setCell (p := ⟨rb, 6, none⟩) (.inl rfl) (.int .i64 ((src.length - rem : Nat) : Int)))
    clear h1 h4
    go_enter Tryd.func33, Tryd.ntmps33
    go_wp2_with fail
    go_end0
    exact ⟨hc5.out, rfl, _, _, _, _, _, _, hw5.out, h2, rfl, rfl, he⟩
  | error x =>
    obtain ⟨rfl, rfl, h4⟩ := h3
    have g5 : (x.2 == 0) = false := by rw [beq_eq_false_iff_ne]; exact h4
    have Hr := Lib.hid (show RuM w rb src (.error x) from ⟨k, s, a, b, _, _, h1, h2, rfl, rfl, h4⟩)
    clear h1 h4
    go_enter Tryd.func33, Tryd.ntmps33
    go_wp2_with fail
    go_end0
    exact ⟨Chg.refl _ _, rfl, Hr.out⟩
theorem rfail_err {w : World} {rb : Nat} {src : List UInt8} {x : FaultL} (h : RuM w rb src (.error x)) (a : Nat) (e : Int) : Calls Tryd.prog 33 #[.pointer (some ⟨rb, 0, none⟩), .int .i64 (a : Int), .int .i64 e] w (RunP rb src (.error x) w) := by
  obtain ⟨k, s, a', b, y, p, h1, h2, h3⟩ := h
  obtain ⟨c0, c1, c2, c3, c4, c5, c6⟩ := cell7 h1
  obtain ⟨rfl, rfl, h4⟩ := h3
  have g5 : (x.2 == 0) = false := by rw [beq_eq_false_iff_ne]; exact h4
  have Hr := Lib.hid (show RuM w rb src (.error x) from ⟨k, s, a', b, _, _, h1, h2, rfl, rfl, h4⟩)
  clear h1 h4
  go_enter Tryd.func33, Tryd.ntmps33
  go_wp2_with fail
  go_end0
  exact ⟨Chg.refl _ _, rfl, Hr.out⟩
set_option maxHeartbeats 2000000 in
set_option maxRecDepth 20000 in
theorem rhas_any {w : World} {rb : Nat} {src : List UInt8} {o : StL} (h : RuM w rb src o) (t : List UInt8) : Calls Tryd.prog 32 #[.pointer (some ⟨rb, 0, none⟩), .string (tx t)] w (SayAt (.bool (hasS o t)) w) := by
  obtain ⟨k, s, a, b, y, p, h1, h2, h3⟩ := h
  obtain ⟨c0, c1, c2, c3, c4, c5, c6⟩ := cell7 h1
  cases o with
  | ok st =>
    obtain ⟨rfl, rfl, rfl, rfl, rfl, rfl, h4⟩ := h3
    have en1 := txQ st.s
    have en2 := txQ t
    have Hv := Lib.hid (show hasS (.ok st) t = ((decide (st.kind = 1) || decide (st.kind = 2)) && (st.s == t)) from rfl)
    clear h1 h4
    by_cases k1 : st.kind = 1
    · have g1 : ((st.kind : Int) == 1) = true := by simp [k1]
      rw [decide_eq_true k1, Bool.true_or, Bool.true_and] at Hv
      clear k1
      cases hs : st.s == t with
      | true =>
        rw [hs] at Hv
        go_enter Tryd.func32, Tryd.ntmps32
        go_wp2_with fail
        go_ret
        exact ⟨by rw [Hv.out]; rfl, rfl⟩
      | false =>
        rw [hs] at Hv
        go_enter Tryd.func32, Tryd.ntmps32
        go_wp2_with fail
        go_ret
        exact ⟨by rw [Hv.out]; rfl, rfl⟩
    · have g1 : ((st.kind : Int) == 1) = false := by rw [beq_eq_false_iff_ne]; omega
      rw [decide_eq_false k1, Bool.false_or] at Hv
      by_cases k2 : st.kind = 2
      · have g2 : ((st.kind : Int) == 2) = true := by simp [k2]
        rw [decide_eq_true k2, Bool.true_and] at Hv
        clear k1 k2
        cases hs : st.s == t with
        | true =>
          rw [hs] at Hv
          go_enter Tryd.func32, Tryd.ntmps32
          go_wp2_with fail
          go_ret
          exact ⟨by rw [Hv.out]; rfl, rfl⟩
        | false =>
          rw [hs] at Hv
          go_enter Tryd.func32, Tryd.ntmps32
          go_wp2_with fail
          go_ret
          exact ⟨by rw [Hv.out]; rfl, rfl⟩
      · have g2 : ((st.kind : Int) == 2) = false := by rw [beq_eq_false_iff_ne]; omega
        rw [decide_eq_false k2, Bool.false_and] at Hv
        clear k1 k2
        go_enter Tryd.func32, Tryd.ntmps32
        go_wp2_with fail
        go_ret
        exact ⟨by rw [Hv.out]; rfl, rfl⟩
  | error x =>
    obtain ⟨rfl, rfl, h4⟩ := h3
    have g5 : (x.2 == 0) = false := by rw [beq_eq_false_iff_ne]; exact h4
    have Hv := Lib.hid (show hasS (.error x) t = false from rfl)
    clear h1 h4
    go_enter Tryd.func32, Tryd.ntmps32
    go_wp2_with fail
    go_ret
    exact ⟨by rw [Hv.out]; rfl, rfl⟩
end Go.Proofs.YtdgcpgbknfojhaaDoor
