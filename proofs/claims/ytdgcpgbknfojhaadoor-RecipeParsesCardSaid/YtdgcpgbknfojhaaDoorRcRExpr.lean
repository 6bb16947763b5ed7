/- The contract of the document's expr, given term's. Condition: the text is not too long. -/
import Derived.Test.YtdgcpgbknfojhaaDoorRcRun2


namespace Go.Proofs.YtdgcpgbknfojhaaDoor
set_option linter.unusedVariables false
open Go.ChangeShapes Go.WideShapes Go.ChangeAt Go.RowKit
/- a row of expressions, all of whose blocks are among P -/
def EbQ (P : Nat → Prop) (w : World) (lo : Nat) (v : Value) (acc : List ExL) : Prop := lo ≤ w.heap.size ∧ (∀ k, v.ownBlock = some k → P k) ∧ ∃ xs, w.ownsRow lo 26 3 v acc.length xs ∧ ExR w (fun x => EbS lo v w x ∧ P x) acc xs
theorem EbQ.eb {P : Nat → Prop} {w : World} {lo : Nat} {v : Value} {acc : List ExL} (h : EbQ P w lo v acc) : Eb w lo v acc := by
  obtain ⟨a, _, xs, h1, h2⟩ := h
  exact ⟨a, xs, h1, h2.keep (Chg.refl NoB w) (fun _ _ => id) fun k hk => hk.1⟩
theorem EbQ.nil (P : Nat → Prop) (w : World) (lo : Nat) (h : lo ≤ w.heap.size) : EbQ P w lo (.slice none 0 0) [] := ⟨h, (fun k e => by cases e), [], World.ownsRow_nil _ _ _ _, trivial⟩
theorem EbQ.keep {P : Nat → Prop} {w w' : World} {lo : Nat} {v : Value} {acc : List ExL} {T : Nat → Prop} (h : EbQ P w lo v acc) (hc : Chg T w w') (hT : ∀ k, k < w.heap.size → lo ≤ k → P k → ¬ T k) : EbQ P w' lo v acc := by
  obtain ⟨hl, hp, xs, h1, h2⟩ := h
  refine ⟨Nat.le_trans hl hc.size, hp, xs, ownsRow_chg h1 hc fun k hk => hT k (h1.lt k hk).2 (h1.lt k hk).1 (hp k hk), h2.keep hc (fun k hk => hT k hk.1.1.2 hk.1.1.1 hk.2) fun k hk => ⟨⟨⟨hk.1.1.1, Nat.lt_of_lt_of_le hk.1.1.2 hc.size⟩, hk.1.2⟩, hk.2⟩⟩
theorem EbQ.push {P : Nat → Prop} {w w2 w' : World} {lo N : Nat} {v v' : Value} {acc : List ExL} {xs : List Value} {n : ExL} {s : Value} {kb ko : Nat} (hP : ∀ k, N ≤ k → P k) (hp0 : ∀ k, v.ownBlock = some k → P k) (hN : ∀ k, v.ownBlock = some k → k < N) (hl : lo ≤ N) (hlw : N ≤ w.heap.size) (h2 : ExR w (fun x => EbS lo v w x ∧ P x) acc xs)
    (ha : n.s.length ≤ maxLen) (hs : ExS w (fun x => N ≤ x ∧ x < w.heap.size) s n.kids kb ko) (hc2 : Chg NoB w w2)
    (hown : w'.ownsRow lo 26 3 v' (acc.length + 1) (xs ++ [.int .i64 n.kind, .string (tx n.s), s])) (hg : w2.grownBy w' v.ownBlock) (hp : v'.ownBlock = v.ownBlock ∨ v'.ownBlock = some w2.heap.size) : EbQ P w' lo v' (acc ++ [n]) := by
  have z2 := hc2.size
  have z3 := hg.size
  have hgc : Chg (fun k => v.ownBlock = some k) w2 w' := (Chg.refl _ w2).grown hg fun k hk => .inl hk
  refine ⟨by omega, fun k hk => ?_, _, by rw [List.length_append]; exact hown, ?_⟩
  · rcases hp with hp | hp
    · rw [hp] at hk; exact hp0 k hk
    · rw [hp] at hk; simp only [Option.some.injEq] at hk; exact hP k (by omega)
  refine ExR.snoc (kb := kb) (ko := ko) ha ?_ ?_
  · refine ((hs.keep hc2 fun _ _ => id).keep hgc fun x hx hv => ?_).mono fun x hx => ⟨⟨⟨by omega, by omega⟩, fun hv => ?_⟩, hP x hx.1⟩
    · have := hN x hv; omega
    · rcases hp with hp | hp
      · rw [hp] at hv; have := hN x hv; omega
      · rw [hp] at hv; simp only [Option.some.injEq] at hv; omega
  · refine (h2.keep hc2 (fun _ _ => id) (S' := fun x => EbS lo v w x ∧ P x) fun _ => id).keep hgc (fun x hx hv => hx.1.2 hv) fun x hx => ⟨⟨⟨hx.1.1.1, by have := hx.1.1.2; omega⟩, fun hv => ?_⟩, hx.2⟩
    rcases hp with hp | hp
    · rw [hp] at hv; exact hx.1.2 hv
    · rw [hp] at hv; simp only [Option.some.injEq] at hv; have := hx.1.1.2; omega
theorem EbQ.one {P : Nat → Prop} {w w3 : World} {b lo : Nat} {x : ExL} {s : Value} {kb ko : Nat} (hw : w.alloc (.cells #[.int .i64 x.kind, .string (tx x.s), s] 26) = w3) (hb : b = w.heap.size) (hlo : lo ≤ w.heap.size) (hx : x.s.length ≤ maxLen) (hs : ExS w (fun k => lo ≤ k ∧ k < w.heap.size) s x.kids kb ko) (hP : ∀ k, k < w3.heap.size → P k) : EbQ P w3 lo (.slice (some ⟨b, 0, none⟩) 1 1) [x] := by
  have hz : w3.heap.size = w.heap.size + 1 := by rw [← hw, alloc_size]
  obtain ⟨a, xs, h1, h2⟩ := Eb.one hw hb hlo hx hs
  refine ⟨a, fun k hk => hP k ?_, xs, h1, h2.keep (Chg.refl NoB w3) (fun _ _ => id) fun k hk => ⟨hk, hP k hk.1.2⟩⟩
  simp only [Value.ownBlock, Option.some.injEq] at hk
  omega
theorem EbQ.shape {P : Nat → Prop} {w : World} {lo : Nat} {v : Value} {acc : List ExL} (h : EbQ P w lo v acc) : ∃ q cap, v = .slice q acc.length cap ∧ acc.length ≤ cap ∧ cap ≤ maxLen := h.eb.shape
theorem EbQ.lt {P : Nat → Prop} {w : World} {lo : Nat} {v : Value} {acc : List ExL} (h : EbQ P w lo v acc) : ∀ k, v.ownBlock = some k → (lo ≤ k ∧ k < w.heap.size) ∧ P k := fun k hk => ⟨h.eb.lt k hk, h.2.1 k hk⟩
theorem wpList_exq {P : Nat → Prop} {w w2 : World} {ops : Array Oper} {rest : List Oper} {o : Oper} {a : Act} {Q : Exit → Act → World → Prop} (hgd : o.guard = none) (s x : Operand)
    (ho : o.op = .call { callee := .builtin .append, args := #[s, x], argTypes := #[24, 24] })
    {lo N : Nat} {v sv : Value} {acc : List ExL} {y : ExL} {b kb ko : Nat} (hP : ∀ k, N ≤ k → P k) (hE : EbQ P w lo v acc) (hN : ∀ k, v.ownBlock = some k → k < N) (hl : lo ≤ N) (hlw : N ≤ w.heap.size) (hy : y.s.length ≤ maxLen) (hys : ExS w (fun k => N ≤ k ∧ k < w.heap.size) sv y.kids kb ko) (hc2 : Chg NoB w w2)
    (hs : a.eval s = v) (hx : a.eval x = .slice (some ⟨b, 0, none⟩) 1 1) (hb : w2.heap[b]? = some (.cells #[.int .i64 y.kind, .string (tx y.s), sv] 26 (0, 0))) (hlen : acc.length + 1 ≤ 1048576)
    (h : ∀ v' w', EbQ P w' lo v' (acc ++ [y]) → Chg (fun j => v.ownBlock = some j) w2 w' → wpList Tryd.prog ops Q rest (a.put o.dst v') w') : wpList Tryd.prog ops Q (o :: rest) a w2 := by
  obtain ⟨i0, hi, hz0, hz1, hz2⟩ := info_three exInfo
  obtain ⟨hlo, hp0, xs, hown, hrow⟩ := hE
  have hown2 := ownsRow_chg hown hc2 fun _ _ => id
  obtain ⟨q, c, rfl, -⟩ := hys.sh
  refine wpList_append_at w2 hgd s x 24 ho lo 26 i0 (.agg #[.int .i64 0, .string ⟨#[]⟩, .slice none 0 0]) 3 48 Tryd.underlying24 hi hz0 hz1 hz2 rfl (by decide) v acc.length xs hs hown2 ⟨b, 0, none⟩ 1 1 [.int .i64 y.kind, .string (tx y.s), .slice q y.kids.length c] hx rfl (fun j u hj => ?_) (one3 _ _ _ _ _) (by unfold maxLen; omega) (by omega) (Nat.le_trans hlo hc2.size) ?_
  · rw [add_zero_off, cell_of_row w2 b j _ _ (0, 0) hb, ← hj]
    simp
  · intro v' w' h1 h2 h3
    exact h v' w' (EbQ.push hP hp0 hN hl hlw hrow hy hys hc2 h1 h2 h3) ((Chg.refl _ w2).grown h2 fun k hk => .inl hk)
/- readings of a state that may have a fault -/
def runO (t : TermL) : StL → Except FaultL (ExL × RdL)
  | .ok st => t st
  | .error z => .error z
def stO : Except FaultL (ExL × RdL) → StL
  | .ok x => .ok x.2
  | .error z => .error z
def moreO (t : TermL) (m : Nat) (acc : List ExL) : StL → Except FaultL (List ExL × RdL)
  | .ok st => moreF t m acc st
  | .error z => .error z
def finE : Except FaultL (List ExL × RdL) → Except FaultL (ExL × RdL)
  | .ok x => .ok (sumE x.1, x.2)
  | .error z => .error z
def RExP (rb : Nat) (src : List UInt8) (R : Except FaultL (ExL × RdL)) (w : World) (e : Ending) (w' : World) : Prop := Chg (fun k => k = rb) w w' ∧ RuM w' rb src (stO R) ∧ ∃ v x, e = .returned v ∧ ExV w' (fun k => w.heap.size ≤ k ∧ k < w'.heap.size) v x ∧ ∀ y st, R = .ok (y, st) → x = y
def RTermOk (t : TermL) (n : Int) (rb : Nat) (src : List UInt8) : Prop := ∀ (w : World) (o : StL), RuM w rb src o → Calls Tryd.prog 56 #[.pointer (some ⟨rb, 0, none⟩), .int .i64 n] w (RExP rb src (runO t o) w)
def RExprOk (t : TermL) (n : Int) (rb : Nat) (src : List UInt8) : Prop := ∀ (w : World) (o : StL), RuM w rb src o → Calls Tryd.prog 31 #[.pointer (some ⟨rb, 0, none⟩), .int .i64 n] w (RExP rb src (runO t o) w)
theorem expr_stop {t : TermL} {o : StL} (h : hasS (stO (runO t o)) [43] = false) (hk : ∀ st, stO (runO t o) = .ok st → TokOk st) : runO (exprW t) o = runO t o := by
  cases o with
  | error z => rfl
  | ok st =>
    show exprW t st = t st
    unfold exprW
    cases h1 : t st with
    | error z => rfl
    | ok p =>
      obtain ⟨x, s1⟩ := p
      have h2 : hasS (.ok s1) [43] = false := by simpa only [runO, h1, stO] using h
      have h3 := hk s1 (by simp only [runO, h1, stO])
      rw [has_sign h3 (by decide)] at h2
      simp only
      rw [moreF, if_neg (by rw [h2]; decide)]
      rfl
theorem expr_goes {t : TermL} {o : StL} {s1 : RdL} {x : ExL} (h1 : runO t o = .ok (x, s1)) : runO (exprW t) o = finE (moreF t (s1.rest.length + 1) [x] s1) := by
  cases o with
  | error z => cases h1
  | ok st =>
    show exprW t st = _
    have h2 : t st = .ok (x, s1) := h1
    unfold exprW
    rw [h2]
    simp only
    cases moreF t (s1.rest.length + 1) [x] s1 with
    | error z => rfl
    | ok p => rfl
def leftR (rb L : Nat) (w : World) : Nat := if intOf ((w.cell? ⟨rb, 5, none⟩).getD undef) = 0 then 1 + (L - (intOf ((w.cell? ⟨rb, 4, none⟩).getD undef)).toNat) else 0
theorem leftR_ok {w : World} {rb : Nat} {src : List UInt8} {st : RdL} (h : RuM w rb src (.ok st)) : leftR rb src.length w = 1 + st.rest.length := by
  obtain ⟨k, s, a, b, y, p, h1, h2, h3⟩ := h
  obtain ⟨c0, c1, c2, c3, c4, c5, c6⟩ := cell7 h1
  obtain ⟨rfl, rfl, rfl, rfl, rfl, rfl, hs, h4⟩ := h3
  unfold leftR
  rw [c4, c5]
  have := hs.length_le
  simp only [Option.getD_some, intOf, if_true]
  omega
theorem leftR_bad {w : World} {rb : Nat} {src : List UInt8} {x : FaultL} (h : RuM w rb src (.error x)) : leftR rb src.length w = 0 := by
  obtain ⟨k, s, a, b, y, p, h1, h2, h3⟩ := h
  obtain ⟨c0, c1, c2, c3, c4, c5, c6⟩ := cell7 h1
  unfold leftR
  rw [c5]
  exact if_neg (show ¬ y = 0 by rw [h3.1]; exact h3.2.2)
set_option maxHeartbeats 8000000 in
set_option maxRecDepth 20000 in
theorem rexpr_of {t : TermL} {n : Int} {rb : Nat} {src : List UInt8} (ht : RTermOk t n rb src) (g : GoodT t) (hl : src.length ≤ 8192) : RExprOk (exprW t) n rb src := by
  intro w o hr
  have Ht := Lib.hid ht
  have G := Lib.hid g
  have hbw : rb < w.heap.size := hr.lt
  have hal_ := (Chg.refl NoB w).alloc (.cells #[.int .i64 0, .string ⟨#[]⟩, .slice none 0 0] 26)
  have hb_ := heap_alloc_new w (.cells #[.int .i64 0, .string ⟨#[]⟩, .slice none 0 0] 26)
  obtain ⟨b4, hxb_⟩ : ∃ b, b = w.heap.size := ⟨_, rfl⟩
  obtain ⟨w1, hw_⟩ : ∃ w_, w.alloc (.cells #[.int .i64 0, .string ⟨#[]⟩, .slice none 0 0] 26) = w_ := ⟨_, rfl⟩
  have hz_ : w1.heap.size = b4 + 1 := by rw [← hw_, hxb_]; exact alloc_size _ _
  rw [hw_] at hal_ hb_
  rw [← hxb_] at hb_
  have Hw4 := Lib.hid hw_
  have Hx4 := Lib.hid hxb_
  have Ha4 := Lib.hid hal_
  have Hb4 := Lib.hid hb_
  have Hz4 := Lib.hid hz_
  clear hal_ hb_ hxb_ hw_ hz_
  have HT1 := Lib.hid (Ht.out w1 o (hr.keep Ha4.out))
  have Hst := Lib.hid (expr_stop (t := t) (o := o))
  have Hgo := Lib.hid (fun s1 x => expr_goes (t := t) (o := o) (s1 := s1) (x := x))
  clear ht g hr
  generalize runO (exprW t) o = R at *
  generalize runO t o = R1 at *
  go_enter Tryd.func31, Tryd.ntmps31
  go_upto_region 1 with fail
  rw [Hw4.out, ← Hx4.out]
  go_wp2_with fail
  refine HT1.out.mono ?_
  rintro e w2 ⟨hc2, hr2, v, x, rfl, hv, hx⟩
  obtain ⟨q, nk, c, kb, ko, rfl, hxl, hxs⟩ := hv.shape
  have Hc2 := Lib.hid ((Ha4.out.mono fun _ _ h => h.elim).trans hc2 : Chg (fun k => k = rb) w w2)
  have Hb42 := Lib.hid (row_kept hc2 Hb4.out (by have := Hx4.out; omega))
  have Hlo := Lib.hid (show w1.heap.size ≤ w2.heap.size ∧ b4 < w1.heap.size ∧ rb < b4 ∧ b4 = w.heap.size from ⟨hc2.size, by rw [Hz4.out]; have := Hx4.out; omega, by have := Hx4.out; omega, Hx4.out⟩)
  have HX := Lib.hid hx
  have hal_ := (Chg.refl NoB w2).alloc (.cells #[.int .i64 x.kind, .string (tx x.s), .slice q nk c] 26)
  have hb_ := heap_alloc_new w2 (.cells #[.int .i64 x.kind, .string (tx x.s), .slice q nk c] 26)
  obtain ⟨b5, hxb_⟩ : ∃ b, b = w2.heap.size := ⟨_, rfl⟩
  obtain ⟨w3, hw_⟩ : ∃ w_, w2.alloc (.cells #[.int .i64 x.kind, .string (tx x.s), .slice q nk c] 26) = w_ := ⟨_, rfl⟩
  have hz_ : w3.heap.size = b5 + 1 := by rw [← hw_, hxb_]; exact alloc_size _ _
  rw [hw_] at hal_ hb_
  rw [← hxb_] at hb_
  have Hw5 := Lib.hid hw_
  have Hx5 := Lib.hid hxb_
  have Ha5 := Lib.hid hal_
  have Hb5 := Lib.hid hb_
  have Hz5 := Lib.hid hz_
  clear hal_ hb_ hxb_ hw_ hz_
  have Hr3 := Lib.hid (hr2.keep Ha5.out)
  have Hxs := Lib.hid ((hxs.keep Ha5.out fun _ _ => id).mono (T := fun k => w1.heap.size ≤ k ∧ k < w2.heap.size) fun k hk => hk)
  have Hb43 := Lib.hid (row_kept Ha5.out Hb42.out id)
  have Hc3 := Lib.hid (Hc2.out.trans (Ha5.out.mono fun _ _ h => h.elim))
  have HH := Lib.hid (rhas_any Hr3.out [43])
  clear hc2 HT1 hr2 hv hx hxs Hb42 Hc2
  go_upto_region 2 with fail
  rw [Hw5.out, ← Hx5.out]
  obtain ⟨e0, e1, e2⟩ := var3 Hb5.out
  cases hh : hasS (stO R1) [43] with
  | false =>
    rw [hh] at HH
    go_wp2_with fail
    refine HH.out.mono ?_
    rintro e w4 ⟨rfl, rfl⟩
    have Hfin := Lib.hid (Hst.out hh fun st e => (show RuM w4 rb src (.ok st) by rw [← e]; exact Hr3.out).tok)
    obtain rfl : R = R1 := Hfin.out
    have fr := row_free Hb43.out
    obtain ⟨d0, d1, d2⟩ := var3 Hb43.out
    have HS := set3x Hb43.out
    clear hh HH Hst Hgo
    go_wp2_with fail
    refine bodyPost_ret (results_cellE rfl _ rfl (run_loadVar_row _ _ _ _ _ _ _ (HS _ _ _).1 (Tryd.underlying26) rfl rfl)) rfl ⟨Hc3.out.wide (HS _ _ _).2 fun k hk e => by have := Hlo.out; omega, ?_⟩
    refine ⟨Hr3.out.chg (HS _ _ _).2 fun e => by have := Hlo.out; omega, _, x, rfl, ⟨hxl, _, kb, ko, rfl, (Hxs.out.keep (HS _ _ _).2 fun k hk e => by have := Hlo.out; omega).mono fun k hk => ⟨by have := Hlo.out; omega, Nat.lt_of_lt_of_le hk.2 (Nat.le_trans (by rw [Hz5.out]; have := Hx5.out; omega) (HS _ _ _).2.size)⟩⟩, HX.out⟩
  | true =>
    rw [hh] at HH
    obtain ⟨s1, hR1⟩ : ∃ s1, R1 = .ok (x, s1) := by
      cases R1 with
      | error z => cases hh
      | ok p =>
        obtain ⟨y, s1⟩ := p
        exact ⟨s1, by rw [HX.out y s1 rfl]⟩
    have Hfin := Lib.hid (Hgo.out s1 x hR1)
    subst hR1
    have Hr3' := Lib.hid (show RuM w3 rb src (.ok s1) from Hr3.out)
    have hsuf : s1.rest.length ≤ src.length := by
      obtain ⟨k, s, a, b, y, p, h1, h2, h3⟩ := Hr3'.out
      exact h3.2.2.2.2.2.2.1.length_le
    have Hh1 := Lib.hid (show hasS (.ok s1) [43] = true from hh)
    clear hh Hst Hgo HX Hr3
    have hal_ := (Chg.refl NoB w3).alloc (.cells #[.int .i64 x.kind, .string (tx x.s), .slice q nk c] 26)
    have hb_ := heap_alloc_new w3 (.cells #[.int .i64 x.kind, .string (tx x.s), .slice q nk c] 26)
    obtain ⟨b16, hxb_⟩ : ∃ b, b = w3.heap.size := ⟨_, rfl⟩
    obtain ⟨w4, hw_⟩ : ∃ w_, w3.alloc (.cells #[.int .i64 x.kind, .string (tx x.s), .slice q nk c] 26) = w_ := ⟨_, rfl⟩
    have hz_ : w4.heap.size = b16 + 1 := by rw [← hw_, hxb_]; exact alloc_size _ _
    rw [hw_] at hal_ hb_
    rw [← hxb_] at hb_
    have Hw16 := Lib.hid hw_
    have Hx16 := Lib.hid hxb_
    have Ha16 := Lib.hid hal_
    have Hb16 := Lib.hid hb_
    have Hz16 := Lib.hid hz_
    clear hal_ hb_ hxb_ hw_ hz_
    have hal_ := (Chg.refl NoB w4).alloc (.cells #[.int .i64 3, .string ⟨#[]⟩, .slice (some ⟨b16, 0, none⟩) 1 1] 26)
    have hb_ := heap_alloc_new w4 (.cells #[.int .i64 3, .string ⟨#[]⟩, .slice (some ⟨b16, 0, none⟩) 1 1] 26)
    obtain ⟨b6, hxb_⟩ : ∃ b, b = w4.heap.size := ⟨_, rfl⟩
    obtain ⟨w5, hw_⟩ : ∃ w_, w4.alloc (.cells #[.int .i64 3, .string ⟨#[]⟩, .slice (some ⟨b16, 0, none⟩) 1 1] 26) = w_ := ⟨_, rfl⟩
    have hz_ : w5.heap.size = b6 + 1 := by rw [← hw_, hxb_]; exact alloc_size _ _
    rw [hw_] at hal_ hb_
    rw [← hxb_] at hb_
    have Hw6 := Lib.hid hw_
    have Hx6 := Lib.hid hxb_
    have Ha6 := Lib.hid hal_
    have Hb6 := Lib.hid hb_
    have Hz6 := Lib.hid hz_
    clear hal_ hb_ hxb_ hw_ hz_
    have Hlo6 := Lib.hid (show w2.heap.size ≤ w3.heap.size ∧ w3.heap.size ≤ w4.heap.size ∧ b6 = w4.heap.size ∧ w5.heap.size = b6 + 1 from ⟨Ha5.out.size, Ha16.out.size, Hx6.out, Hz6.out⟩)
    have HE := Lib.hid ((EbQ.one (P := fun k => k ≠ b6) (lo := w1.heap.size) Hw16.out Hx16.out (by have := Hlo.out; have := Hlo6.out; omega) hxl (Hxs.out.mono fun k hk => ⟨hk.1, by have := Hlo6.out; omega⟩) (fun k hk => by have := Hlo6.out; omega)).keep Ha6.out fun _ _ _ _ => id)
    have Hr5 := Lib.hid ((Hr3'.out.keep Ha16.out).keep Ha6.out)
    have Hb45 := Lib.hid (row_kept Ha6.out (row_kept Ha16.out Hb43.out id) id)
    have Hc5 := Lib.hid ((Hc3.out.trans (Ha16.out.mono fun _ _ h => h.elim)).trans (Ha6.out.mono fun _ _ h => h.elim))
    clear Hb43 Hr3' Hxs
    go_wp2_with fail
    refine HH.out.mono ?_
    rintro e w4' ⟨rfl, rfl⟩
    clear HH
    go_wp2_with fail
    have hb6e : b6 = b16 + 1 := by rw [Hx6.out, Hz16.out]
    rw [Hw16.out, ← Hx16.out, Hw6.out, ← hb6e]
    clear hb6e
    go_loopw [] (fun wr => ∃ (acc : List ExL) (oo : StL) (m : Nat) (v : Value), moreO t m acc oo = moreF t (s1.rest.length + 1) [x] s1 ∧ (∀ st, oo = .ok st → st.rest.length < m ∧ acc.length + st.rest.length ≤ src.length + 1) ∧ 1 ≤ acc.length ∧ acc.length ≤ src.length + 2 ∧ (hasS oo [43] = false → 2 ≤ acc.length) ∧ RuM wr rb src oo ∧ EbQ (fun k => k ≠ b6) wr w1.heap.size v acc ∧ wr.heap[b6]? = some (.cells #[.int .i64 3, .string ⟨#[]⟩, v] 26 (0, 0)) ∧ wr.heap[b4]? = some (.cells #[.int .i64 0, .string ⟨#[]⟩, .slice none 0 0] 26 (0, 0)) ∧ Chg (fun k => k = rb) w wr) (fun wr => leftR rb src.length wr)
    case atStart => exact ⟨[x], .ok s1, _, _, rfl, (fun st e => by cases e; exact ⟨Nat.lt_succ_self _, by show 1 + _ ≤ _; omega⟩), Nat.le_refl _, by show 1 ≤ _; omega, (fun e => by rw [Hh1.out] at e; cases e), Hr5.out, HE.out, Hb6.out, Hb45.out, Hc5.out⟩
    case round =>
      obtain ⟨acc, oo, m, v, hm, hlt, h1, h2, h3, hr, hE, hb6, hb4, hc⟩ := hrel
      obtain ⟨qa, ca, rfl, hca⟩ := hE.shape
      have HH := Lib.hid (rhas_any hr [43])
      have HS := Lib.hid (rstep_any hr hl)
      have Hr6 := Lib.hid hr
      have Hb66 := Lib.hid hb6
      have Hb46 := Lib.hid hb4
      have Hc6 := Lib.hid hc
      have Hm := Lib.hid hm
      have Hlt := Lib.hid hlt
      have H3 := Lib.hid h3
      obtain ⟨na, hna⟩ : ∃ n, n = acc.length := ⟨_, rfl⟩
      rw [← hna] at h1 h2 hca hE hb6 Hb66
      have Hna := Lib.hid hna
      have HE6 := Lib.hid hE
      obtain ⟨f0, f1, f2⟩ := var3 hb6
      clear hr hb4 hc hm hlt h3 hna hE hb6 HE Hr5 Hb45 Hc5 Hb6
      cases hh : hasS oo [43] with
      | false =>
        rw [hh] at HH
        have hn2 := H3.out hh
        rw [← Hna.out] at hn2
        have fr := row_free Hb46.out
        obtain ⟨d0, d1, d2⟩ := var3 Hb46.out
        have HS3 := set3x Hb46.out
        obtain ⟨kb2, ko2, hys⟩ := HE6.out.eb.nds
        have Hys := Lib.hid hys
        have HR := Lib.hid (show stO R = oo ∧ ∀ y st, R = .ok (y, st) → (ExL.mk 3 [] acc) = y from by
          rw [Hfin.out, ← Hm.out]
          cases oo with
          | error z => exact ⟨rfl, fun y st e => by cases e⟩
          | ok st =>
            have h5 : st.is 2 [43] = false := by rw [← has_sign Hr6.out.tok (by decide)]; exact hh
            have h6 : moreO t m acc (.ok st) = .ok (acc, st) := by
              cases m with
              | zero => rfl
              | succ m => show moreF t (m + 1) acc st = _; rw [moreF, if_neg (by rw [h5]; decide)]
            rw [h6]
            refine ⟨rfl, fun y st' e => ?_⟩
            have e2 : sumE acc = y := by cases e; rfl
            rw [← e2, sumE_two (by rw [← Hna.out]; omega) (by rw [← Hna.out]; omega)])
        clear hh hys hn2 HS Hlt H3 Hm Hfin
        generalize R = R' at *
        go_wp2_with fail
        refine HH.out.mono ?_
        rintro e w7 ⟨rfl, rfl⟩
        go_wp2_with fail
        refine bodyPost_ret (results_cellE rfl _ rfl (run_loadVar_row _ _ _ _ _ _ _ (HS3 _ _ _).1 (Tryd.underlying26) rfl rfl)) rfl ⟨Hc6.out.wide (HS3 _ _ _).2 fun k hk e => by have := Hlo.out; omega, ?_⟩
        refine ⟨by rw [HR.out.1]; exact Hr6.out.chg (HS3 _ _ _).2 fun e => by have := Hlo.out; omega, _, _, rfl, ⟨Nat.zero_le _, _, kb2, ko2, rfl, (Hys.out.keep (HS3 _ _ _).2 fun k hk e => by have := Hlo.out; omega).mono fun k hk => ⟨by have := Hlo.out; omega, Nat.lt_of_lt_of_le hk.2 (HS3 _ _ _).2.size⟩⟩, HR.out.2⟩
      | true =>
        rw [hh] at HH
        obtain ⟨st, rfl⟩ : ∃ st, oo = .ok st := by
          cases oo with
          | error z => cases hh
          | ok st => exact ⟨st, rfl⟩
        have h5 : st.is 2 [43] = true := by rw [← has_sign Hr6.out.tok (by decide)]; exact hh
        obtain ⟨hlt1, hlt2⟩ := Hlt.out st rfl
        rw [← Hna.out] at hlt2
        obtain ⟨m, rfl⟩ : ∃ m', m = m' + 1 := ⟨m - 1, by omega⟩
        have Hstep := Lib.hid (show ∀ (o2 : StL) (R2 : Except FaultL (ExL × RdL)) (y : ExL), o2 = takeF st.rest → R2 = runO t o2 → (∀ z s2, R2 = .ok (z, s2) → y = z) → moreO t m (acc ++ [y]) (stO R2) = moreF t (s1.rest.length + 1) [x] s1 from by
          intro o2 R2 y e1 e2 e3
          rw [← Hm.out]
          show _ = moreF t (m + 1) acc st
          rw [moreF, if_pos h5, ← e1]
          cases o2 with
          | error z => subst e2; rfl
          | ok s2 =>
            simp only
            have e4 : t s2 = R2 := e2.symm
            rw [e4]
            cases R2 with
            | error z => rfl
            | ok p =>
              obtain ⟨z, s3⟩ := p
              have := e3 z s3 rfl
              subst this
              rfl)
        have Hdec := Lib.hid (show ∀ (o2 : StL) (R2 : Except FaultL (ExL × RdL)) (s3 : RdL), o2 = takeF st.rest → R2 = runO t o2 → stO R2 = .ok s3 → s3.rest.length < st.rest.length from by
          intro o2 R2 s3 e1 e2 e3
          cases o2 with
          | error z => subst e2; cases e3
          | ok s2 =>
            cases R2 with
            | error z => cases e3
            | ok p =>
              obtain ⟨z, s4⟩ := p
              have e5 : s4 = s3 := by cases e3; rfl
              subst e5
              have e4 : t s2 = .ok (z, s4) := e2.symm
              have h6 := takeF_le e1.symm
              have h7 := G.out.kind e4
              have h8 := G.out.le e4
              have h9 := h6.2 h7
              omega)
        have Hleft := Lib.hid (leftR_ok Hr6.out)
        have Hso := Lib.hid (show stepS (.ok st) = takeF st.rest from rfl)
        rw [Hso.out] at HS
        clear hh h5 H3 Hm Hlt
        generalize takeF st.rest = o2 at *
        go_wp2_with fail
        refine HH.out.mono ?_
        rintro e w7 ⟨rfl, rfl⟩
        go_wp2_with fail
        refine HS.out.mono ?_
        rintro e w8 ⟨hc8, rfl, hr8⟩
        have HT := Lib.hid (Ht.out w8 o2 hr8)
        have HE8 := Lib.hid (HE6.out.keep hc8 fun k h1 h2 h3 e => by have := Hlo.out; omega)
        have Hb68 := Lib.hid (row_kept hc8 Hb66.out (by have := Hlo.out; have := Hlo6.out; omega))
        have Hb48 := Lib.hid (row_kept hc8 Hb46.out (by have := Hlo.out; omega))
        have Hc8 := Lib.hid (Hc6.out.trans hc8)
        have hsz8 := hc8.size
        have hb6lt := lt_of_block Hb66.out
        have Hsz := Lib.hid (show b6 < w8.heap.size ∧ w1.heap.size ≤ w8.heap.size from ⟨by omega, HE8.out.1⟩)
        have Hst2 := Lib.hid (fun R2 y => Hstep.out o2 R2 y rfl)
        have Hdec2 := Lib.hid (fun R2 s3 => Hdec.out o2 R2 s3 rfl)
        clear hc8 hr8 hsz8 hb6lt HS HE6 Hb66 Hb46 Hc6 f0 f1 f2 Hstep Hdec Hso Hr6
        generalize runO t o2 = R2 at *
        go_wp2_with fail
        refine HT.out.mono ?_
        rintro e w9 ⟨hc9, hr9, v9, y, rfl, hv9, hy⟩
        obtain ⟨q9, n9, c9, kb9, ko9, rfl, hyl, hys⟩ := hv9.shape
        have HE9 := Lib.hid (HE8.out.keep hc9 fun k h1 h2 h3 e => by have := Hlo.out; omega)
        have HN := Lib.hid (fun k hk => (HE8.out.lt k hk).1.2)
        have Hb69 := Lib.hid (row_kept hc9 Hb68.out (by have := Hlo.out; have := Hlo6.out; omega))
        have Hb49 := Lib.hid (row_kept hc9 Hb48.out (by have := Hlo.out; omega))
        have Hc9 := Lib.hid (Hc8.out.trans hc9)
        have Hys := Lib.hid hys
        have Hz9 := Lib.hid hc9.size
        have Hr9 := Lib.hid hr9
        have HEq := Lib.hid (Hst2.out R2 y rfl hy)
        have Hdq := Lib.hid (fun s3 => Hdec2.out R2 s3 rfl)
        clear hc9 hv9 hys hr9 hy HE8 Hb68 Hb48 Hc8 Hst2 Hdec2
        have Hob := Lib.hid (fun k (hk : (Value.slice qa na ca).ownBlock = some k) => HE9.out.lt k hk)
        have hal_ := (Chg.refl NoB w9).alloc (.cells #[.int .i64 y.kind, .string (tx y.s), .slice q9 n9 c9] 26)
        have hb_ := heap_alloc_new w9 (.cells #[.int .i64 y.kind, .string (tx y.s), .slice q9 n9 c9] 26)
        obtain ⟨b7, hxb_⟩ : ∃ b, b = w9.heap.size := ⟨_, rfl⟩
        obtain ⟨w10, hw_⟩ : ∃ w_, w9.alloc (.cells #[.int .i64 y.kind, .string (tx y.s), .slice q9 n9 c9] 26) = w_ := ⟨_, rfl⟩
        have hz_ : w10.heap.size = b7 + 1 := by rw [← hw_, hxb_]; exact alloc_size _ _
        rw [hw_] at hal_ hb_
        rw [← hxb_] at hb_
        have Hw7 := Lib.hid hw_
        have Hx7 := Lib.hid hxb_
        have Ha7 := Lib.hid hal_
        have Hb7 := Lib.hid hb_
        have Hz7 := Lib.hid hz_
        clear hal_ hb_ hxb_ hw_ hz_
        have hal_ := (Chg.refl NoB w10).alloc (.cells #[.int .i64 y.kind, .string (tx y.s), .slice q9 n9 c9] 26)
        have hb_ := heap_alloc_new w10 (.cells #[.int .i64 y.kind, .string (tx y.s), .slice q9 n9 c9] 26)
        obtain ⟨b28, hxb_⟩ : ∃ b, b = w10.heap.size := ⟨_, rfl⟩
        obtain ⟨w11, hw_⟩ : ∃ w_, w10.alloc (.cells #[.int .i64 y.kind, .string (tx y.s), .slice q9 n9 c9] 26) = w_ := ⟨_, rfl⟩
        have hz_ : w11.heap.size = b28 + 1 := by rw [← hw_, hxb_]; exact alloc_size _ _
        rw [hw_] at hal_ hb_
        rw [← hxb_] at hb_
        have Hw28 := Lib.hid hw_
        have Hx28 := Lib.hid hxb_
        have Ha28 := Lib.hid hal_
        have Hb28 := Lib.hid hb_
        have Hz28 := Lib.hid hz_
        clear hal_ hb_ hxb_ hw_ hz_
        have hnb : na + 1 ≤ 1048576 := by omega
        obtain ⟨f0, f1, f2⟩ := var3 (row_kept Ha7.out Hb69.out id)
        obtain ⟨g0, g1, g2⟩ := var3 Hb7.out
        go_upto_region 8 with fail
        rw [Hw7.out, ← Hx7.out]
        go_wp2_with (at_builtin; go_loud (rw [← Hx28.out, Hw28.out]); go_loud (refine wpList_exq (P := fun k => k ≠ b6) (w := w9) (v := .slice qa na ca) (y := y) (N := w8.heap.size) rfl _ _ rfl (fun k hk => by have := Hsz.out; omega) HE9.out HN.out Hsz.out.2 Hz9.out hyl Hys.out (Ha7.out.trans Ha28.out) rfl rfl Hb28.out (by rw [← Hna.out]; exact hnb) ?_); intro v12 w12 hE12 hc12; obtain ⟨q12, n12, c12, rfl⟩ := hE12.eb.shape2; have hob12 : ¬ (Value.slice qa na ca).ownBlock = some b6 := (fun e => (Hob.out b6 e).2 rfl); have hb612 := row_kept hc12 (row_kept Ha28.out (row_kept Ha7.out Hb69.out id) id) hob12; obtain ⟨h0, h1', h2'⟩ := var3 hb612; have fr12 := row_free hb612)
        have hcF := (Chg.refl (fun k => k = b6) w12).setCell (p := ⟨b6, 2, none⟩) (.inl rfl) (.slice q12 n12 c12)
        have hrF := heap_set hb612 (i := 2) (.slice q12 n12 c12)
        have hS1 : ∀ b : Nat, b < w1.heap.size → ¬ (Value.slice qa na ca).ownBlock = some b := fun b h1 h2 => by have := (Hob.out b h2).1.1; omega
        have Hr13 := Lib.hid (((Hr9.out.keep (Ha7.out.trans Ha28.out)).chg hc12 (hS1 rb (by have := Hlo.out; omega))).chg hcF fun e => by have := Hlo.out; have := Hlo6.out; omega)
        have Hb413 := Lib.hid (row_kept hcF (row_kept hc12 (row_kept (Ha7.out.trans Ha28.out) Hb49.out id) (hS1 b4 Hlo.out.2.1)) (by have := Hlo.out; have := Hlo6.out; omega))
        have Hc13 := Lib.hid (((Hc9.out.trans ((Ha7.out.trans Ha28.out).mono fun _ _ h => h.elim)).wide hc12 fun k hk e => by have := (Hob.out k e).1.1; have := Hlo.out; omega).wide hcF fun k hk e => by have := Hlo.out; have := Hlo6.out; omega)
        have HE13 := Lib.hid (hE12.keep hcF fun k _ _ h e => h e)
        have HrF := Lib.hid hrF
        clear hcF hrF hE12 hc12 hS1 hb612 hob12 f0 f1 f2 g0 g1 g2 h0 h1' h2' fr12
        go_roundw
        case rel => exact ⟨acc ++ [y], stO R2, m, _, HEq.out, (fun s3 e => by have := Hdq.out s3 e; rw [List.length_append, ← Hna.out]; exact ⟨by omega, by show na + 1 + _ ≤ _; omega⟩), by rw [List.length_append]; show 1 ≤ _ + 1; omega, by rw [List.length_append, ← Hna.out]; show na + 1 ≤ _; omega, (fun _ => by rw [List.length_append, ← Hna.out]; show 2 ≤ na + 1; omega), Hr13.out, HE13.out, HrF.out, Hb413.out, Hc13.out⟩
        case measure =>
          rw [Hleft.out]
          have hr13 := Hr13.out
          cases hR2 : stO R2 with
          | error z =>
            rw [hR2] at hr13
            rw [leftR_bad hr13]; omega
          | ok s3 =>
            rw [hR2] at hr13
            have := Hdq.out s3 hR2
            rw [leftR_ok hr13]; omega
end Go.Proofs.YtdgcpgbknfojhaaDoor
