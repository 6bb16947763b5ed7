/- The contracts of expr, given term's. Conditions: the text is not too long; the keywords read as listed. -/
import Derived.Test.YtdgcpgbknfojhaaDoorRcMust
import Derived.Test.YtdgcpgbknfojhaaDoorRcLen
import Derived.Test.YtdgcpgbknfojhaaDoorRcMem

namespace Go.Proofs.YtdgcpgbknfojhaaDoor
set_option linter.unusedVariables false
open Go.ChangeShapes Go.WideShapes Go.ChangeAt Go.RowKit
theorem exInfo : (Tryd.prog.info? 26).map (fun i => (i.zero, i.size, i.bytes)) = some (some (.agg #[.int .i64 0, .string ⟨#[]⟩, .slice none 0 0]), 3, 48) := by kernel_rfl
theorem info_three {P : Program} {e : TypeId} {z : Value} {s b : Nat} (h : (P.info? e).map (fun i => (i.zero, i.size, i.bytes)) = some (some z, s, b)) : ∃ i, P.info? e = some i ∧ i.zero = some z ∧ i.size = s ∧ i.bytes = b := by
  cases hi : P.info? e with
  | none => rw [hi] at h; cases h
  | some i =>
    rw [hi] at h
    simp only [Option.map_some, Option.some.injEq, Prod.mk.injEq] at h
    exact ⟨i, rfl, h.1, h.2.1, h.2.2⟩
theorem ExV.shape {w : World} {S : Nat → Prop} {v : Value} {x : ExL} (h : ExV w S v x) : ∃ q n c kb ko, v = .agg #[.int .i64 x.kind, .string (tx x.s), .slice q n c] ∧ x.s.length ≤ maxLen ∧ ExS w S (.slice q n c) x.kids kb ko := by
  obtain ⟨h1, s, kb, ko, rfl, hs⟩ := h
  obtain ⟨q, c, rfl, h2⟩ := hs.sh
  exact ⟨q, _, c, kb, ko, rfl, h1, hs⟩
/- a row of one -/
theorem Eb.one {w w3 : World} {b lo : Nat} {x : ExL} {s : Value} {kb ko : Nat} (hw : w.alloc (.cells #[.int .i64 x.kind, .string (tx x.s), s] 26) = w3) (hb : b = w.heap.size) (hlo : lo ≤ w.heap.size) (hx : x.s.length ≤ maxLen) (hs : ExS w (fun k => lo ≤ k ∧ k < w.heap.size) s x.kids kb ko) : Eb w3 lo (.slice (some ⟨b, 0, none⟩) 1 1) [x] := by
  subst hb
  have hc : Chg NoB w w3 := by rw [← hw]; exact (Chg.refl NoB w).alloc _
  have hz : w3.heap.size = w.heap.size + 1 := by rw [← hw, alloc_size]
  refine ⟨by omega, [.int .i64 x.kind, .string (tx x.s), s], by rw [← hw]; exact World.ownsRow_lit w #[.int .i64 x.kind, .string (tx x.s), s] 1 hlo (by decide) rfl, ⟨⟨rfl, rfl, hx, kb, ko, (hs.keep hc fun _ _ => id).mono fun k hk => ⟨⟨hk.1, by omega⟩, fun e => ?_⟩⟩, trivial⟩⟩
  simp only [Value.ownBlock, Option.some.injEq] at e
  omega
theorem wpList_ex {w w2 : World} {ops : Array Oper} {rest : List Oper} {o : Oper} {a : Act} {Q : Exit → Act → World → Prop} (hgd : o.guard = none) (s x : Operand)
    (ho : o.op = .call { callee := .builtin .append, args := #[s, x], argTypes := #[24, 24] })
    {lo N : Nat} {v sv : Value} {acc : List ExL} {y : ExL} {b kb ko : Nat} (hE : Eb w lo v acc) (hN : ∀ k, v.ownBlock = some k → k < N) (hl : lo ≤ N) (hlw : N ≤ w.heap.size) (hy : y.s.length ≤ maxLen) (hys : ExS w (fun k => N ≤ k ∧ k < w.heap.size) sv y.kids kb ko) (hc2 : Chg NoB w w2)
    (hs : a.eval s = v) (hx : a.eval x = .slice (some ⟨b, 0, none⟩) 1 1) (hb : w2.heap[b]? = some (.cells #[.int .i64 y.kind, .string (tx y.s), sv] 26 (0, 0))) (hlen : acc.length + 1 ≤ 1048576)
    (h : ∀ v' w', Eb w' lo v' (acc ++ [y]) → Chg (fun j => v.ownBlock = some j) w2 w' → wpList Tryd.prog ops Q rest (a.put o.dst v') w') : wpList Tryd.prog ops Q (o :: rest) a w2 := by
  obtain ⟨i0, hi, hz0, hz1, hz2⟩ := info_three exInfo
  obtain ⟨hlo, xs, hown, hrow⟩ := hE
  have hown2 := ownsRow_chg hown hc2 fun _ _ => id
  obtain ⟨q, c, rfl, -⟩ := hys.sh
  refine wpList_append_at w2 hgd s x 24 ho lo 26 i0 (.agg #[.int .i64 0, .string ⟨#[]⟩, .slice none 0 0]) 3 48 Tryd.underlying24 hi hz0 hz1 hz2 rfl (by decide) v acc.length xs hs hown2 ⟨b, 0, none⟩ 1 1 [.int .i64 y.kind, .string (tx y.s), .slice q y.kids.length c] hx rfl (fun j u hj => ?_) (one3 _ _ _ _ _) (by unfold maxLen; omega) (by omega) (Nat.le_trans hlo hc2.size) ?_
  · rw [add_zero_off, cell_of_row w2 b j _ _ (0, 0) hb, ← hj]
    simp
  · intro v' w' h1 h2 h3
    exact h v' w' (Eb.push hN hl hlw hrow hy hys hc2 h1 h2 h3) ((Chg.refl _ w2).grown h2 fun k hk => .inl hk)
theorem Eb.lt {w : World} {lo : Nat} {v : Value} {acc : List ExL} (h : Eb w lo v acc) : ∀ k, v.ownBlock = some k → lo ≤ k ∧ k < w.heap.size := by
  obtain ⟨_, xs, h1, _⟩ := h
  exact fun k hk => World.ownsRow.lt h1 k hk
/- the first of a row -/
theorem Eb.first {w : World} {lo : Nat} {q : Option Addr} {n c : Nat} {y : ExL} {r : List ExL} (h : Eb w lo (.slice q n c) (y :: r)) : ∃ g s kb ko, q = some ⟨g, 0, none⟩ ∧ w.cell? ⟨g, 0, none⟩ = some (.int .i64 y.kind) ∧ w.cell? ⟨g, 1, none⟩ = some (.string (tx y.s)) ∧ w.cell? ⟨g, 2, none⟩ = some s ∧ y.s.length ≤ maxLen ∧ ExS w (fun x => lo ≤ x ∧ x < w.heap.size) s y.kids kb ko := by
  obtain ⟨_, xs, h1, h2⟩ := h
  obtain ⟨s, g1, g2, g3, g4, kb, ko, g5⟩ := h2.at' 0 (by simp)
  rcases h1.2 with ⟨e, h0⟩ | ⟨g, cap, cur, e, -⟩
  · cases h0
  · cases e
    have hc := World.ownsRow.cells h1 (g := g) rfl
    refine ⟨g, s, kb, ko, rfl, ?_, ?_, ?_, g4, g5.mono fun x hx => hx.1⟩
    · have := hc _ _ g1; rwa [add_zero_off] at this
    · have := hc _ _ g2; rwa [add_zero_off] at this
    · have := hc _ _ g3; rwa [add_zero_off] at this
theorem Chg.wide {S S' : Nat → Prop} {a b c : World} (h : Chg S a b) (g : Chg S' b c) (hS : ∀ k, k < a.heap.size → S' k → S k) : Chg S a c :=
  ⟨g.os.trans h.os, g.tape.trans h.tape, g.output.trans h.output, Nat.le_trans h.size g.size, fun k hk hs => (g.block k (Nat.lt_of_lt_of_le hk h.size) fun e => hs (hS k hk e)).trans (h.block k hk hs)⟩
theorem sumE_two {acc : List ExL} (h1 : 1 ≤ acc.length) (h : acc.length ≠ 1) : sumE acc = .mk 3 [] acc := by
  match acc, h1, h with
  | [], h1, _ => cases h1
  | [x], _, h => exact absurd rfl h
  | _ :: _ :: _, _, _ => rfl
theorem set3x {w : World} {b : Nat} {x0 x1 x2 : Value} {t : TypeId} (h : w.heap[b]? = some (.cells #[x0, x1, x2] t (0, 0))) (y0 y1 y2 : Value) :
    (((w.setCell ⟨b, 0, none⟩ y0).setCell ⟨b, 1, none⟩ y1).setCell ⟨b, 2, none⟩ y2).heap[b]? = some (.cells #[y0, y1, y2] t (0, 0)) ∧
    Chg (fun k => k = b) w (((w.setCell ⟨b, 0, none⟩ y0).setCell ⟨b, 1, none⟩ y1).setCell ⟨b, 2, none⟩ y2) :=
  ⟨heap_set (heap_set (heap_set h (i := 0) y0) (i := 1) y1) (i := 2) y2, (((Chg.refl (fun k => k = b) w).setCell (p := ⟨b, 0, none⟩) (.inl rfl) y0).setCell (p := ⟨b, 1, none⟩) (.inl rfl) y1).setCell (p := ⟨b, 2, none⟩) (.inl rfl) y2⟩
theorem results_cellE {fn : Func} {p : Tmp} {ty : TypeId} (h : fn.results = #[.cell p ty]) (tmps : Array Value) {P : Program} {w : World} {a : Addr} {v : Value} (hp : tmps.getD p undef = .pointer (some a)) (hl : (loadVar ty a).run P w = .ok v w) : (results fn tmps).run P w = .ok v w := by
  rw [Array.getD_eq_getD_getElem?] at hp
  simp only [results, h]
  simp [hp, asAddr, hl]
def ExprP (rb : Nat) (src : List UInt8) (o : Except FaultL (ExL × RdL)) (w : World) (e : Ending) (w' : World) : Prop := Chg (fun k => k = rb) w w' ∧ match o with
  | .ok (x, st) => RdM w' rb src st ∧ ∃ v, e = .returned v ∧ ExV w' (fun k => w.heap.size ≤ k ∧ k < w'.heap.size) v x
  | .error x => e = quitF ((src.length - x.1 : Nat) : Int) x.2
def TermOk (t : TermL) (n : Int) (base rb : Nat) (src : List UInt8) : Prop := ∀ (w : World) (st : RdL), RdM w rb src st → Kw base w → Calls Tryd.prog 72 #[.pointer (some ⟨rb, 0, none⟩), .int .i64 n] w (ExprP rb src (t st) w)
def ExprOk (t : TermL) (n : Int) (base rb : Nat) (src : List UInt8) : Prop := ∀ (w : World) (st : RdL), RdM w rb src st → Kw base w → Calls Tryd.prog 54 #[.pointer (some ⟨rb, 0, none⟩), .int .i64 n] w (ExprP rb src (t st) w)
def leftM (rb L : Nat) (w : World) : Nat := L - (intOf ((w.cell? ⟨rb, 1, none⟩).getD undef)).toNat
theorem leftM_of {w : World} {rb : Nat} {src : List UInt8} {st : RdL} (h : RdM w rb src st) : leftM rb src.length w = st.rest.length := by
  unfold leftM
  rw [(cell5 h.row).2.1]
  have := h.suf.length_le
  simp only [Option.getD_some, intOf]
  omega
theorem RdM.lt {w : World} {rb : Nat} {src : List UInt8} {st : RdL} (h : RdM w rb src st) : rb < w.heap.size := lt_of_block h.row
set_option maxHeartbeats 8000000 in
set_option maxRecDepth 20000 in
theorem expr_of {t : TermL} {n : Int} {base rb : Nat} {src : List UInt8} (ht : TermOk t n base rb src) (g : GoodT t) (hl : src.length ≤ 8192) (hrb : base ≤ rb) : ExprOk (exprW t) n base rb src := by
  intro w st0 hr hk
  have Ht := Lib.hid ht
  have G := Lib.hid g
  have Hr := Lib.hid hr
  have Hk := Lib.hid hk
  have hbw : rb < w.heap.size := hr.lt
  have hal_ := (Chg.refl NoB w).alloc (.cells #[.int .i64 0, .string ⟨#[]⟩, .slice none 0 0] 26)
  have hb_ := heap_alloc_new w (.cells #[.int .i64 0, .string ⟨#[]⟩, .slice none 0 0] 26)
  obtain ⟨b4, hxb_⟩ : ∃ b, b = w.heap.size := ⟨_, rfl⟩
  obtain ⟨w1, hw_⟩ : ∃ w_, w.alloc (.cells #[.int .i64 0, .string ⟨#[]⟩, .slice none 0 0] 26) = w_ := ⟨_, rfl⟩
  have hz_ : w1.heap.size = b4 + 1 := by rw [← hw_, hxb_]; exact alloc_size _ _
  rw [hw_] at hal_ hb_
  rw [← hxb_] at hb_
  have Hw4 := Lib.hid hw_
  have Hx4 := Lib.hid hxb_
  have Ha4 := Lib.hid hal_
  have Hb4 := Lib.hid hb_
  have Hz4 := Lib.hid hz_
  clear hal_ hb_ hxb_ hw_ hz_
  have Hr1 := Lib.hid (Hr.out.keep Ha4.out)
  have Hk1 := Lib.hid (Hk.out.keep Ha4.out)
  have HT1 := Lib.hid (Ht.out w1 st0 Hr1.out Hk1.out)
  have Hdef := Lib.hid (show exprW t st0 = match t st0 with
    | .error e => .error e
    | .ok (x, st1) => match moreF t (st1.rest.length + 1) [x] st1 with
      | .error e => .error e
      | .ok (ks, st2) => .ok (sumE ks, st2) from rfl)
  clear ht g hr hk
  generalize exprW t st0 = R at *
  go_enter Tryd.func54, Tryd.ntmps54
  go_upto_region 1 with fail
  rw [Hw4.out, ← Hx4.out]
  go_wp2_with fail
  refine HT1.out.mono ?_
  rintro e w2 ⟨hc2, h2⟩
  have Hc2 := Lib.hid ((Ha4.out.mono fun _ _ h => h.elim).trans hc2 : Chg (fun k => k = rb) w w2)
  have Hb42 := Lib.hid (row_kept hc2 Hb4.out (by have := Hx4.out; omega))
  have Hk2 := Lib.hid (Hk1.out.chg hc2 fun k e => by omega)
  have Hlo := Lib.hid (show w1.heap.size ≤ w2.heap.size ∧ b4 < w1.heap.size ∧ rb < b4 ∧ b4 = w.heap.size from ⟨hc2.size, by rw [Hz4.out]; have := Hx4.out; omega, by have := Hx4.out; omega, Hx4.out⟩)
  clear hc2 HT1 Hr1 Hk1
  cases ht1 : t st0 with
  | error x =>
    rw [ht1] at h2 Hdef
    obtain rfl : e = quitF ((src.length - x.1 : Nat) : Int) x.2 := h2
    unfold quitF
    go_wp2_with fail
    refine ⟨rfl, Hc2.out, ?_⟩
    rw [Hdef.out]
    rfl
  | ok p =>
    obtain ⟨x, st1⟩ := p
    rw [ht1] at h2 Hdef
    simp only at Hdef
    obtain ⟨hr2, v, rfl, hv⟩ := h2
    obtain ⟨q, nk, c, kb, ko, rfl, hxl, hxs⟩ := hv.shape
    have Hr2 := Lib.hid hr2
    clear hv hr2 ht1
    have hal_ := (Chg.refl NoB w2).alloc (.cells #[.int .i64 x.kind, .string (tx x.s), .slice q nk c] 26)
    have hb_ := heap_alloc_new w2 (.cells #[.int .i64 x.kind, .string (tx x.s), .slice q nk c] 26)
    obtain ⟨b9, hxb_⟩ : ∃ b, b = w2.heap.size := ⟨_, rfl⟩
    obtain ⟨w3, hw_⟩ : ∃ w_, w2.alloc (.cells #[.int .i64 x.kind, .string (tx x.s), .slice q nk c] 26) = w_ := ⟨_, rfl⟩
    have hz_ : w3.heap.size = b9 + 1 := by rw [← hw_, hxb_]; exact alloc_size _ _
    rw [hw_] at hal_ hb_
    rw [← hxb_] at hb_
    have Hw9 := Lib.hid hw_
    have Hx9 := Lib.hid hxb_
    have Ha9 := Lib.hid hal_
    have Hb9 := Lib.hid hb_
    have Hz9 := Lib.hid hz_
    clear hal_ hb_ hxb_ hw_ hz_
    have HE := Lib.hid (Eb.one Hw9.out Hx9.out Hlo.out.1 hxl hxs)
    have Hr3 := Lib.hid (Hr2.out.keep Ha9.out)
    have Hk3 := Lib.hid (Hk2.out.keep Ha9.out)
    have Hb43 := Lib.hid (row_kept Ha9.out Hb42.out id)
    have Hc3 := Lib.hid (Hc2.out.trans (Ha9.out.mono fun _ _ h => h.elim))
    clear hxs Hr2 Hk2 Hb42
    go_wp2_with fail
    rw [Hw9.out, ← Hx9.out]
    have hst1 := Hr3.out.suf.length_le
    go_loopw [5] (fun v wr => ∃ (acc : List ExL) (st : RdL) (m : Nat), moreF t m acc st = moreF t (st1.rest.length + 1) [x] st1 ∧ st.rest.length < m ∧ acc.length + st.rest.length ≤ src.length + 1 ∧ 1 ≤ acc.length ∧ RdM wr rb src st ∧ Kw base wr ∧ Eb wr w1.heap.size v acc ∧ wr.heap[b4]? = some (.cells #[.int .i64 0, .string ⟨#[]⟩, .slice none 0 0] 26 (0, 0)) ∧ Chg (fun k => k = rb) w wr) (fun _ wr => leftM rb src.length wr)
    case atStart => exact ⟨[x], st1, _, rfl, Nat.lt_succ_self _, by show 1 + _ ≤ _; omega, Nat.le_refl _, Hr3.out, Hk3.out, HE.out, Hb43.out, Hc3.out⟩
    case round =>
      obtain ⟨acc, st, m, hm, hlt, hsum, h1, hr, hk, hE, hb4, hc⟩ := hrel
      obtain ⟨qa, ca, rfl, hca⟩ := hE.shape
      have HI := Lib.hid (is_any hr 2 [43])
      have HT := Lib.hid (take_any base hr hl hk hrb)
      have Hleft := Lib.hid (leftM_of hr)
      have Hr5 := Lib.hid hr
      have Hk5 := Lib.hid hk
      have Hb45 := Lib.hid hb4
      have Hc5 := Lib.hid hc
      have Hm := Lib.hid hm
      clear hr hk hb4 hc hm HE Hr3 Hk3 Hb43 Hc3
      obtain ⟨m, rfl⟩ : ∃ m', m = m' + 1 := ⟨m - 1, by omega⟩
      have Hstep := Lib.hid (show moreF t (m + 1) acc st = if st.is 2 [43] = true then (match takeF st.rest with
        | .error e => .error e
        | .ok st1 => match t st1 with
          | .error e => .error e
          | .ok (y, st2) => moreF t m (acc ++ [y]) st2) else .ok (acc, st) from rfl)
      rw [Hm.out] at Hstep
      obtain ⟨na, hna⟩ : ∃ n, n = acc.length := ⟨_, rfl⟩
      rw [← hna] at hsum h1 hca hE ⊢
      have Hna := Lib.hid hna
      have HE5 := Lib.hid hE
      clear hna Hm hE
      cases hi : st.is 2 [43] with
      | false =>
        rw [hi] at HI Hstep
        have Hfin := Lib.hid (show R = .ok (sumE acc, st) by rw [Hdef.out, Hstep.out]; rfl)
        clear HT Hstep hi Hdef
        go_wp2_with fail
        refine HI.out.mono ?_
        rintro e w6 ⟨rfl, rfl⟩
        obtain ⟨e0, e1, e2⟩ := var3 Hb45.out
        have fr := row_free Hb45.out
        by_cases h2 : na = 1
        · obtain ⟨y, rfl⟩ : ∃ y, acc = [y] := by
            have h3 := Hna.out
            rw [h2] at h3
            match acc, h3 with
            | [y], _ => exact ⟨y, rfl⟩
          obtain ⟨ga, sa, kb2, ko2, rfl, a0, a1, a2, hyl, hys⟩ := HE5.out.first
          obtain ⟨qy, cy, rfl, -⟩ := hys.sh
          have HS := set3x Hb45.out
          have Hys := Lib.hid hys
          have h2b : ((na : Int) == 1) = true := by simp [h2]
          have h20 : (0 : Int) < (na : Int) := by omega
          clear h2 hys
          go_wp2_with fail
          refine bodyPost_ret (results_cellE rfl _ rfl (run_loadVar_row _ _ _ _ _ _ _ (HS _ _ _).1 (Tryd.underlying26) rfl rfl)) rfl ⟨Hc5.out.wide (HS _ _ _).2 fun k hk e => by have := Hlo.out; omega, ?_⟩
          rw [Hfin.out]
          refine ⟨Hr5.out.chg (HS _ _ _).2 fun e => by have := Hlo.out; omega, _, rfl, hyl, _, kb2, ko2, rfl, (Hys.out.keep (HS _ _ _).2 fun k hk e => by have := Hlo.out; omega).mono fun k hk => ⟨by have := Hlo.out; omega, Nat.lt_of_lt_of_le hk.2 (HS _ _ _).2.size⟩⟩
        · have h2b : ((na : Int) == 1) = false := by rw [beq_eq_false_iff_ne]; omega
          have Hsum := Lib.hid (sumE_two (acc := acc) (by rw [← Hna.out]; exact h1) (by rw [← Hna.out]; exact h2))
          have HS := set3x Hb45.out
          obtain ⟨kb2, ko2, hys⟩ := HE5.out.nds
          have Hys := Lib.hid hys
          clear h2 hys
          go_wp2_with fail
          refine bodyPost_ret (results_cellE rfl _ rfl (run_loadVar_row _ _ _ _ _ _ _ (HS _ _ _).1 (Tryd.underlying26) rfl rfl)) rfl ⟨Hc5.out.wide (HS _ _ _).2 fun k hk e => by have := Hlo.out; omega, ?_⟩
          rw [Hfin.out, Hsum.out]
          refine ⟨Hr5.out.chg (HS _ _ _).2 fun e => by have := Hlo.out; omega, _, rfl, Nat.zero_le _, _, kb2, ko2, rfl, (Hys.out.keep (HS _ _ _).2 fun k hk e => by have := Hlo.out; omega).mono fun k hk => ⟨by have := Hlo.out; omega, Nat.lt_of_lt_of_le hk.2 (HS _ _ _).2.size⟩⟩
      | true =>
        rw [hi] at HI Hstep
        clear hi
        have Htl := Lib.hid (fun s (h : takeF st.rest = .ok s) => takeF_le h)
        go_wp2_with fail
        refine HI.out.mono ?_
        rintro e w6 ⟨rfl, rfl⟩
        go_wp2_with fail
        refine HT.out.mono ?_
        rintro e w7 ⟨hc7, h7⟩
        have Hc7 := Lib.hid (Hc5.out.trans hc7)
        cases h8 : takeF st.rest with
        | error z =>
          rw [h8] at h7 Hstep
          obtain rfl : e = quitF ((src.length - z.1 : Nat) : Int) z.2 := h7
          have Hfin := Lib.hid (show R = .error z by rw [Hdef.out, Hstep.out]; rfl)
          clear hc7
          unfold quitF
          go_wp2_with fail
          refine ⟨rfl, Hc7.out, ?_⟩
          rw [Hfin.out]
          rfl
        | ok s1 =>
          rw [h8] at h7 Hstep
          obtain ⟨rfl, hr7⟩ := h7
          have Hk7 := Lib.hid (Hk5.out.chg hc7 fun k e => by omega)
          have HE7 := Lib.hid (HE5.out.keep hc7 fun k _ h e => by have := Hlo.out; omega)
          have Hb47 := Lib.hid (row_kept hc7 Hb45.out (by have := Hlo.out; omega))
          have HT2 := Lib.hid (Ht.out w7 s1 hr7 Hk7.out)
          have Hz7 := Lib.hid hc7.size
          obtain ⟨hs1, hs2⟩ := Htl.out s1 h8
          clear hc7 hr7 HT Hk5 HE5 Hb45 Hc5 Hr5 Htl h8
          simp only [if_true] at Hstep
          go_wp2_with fail
          refine HT2.out.mono ?_
          rintro e w8 ⟨hc8, h9⟩
          have Hc8 := Lib.hid (Hc7.out.trans hc8)
          cases ht8 : t s1 with
          | error z =>
            rw [ht8] at h9 Hstep
            obtain rfl : e = quitF ((src.length - z.1 : Nat) : Int) z.2 := h9
            have Hfin := Lib.hid (show R = .error z by rw [Hdef.out, Hstep.out])
            clear hc8
            unfold quitF
            go_wp2_with fail
            refine ⟨rfl, Hc8.out, ?_⟩
            rw [Hfin.out]
            rfl
          | ok p =>
            obtain ⟨y, s2⟩ := p
            rw [ht8] at h9 Hstep
            simp only at Hstep
            obtain ⟨hr8, v8, rfl, hv8⟩ := h9
            obtain ⟨q8, n8, c8, kb8, ko8, rfl, hyl, hys⟩ := hv8.shape
            have hlt2 : s2.rest.length < st.rest.length := by have := G.out.le ht8; have := hs2 (G.out.kind ht8); omega
            have HE8 := Lib.hid (HE7.out.keep hc8 fun k _ h e => by have := Hlo.out; omega)
            have HN := Lib.hid (fun k hk => (HE7.out.lt k hk).2)
            have Hk8 := Lib.hid (Hk7.out.chg hc8 fun k e => by omega)
            have Hb48 := Lib.hid (row_kept hc8 Hb47.out (by have := Hlo.out; omega))
            have Hr8 := Lib.hid hr8
            have Hys := Lib.hid hys
            have Hz8 := Lib.hid hc8.size
            have Hz27 := Lib.hid (show w1.heap.size ≤ w7.heap.size from HE7.out.1)
            have hal_ := (Chg.refl NoB w8).alloc (.cells #[.int .i64 y.kind, .string (tx y.s), .slice q8 n8 c8] 26)
            have hb_ := heap_alloc_new w8 (.cells #[.int .i64 y.kind, .string (tx y.s), .slice q8 n8 c8] 26)
            obtain ⟨b18, hxb_⟩ : ∃ b, b = w8.heap.size := ⟨_, rfl⟩
            obtain ⟨w9, hw_⟩ : ∃ w_, w8.alloc (.cells #[.int .i64 y.kind, .string (tx y.s), .slice q8 n8 c8] 26) = w_ := ⟨_, rfl⟩
            have hz_ : w9.heap.size = b18 + 1 := by rw [← hw_, hxb_]; exact alloc_size _ _
            rw [hw_] at hal_ hb_
            rw [← hxb_] at hb_
            have Hw18 := Lib.hid hw_
            have Hx18 := Lib.hid hxb_
            have Ha18 := Lib.hid hal_
            have Hb18 := Lib.hid hb_
            have Hz18 := Lib.hid hz_
            clear hal_ hb_ hxb_ hw_ hz_
            clear hc8 hr8 hys hv8 HT2 HE7 Hk7 Hb47 Hc7 hs1 hs2 ht8
            have hnb : na + 1 ≤ 1048576 := by omega
            go_wp2_with (at_builtin; go_loud (rw [← Hx18.out, Hw18.out]); go_loud (refine wpList_ex (w := w8) (v := .slice qa na ca) (y := y) (N := w7.heap.size) rfl _ _ rfl HE8.out HN.out Hz27.out Hz8.out hyl Hys.out Ha18.out rfl rfl Hb18.out (by rw [← Hna.out]; exact hnb) ?_); intro v10 w10 hE10 hc10)
            have hob : ∀ k, (Value.slice qa na ca).ownBlock = some k → w1.heap.size ≤ k := fun k hk => (HE8.out.lt k hk).1
            have Hr10 := Lib.hid ((Hr8.out.keep Ha18.out).chg hc10 fun e => by have := hob _ e; have := Hlo.out; omega)
            have Hk10 := Lib.hid ((Hk8.out.keep Ha18.out).chg hc10 fun k e => by have := hob _ e; have := Hlo.out; omega)
            have Hb410 := Lib.hid (row_kept hc10 (row_kept Ha18.out Hb48.out id) fun e => by have := hob _ e; have := Hlo.out; omega)
            have Hc10 := Lib.hid ((Hc8.out.trans (Ha18.out.mono fun _ _ h => h.elim)).wide hc10 fun k hk e => by have := hob _ e; have := Hlo.out; omega)
            have HE10 := Lib.hid hE10
            clear hob hE10 hc10
            go_roundw
            case rel => exact ⟨acc ++ [y], s2, m, Hstep.out.symm, by omega, by rw [List.length_append, ← Hna.out]; show na + 1 + _ ≤ _; omega, by rw [List.length_append]; show 1 ≤ _ + 1; omega, Hr10.out, Hk10.out, HE10.out, Hb410.out, Hc10.out⟩
            case measure =>
              show leftM rb src.length w10 < leftM rb src.length _
              rw [leftM_of Hr10.out, Hleft.out]
              exact hlt2
end Go.Proofs.YtdgcpgbknfojhaaDoor
