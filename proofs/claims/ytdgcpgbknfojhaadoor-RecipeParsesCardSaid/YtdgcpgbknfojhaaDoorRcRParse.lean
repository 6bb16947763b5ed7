/- The contract of the document's Parse. No condition. -/
import Derived.Test.YtdgcpgbknfojhaaDoorRcRParM
import Derived.Test.YtdgcpgbknfojhaaDoorRcParse


namespace Go.Proofs.YtdgcpgbknfojhaaDoor
set_option linter.unusedVariables false
open Go.ChangeShapes Go.WideShapes Go.ChangeAt Go.RowKit
theorem results_cTT {fn : Func} {p q r : Tmp} {ty : TypeId} (h : fn.results = #[.cell p ty, .tmp q, .tmp r]) (tmps : Array Value) {P : Program} {w : World} {a : Addr} {v : Value} (hp : tmps.getD p undef = .pointer (some a)) (hl : (loadVar ty a).run P w = .ok v w) : (results fn tmps).run P w = .ok (.tuple #[v, tmps.getD q undef, tmps.getD r undef]) w := by
  rw [Array.getD_eq_getD_getElem?] at hp
  simp only [results, h]
  simp [hp, asAddr, hl]
/- a word is wanted -/
/- an expression is read into the answer's variable -/
/- the rest of a round: W the world, O the state -/
theorem wpList_fld {w w2 : World} {ops : Array Oper} {rest : List Oper} {o : Oper} {a : Act} {Q : Exit → Act → World → Prop} (hgd : o.guard = none) (s x : Operand)
    (ho : o.op = .call { callee := .builtin .append, args := #[s, x], argTypes := #[27, 27] })
    {lo N ob bb : Nat} {xa xb : ExL} {fs : List FldL} {f : FldL} {qf : Option Addr} {nf cf : Nat} {q1 q2 : Option Addr} {n1 c1 n2 c2 kb ko kb2 ko2 : Nat} (hO : OutF w lo ob xa xb fs (.slice qf nf cf)) (hob : ob < lo)
    (hN : ∀ k, (Value.slice qf nf cf).ownBlock = some k → k < N) (hfl : ∀ k, (Value.slice qf nf cf).ownBlock = some k → lo ≤ k) (hl : lo ≤ N) (hlw : N ≤ w.heap.size)
    (g1 : f.name.s.length ≤ maxLen) (g2 : f.range.s.length ≤ maxLen) (hd : ExS w (fun x => N ≤ x ∧ x < w.heap.size) (.slice q1 n1 c1) f.name.kids kb ko) (hh : ExS w (fun x => N ≤ x ∧ x < w.heap.size) (.slice q2 n2 c2) f.range.kids kb2 ko2) (hc2 : Chg NoB w w2)
    (hs : a.eval s = .slice qf nf cf) (hx : a.eval x = .slice (some ⟨bb, 0, none⟩) 1 1) (hb : w2.heap[bb]? = some (.cells #[.int .i64 f.kind, .int .i64 f.name.kind, .string (tx f.name.s), .slice q1 n1 c1, .int .i64 f.range.kind, .string (tx f.range.s), .slice q2 n2 c2] 47 (0, 0))) (hlen : fs.length + 1 ≤ 1000)
    (h : ∀ v' w', (∃ q n c, v' = Value.slice q n c) → (∃ d h', w'.heap[ob]? = some (.cells #[.int .i64 xa.kind, .string (tx xa.s), d, .int .i64 xb.kind, .string (tx xb.s), h', .slice qf nf cf] 29 (0, 0))) → Chg (fun k => (Value.slice qf nf cf).ownBlock = some k) w2 w' → OutF (w'.setCell ⟨ob, 6, none⟩ v') lo ob xa xb (fs ++ [f]) v' → wpList Tryd.prog ops Q rest (a.put o.dst v') w') : wpList Tryd.prog ops Q (o :: rest) a w2 := by
  obtain ⟨i0, hi, hz0, hz1, hz2⟩ := info_three fdInfo
  obtain ⟨d, h', kb1, ko1, kb3, ko3, hrow, ga, gb, hlo, xs, hown, hfr⟩ := hO
  have hown2 := ownsRow_chg hown hc2 fun _ _ => id
  refine wpList_append_at w2 hgd s x 27 ho lo 47 i0 (.agg #[.int .i64 0, .int .i64 0, .string ⟨#[]⟩, .slice none 0 0, .int .i64 0, .string ⟨#[]⟩, .slice none 0 0]) 7 104 Tryd.underlying27 hi hz0 hz1 hz2 rfl (by decide) (.slice qf nf cf) fs.length xs hs hown2 ⟨bb, 0, none⟩ 1 1 [.int .i64 f.kind, .int .i64 f.name.kind, .string (tx f.name.s), .slice q1 n1 c1, .int .i64 f.range.kind, .string (tx f.range.s), .slice q2 n2 c2] hx rfl (fun j u hj => ?_) (one7 _ _ _ _ _ _ _ _ _ _ _) (by unfold maxLen; omega) (by omega) (Nat.le_trans hlo hc2.size) ?_
  · rw [add_zero_off, cell_of_row w2 bb j _ _ (0, 0) hb, ← hj]
    simp
  · intro v' w' h1 h2 h3
    obtain ⟨r1, r2, r3⟩ := OutF.grow (f := f) hrow ga gb hob hN hfl hl hlw hfr g1 g2 hd hh hc2 h1 h2 h3
    obtain ⟨q, c, hv, -⟩ := row_shape h1
    exact h v' w' ⟨q, _, c, hv⟩ ⟨d, h', r1⟩ r2 r3
theorem set7a {w : World} {b : Nat} {x0 x1 x2 x3 x4 x5 x6 : Value} {t : TypeId} (h : w.heap[b]? = some (.cells #[x0, x1, x2, x3, x4, x5, x6] t (0, 0))) (y1 y2 y3 : Value) :
    (((w.setCell ⟨b, 1, none⟩ y1).setCell ⟨b, 2, none⟩ y2).setCell ⟨b, 3, none⟩ y3).heap[b]? = some (.cells #[x0, y1, y2, y3, x4, x5, x6] t (0, 0)) ∧ Chg (fun k => k = b) w (((w.setCell ⟨b, 1, none⟩ y1).setCell ⟨b, 2, none⟩ y2).setCell ⟨b, 3, none⟩ y3) :=
  ⟨heap_set (heap_set (heap_set h (i := 1) y1) (i := 2) y2) (i := 3) y3, (((Chg.refl (fun k => k = b) w).setCell (p := ⟨b, 1, none⟩) (.inl rfl) y1).setCell (p := ⟨b, 2, none⟩) (.inl rfl) y2).setCell (p := ⟨b, 3, none⟩) (.inl rfl) y3⟩
theorem set7b {w : World} {b : Nat} {x0 x1 x2 x3 x4 x5 x6 : Value} {t : TypeId} (h : w.heap[b]? = some (.cells #[x0, x1, x2, x3, x4, x5, x6] t (0, 0))) (y4 y5 y6 : Value) :
    (((w.setCell ⟨b, 4, none⟩ y4).setCell ⟨b, 5, none⟩ y5).setCell ⟨b, 6, none⟩ y6).heap[b]? = some (.cells #[x0, x1, x2, x3, y4, y5, y6] t (0, 0)) ∧ Chg (fun k => k = b) w (((w.setCell ⟨b, 4, none⟩ y4).setCell ⟨b, 5, none⟩ y5).setCell ⟨b, 6, none⟩ y6) :=
  ⟨heap_set (heap_set (heap_set h (i := 4) y4) (i := 5) y5) (i := 6) y6, (((Chg.refl (fun k => k = b) w).setCell (p := ⟨b, 4, none⟩) (.inl rfl) y4).setCell (p := ⟨b, 5, none⟩) (.inl rfl) y5).setCell (p := ⟨b, 6, none⟩) (.inl rfl) y6⟩
def startL (src : List UInt8) : RdL := ⟨0, [], src.length, src⟩
set_option maxHeartbeats 8000000 in
set_option maxRecDepth 20000 in
theorem rparse_any (s : List UInt8) (w : World) : Calls Tryd.prog 13 #[.string (tx s)] w (ParseP (resF (parseF s)) w) := by
  have hz : (tx s).size = s.length := tx_size s
  obtain ⟨L, hL⟩ : ∃ L, L = s.length := ⟨_, rfl⟩
  rw [← hL] at hz
  have HLn := Lib.hid hL
  have hal_ := (Chg.refl NoB w).alloc (.cells #[.int .i64 0, .string ⟨#[]⟩, .slice none 0 0, .int .i64 0, .string ⟨#[]⟩, .slice none 0 0, .slice none 0 0] 29)
  have hb_ := heap_alloc_new w (.cells #[.int .i64 0, .string ⟨#[]⟩, .slice none 0 0, .int .i64 0, .string ⟨#[]⟩, .slice none 0 0, .slice none 0 0] 29)
  obtain ⟨b2, hxb_⟩ : ∃ b, b = w.heap.size := ⟨_, rfl⟩
  obtain ⟨w1, hw_⟩ : ∃ w_, w.alloc (.cells #[.int .i64 0, .string ⟨#[]⟩, .slice none 0 0, .int .i64 0, .string ⟨#[]⟩, .slice none 0 0, .slice none 0 0] 29) = w_ := ⟨_, rfl⟩
  have hz_ : w1.heap.size = b2 + 1 := by rw [← hw_, hxb_]; exact alloc_size _ _
  rw [hw_] at hal_ hb_
  rw [← hxb_] at hb_
  have Hw2 := Lib.hid hw_
  have Hx2 := Lib.hid hxb_
  have Ha2 := Lib.hid hal_
  have Hb2 := Lib.hid hb_
  have Hz2 := Lib.hid hz_
  clear hal_ hb_ hxb_ hw_ hz_
  by_cases hlong : 4096 < L
  · have Hp := Lib.hid (show parseF s = .error (0, 3) by unfold parseF; rw [if_pos (by omega)])
    have HS := set7 Hb2.out
    have fr := row_free Hb2.out
    obtain ⟨v0, v1, v2, v3, v4, v5, v6⟩ := var7 Hb2.out
    clear hL
    go_enter Tryd.func13, Tryd.ntmps13
    go_upto_region 1 with fail
    rw [Hw2.out, ← Hx2.out]
    go_wp2_with fail
    refine bodyPost_ret (results_cTT rfl _ rfl (load_src (HS _ _ _ _ _ _ _).1)) rfl ⟨Ha2.out.above (HS _ _ _ _ _ _ _).2 fun k e => by have := Hx2.out; omega, ?_⟩
    rw [Hp.out]
    exact ⟨_, rfl, zero_src _ _⟩
  · have hl8 : s.length ≤ 8192 := by omega
    have hl4 : s.length ≤ 4096 := by omega
    have hal_ := (Chg.refl NoB w1).alloc (.cells #[.string (tx s), .int .i64 0, .string ⟨#[]⟩, .int .i64 0, .int .i64 0, .int .i64 0, .int .i64 0] 63)
    have hb_ := heap_alloc_new w1 (.cells #[.string (tx s), .int .i64 0, .string ⟨#[]⟩, .int .i64 0, .int .i64 0, .int .i64 0, .int .i64 0] 63)
    obtain ⟨rb, hxb_⟩ : ∃ b, b = w1.heap.size := ⟨_, rfl⟩
    obtain ⟨w2, hw_⟩ : ∃ w_, w1.alloc (.cells #[.string (tx s), .int .i64 0, .string ⟨#[]⟩, .int .i64 0, .int .i64 0, .int .i64 0, .int .i64 0] 63) = w_ := ⟨_, rfl⟩
    have hz_ : w2.heap.size = rb + 1 := by rw [← hw_, hxb_]; exact alloc_size _ _
    rw [hw_] at hal_ hb_
    rw [← hxb_] at hb_
    have Hw16 := Lib.hid hw_
    have Hx16 := Lib.hid hxb_
    have Ha16 := Lib.hid hal_
    have Hb16 := Lib.hid hb_
    have Hz16 := Lib.hid hz_
    clear hal_ hb_ hxb_ hw_ hz_
    have Hr2 := Lib.hid (show RuM w2 rb s (.ok (startL s)) from ⟨0, [], 0, 0, 0, 0, Hb16.out, Nat.zero_le _, rfl, rfl, by show 0 = s.length - s.length; omega, by show 0 = s.length - s.length; omega, rfl, rfl, List.suffix_refl _, Nat.le_refl _, ⟨(fun e => by cases e), (fun e => by cases e)⟩⟩)
    have HT := Lib.hid (rstep_any Hr2.out hl8)
    have Heq := Lib.hid (fun xa xb => parse_eq hl4 xa xb)
    clear hL Hr2 hl4
    go_enter Tryd.func13, Tryd.ntmps13
    go_upto_region 1 with fail
    rw [Hw2.out, ← Hx2.out]
    go_upto_region 4 with fail
    rw [Hw16.out, ← Hx16.out]
    go_wp2_with fail
    refine HT.out.mono ?_
    rintro e w3 ⟨hc3, rfl, hr3⟩
    have Hc3 := Lib.hid ((Ha2.out.trans Ha16.out).above hc3 fun k e => by have := Hx16.out; have := Hx2.out; have := Hz2.out; omega)
    have HB23 := Lib.hid (row_kept hc3 (row_kept Ha16.out Hb2.out id) (by have := Hx16.out; have := Hx2.out; have := Hz2.out; omega))
    have hz3 := hc3.size
    have hal_ := (Chg.refl NoB w3).alloc (.cells #[.int .i64 0, .string ⟨#[]⟩, .slice none 0 0, .int .i64 0, .string ⟨#[]⟩, .slice none 0 0, .slice none 0 0] 29)
    have hb_ := heap_alloc_new w3 (.cells #[.int .i64 0, .string ⟨#[]⟩, .slice none 0 0, .int .i64 0, .string ⟨#[]⟩, .slice none 0 0, .slice none 0 0] 29)
    obtain ⟨b6, hxb_⟩ : ∃ b, b = w3.heap.size := ⟨_, rfl⟩
    obtain ⟨w4, hw_⟩ : ∃ w_, w3.alloc (.cells #[.int .i64 0, .string ⟨#[]⟩, .slice none 0 0, .int .i64 0, .string ⟨#[]⟩, .slice none 0 0, .slice none 0 0] 29) = w_ := ⟨_, rfl⟩
    have hz_ : w4.heap.size = b6 + 1 := by rw [← hw_, hxb_]; exact alloc_size _ _
    rw [hw_] at hal_ hb_
    rw [← hxb_] at hb_
    have Hw6 := Lib.hid hw_
    have Hx6 := Lib.hid hxb_
    have Ha6 := Lib.hid hal_
    have Hb6 := Lib.hid hb_
    have Hz6 := Lib.hid hz_
    clear hal_ hb_ hxb_ hw_ hz_
    have Hne := Lib.hid (show b2 ≠ rb ∧ b6 ≠ rb ∧ rb < b6 ∧ b2 < b6 ∧ w.heap.size ≤ b2 ∧ w.heap.size ≤ rb from by have := Hx16.out; have := Hx2.out; have := Hz2.out; have := Hx6.out; have := Hz16.out; omega)
    have Hr := Lib.hid (show RuM w4 rb s (takeF s) from hr3.keep Ha6.out)
    have HO := Lib.hid (show OutF w4 (b6 + 1) b6 (.mk 0 [] []) (.mk 0 [] []) [] (.slice none 0 0) from ⟨_, _, 0, 0, 0, 0, Hb6.out, ⟨Nat.zero_le _, ExS.nil _ _⟩, ⟨Nat.zero_le _, ExS.nil _ _⟩, Fb.nil _ _ (by rw [Hz6.out]; exact Nat.le_refl _)⟩)
    have HB2 := Lib.hid (row_kept Ha6.out HB23.out id)
    have Hc := Lib.hid (Hc3.out.trans Ha6.out)
    clear hc3 hr3 HB23 Hc3 hz3 HT
    go_upto_region 6 with fail
    rw [Hw6.out, ← Hx6.out]
    have HT := Lib.hid (rwant_any Hr.out hl8 kPackage)
    clear Hr
    go_wp2_with fail
    refine HT.out.mono ?_
    rintro e w5 ⟨hc, rfl, hr2⟩
    clear HT
    have Hr := Lib.hid hr2
    replace HO := Lib.hid (HO.out.chg hc (fun k h1 h2 e => by have := Hne.out; omega) Hne.out.2.1)
    replace HB2 := Lib.hid (row_kept hc HB2.out Hne.out.1)
    replace Hc := Lib.hid (Hc.out.above hc fun k e => by have := Hne.out; omega)
    clear hc hr2
    have HT := Lib.hid (rexpr_any (o := wantS kPackage (takeF s)) Hr.out hl8)
    have Hsz := Lib.hid HO.out.lt
    clear Hr
    go_wp2_with fail
    refine HT.out.mono ?_
    rintro e w6 ⟨hc, hr2, v, xa, rfl, hv, hx⟩
    clear HT
    obtain ⟨q7, n7, c7, kb7, ko7, rfl, hxl, hxs⟩ := hv.shape
    have HO2 := HO.out.chg hc (fun k h1 h2 e => by have := Hne.out; omega) Hne.out.2.1
    have HSX := HO2.setA (Nat.lt_succ_self b6) hxl (hxs.mono fun k hk => ⟨Nat.le_trans Hsz.out hk.1, hk.2⟩)
    obtain ⟨d, h, kb, ko, kb2, ko2, hrow, -⟩ := HO2
    have fr := row_free hrow
    obtain ⟨v0, v1, v2, v3, v4, v5, v6⟩ := var7 hrow
    have HB := row_kept HSX.2 (row_kept hc HB2.out Hne.out.1) fun e => by have := Hne.out; omega
    have HR := hr2.chg HSX.2 fun e => Hne.out.2.1 e.symm
    have HC := (Hc.out.above hc fun k e => by have := Hne.out; omega).above HSX.2 fun k e => by have := Hne.out; omega
    have HX7 := Lib.hid hx
    have HV := Lib.hid (And.intro HSX.1 (And.intro HB (And.intro HR HC)))
    clear hc hr2 hv hx hxs hxl HO HB2 Hc HSX HB HR HC hrow
    go_upto_region 8 with fail
    generalize ((w6.setCell ⟨b6, 0, none⟩ (.int .i64 xa.kind)).setCell ⟨b6, 1, none⟩ (.string (tx xa.s))).setCell ⟨b6, 2, none⟩ (.slice q7 n7 c7) = w7 at *
    have HO := Lib.hid HV.out.1
    have HB2 := Lib.hid HV.out.2.1
    have Hr := Lib.hid HV.out.2.2.1
    have Hc := Lib.hid HV.out.2.2.2
    clear HV fr v0 v1 v2 v3 v4 v5 v6 Hsz
    have HTa := Lib.hid (fun t (e : stO (runO (exprF 32) (wantS kPackage (takeF s))) = .ok t) => (show RuM w7 rb s (.ok t) by rw [← e]; exact Hr.out).tok)
    have HT := Lib.hid (rwant_any Hr.out hl8 kVersion)
    clear Hr
    go_wp2_with fail
    refine HT.out.mono ?_
    rintro e w8 ⟨hc, rfl, hr2⟩
    clear HT
    have Hr := Lib.hid hr2
    replace HO := Lib.hid (HO.out.chg hc (fun k h1 h2 e => by have := Hne.out; omega) Hne.out.2.1)
    replace HB2 := Lib.hid (row_kept hc HB2.out Hne.out.1)
    replace Hc := Lib.hid (Hc.out.above hc fun k e => by have := Hne.out; omega)
    clear hc hr2
    have HT := Lib.hid (rexpr_any (o := wantS kVersion (stO (runO (exprF 32) (wantS kPackage (takeF s))))) Hr.out hl8)
    have Hsz := Lib.hid HO.out.lt
    clear Hr
    go_wp2_with fail
    refine HT.out.mono ?_
    rintro e w9 ⟨hc, hr2, v, xb, rfl, hv, hx⟩
    clear HT
    obtain ⟨q8, n8, c8, kb8, ko8, rfl, hxl, hxs⟩ := hv.shape
    have HO2 := HO.out.chg hc (fun k h1 h2 e => by have := Hne.out; omega) Hne.out.2.1
    have HSX := HO2.setB (Nat.lt_succ_self b6) hxl (hxs.mono fun k hk => ⟨Nat.le_trans Hsz.out hk.1, hk.2⟩)
    obtain ⟨d, h, kb, ko, kb2, ko2, hrow, -⟩ := HO2
    have fr := row_free hrow
    obtain ⟨v0, v1, v2, v3, v4, v5, v6⟩ := var7 hrow
    have HB := row_kept HSX.2 (row_kept hc HB2.out Hne.out.1) fun e => by have := Hne.out; omega
    have HR := hr2.chg HSX.2 fun e => Hne.out.2.1 e.symm
    have HC := (Hc.out.above hc fun k e => by have := Hne.out; omega).above HSX.2 fun k e => by have := Hne.out; omega
    have HX8 := Lib.hid hx
    have HV := Lib.hid (And.intro HSX.1 (And.intro HB (And.intro HR HC)))
    clear hc hr2 hv hx hxs hxl HO HB2 Hc HSX HB HR HC hrow
    go_upto_block 1 with fail
    generalize ((w9.setCell ⟨b6, 3, none⟩ (.int .i64 xb.kind)).setCell ⟨b6, 4, none⟩ (.string (tx xb.s))).setCell ⟨b6, 5, none⟩ (.slice q8 n8 c8) = w10 at *
    have HO := Lib.hid HV.out.1
    have HB2 := Lib.hid HV.out.2.1
    have Hr := Lib.hid HV.out.2.2.1
    have Hc := Lib.hid HV.out.2.2.2
    clear HV fr v0 v1 v2 v3 v4 v5 v6 Hsz
    have Hp := Lib.hid (Heq.out xa xb HX7.out HTa.out HX8.out)
    clear HX7 HX8 HTa Heq
    generalize stO (runO (exprF 32) (wantS kVersion (stO (runO (exprF 32) (wantS kPackage (takeF s)))))) = o4 at *
    obtain ⟨G, hG⟩ : ∃ G, G = fieldsO (fuelO o4) [] o4 := ⟨_, rfl⟩
    rw [← hG] at Hp
    have HG := Lib.hid hG
    clear hG
    go_loopw [] (fun wr => ∃ (fs : List FldL) (oo : StL) (m : Nat) (f : Value), fieldsO m fs oo = G ∧ (∀ st, oo = .ok st → st.rest.length < m ∧ fs.length ≤ 20) ∧ fs.length ≤ 21 ∧ RuM wr rb s oo ∧ OutF wr (b6 + 1) b6 xa xb fs f ∧ wr.heap[b2]? = some (.cells #[.int .i64 0, .string ⟨#[]⟩, .slice none 0 0, .int .i64 0, .string ⟨#[]⟩, .slice none 0 0, .slice none 0 0] 29 (0, 0)) ∧ Chg NoB w wr) (fun wr => leftR rb s.length wr)
    case atStart => exact ⟨[], o4, _, _, HG.out.symm, (fun st e => by subst e; exact ⟨by show _ < _ + 2; omega, by decide⟩), by decide, Hr.out, HO.out, HB2.out, Hc.out⟩
    case round =>
      obtain ⟨wq, hwq⟩ : ∃ wq, wq = wr := ⟨_, rfl⟩
      subst hwq
      obtain ⟨fs, oo, m, f, hm, hlt, hfl, hr, ho, hb2, hc⟩ := hrel
      obtain ⟨qf, cf, rfl, -⟩ := ho.fb.shape
      obtain ⟨nf, hnf⟩ : ∃ n, n = fs.length := ⟨_, rfl⟩
      rw [← hnf] at ho hfl hlt
      have Hnf := Lib.hid hnf
      clear Hr HO HB2 Hc HG hnf
      have Hr := Lib.hid hr
      have HO := Lib.hid ho
      have HB2 := Lib.hid hb2
      have Hc := Lib.hid hc
      have Hm := Lib.hid hm
      have Hlt := Lib.hid hlt
      obtain ⟨k, sv, a, b, y, p, h1, h2, h3⟩ := hr
      obtain ⟨c0, c1, c2, c3, c4, c5, c6⟩ := cell7 h1
      clear hc hm hlt h1 ho
      cases oo with
      | error z =>
        obtain ⟨rfl, rfl, h4⟩ := h3
        have g5 : (z.2 == 0) = false := by rw [beq_eq_false_iff_ne]; exact h4
        have g6 : (z.2 != 0) = true := by rw [bne_iff_ne]; exact h4
        have Hres := Lib.hid (show parseF s = .error (((s.length - z.1 : Nat) : Int), z.2) by rw [Hp.out, ← Hm.out]; rfl)
        have fr := row_free hb2
        obtain ⟨v0, v1, v2, v3, v4, v5, v6⟩ := var7 hb2
        have HS := set7 hb2 (.int .i64 0) (.string ⟨#[]⟩) (.slice none 0 0) (.int .i64 0) (.string ⟨#[]⟩) (.slice none 0 0) (.slice none 0 0)
        have Hfin := Lib.hid (row_kept (Chg.refl NoB _).drew HS.1 id)
        have Hcf := Lib.hid ((Hc.out.above HS.2 fun k e => by have := Hne.out; omega).drew)
        clear HS
        have n2r : ¬ b2 = rb := Hne.out.1
        have nr2 : ¬ rb = b2 := fun e => Hne.out.1 e.symm
        clear hb2 h4 hfl
        go_upto_region 27 with fail
        go_region_with (fail)
        all_goals
          go_simp
          go_wp2_with fail
          refine bodyPost_ret (results_cTT rfl _ rfl (load_src Hfin.out)) rfl ⟨Hcf.out, ?_⟩
          rw [Hres.out]
          exact ⟨_, rfl, zero_src _ _⟩
      | ok st =>
        obtain ⟨rfl, rfl, rfl, rfl, rfl, rfl, h4⟩ := h3
        obtain ⟨hlt1, hlt2⟩ := Hlt.out st rfl
        by_cases hk0 : st.kind = 0
        · have g1 : ((st.kind : Int) != 0) = false := by simp [hk0]
          have Hres := Lib.hid (show parseF s = .ok ⟨xa, xb, fs⟩ by
            rw [Hp.out, ← Hm.out]
            show finP s xa xb (fieldsF m fs st) = _
            cases m with
            | zero => rfl
            | succ m => rw [fieldsF, if_pos hk0]; rfl)
          have fr := row_free hb2
          obtain ⟨v0, v1, v2, v3, v4, v5, v6⟩ := var7 hb2
          obtain ⟨d, h, kb, ko, kb2, ko2, hrow, ga, gb, gf⟩ := HO.out
          obtain ⟨qd, cd, rfl, -⟩ := ga.2.sh
          obtain ⟨qh, ch, rfl, -⟩ := gb.2.sh
          obtain ⟨kf, kg, gf⟩ := gf.fds
          obtain ⟨z0, z1, z2, z3, z4, z5, z6⟩ := var7 hrow
          have HS := set7 hb2 (.int .i64 xa.kind) (.string (tx xa.s)) (.slice qd xa.kids.length cd) (.int .i64 xb.kind) (.string (tx xb.s)) (.slice qh xb.kids.length ch) (.slice qf nf cf)
          have Hcf := Lib.hid (Hc.out.above HS.2 fun k e => by have := Hne.out; omega)
          have hkp : ∀ k, b6 + 1 ≤ k ∧ k < wq.heap.size → ¬ (k = b2) := fun k hk e => by have := Hne.out; omega
          have HV := Lib.hid (show ∀ W, Chg (fun k => k = b2) wq W → SrcV W (fun k => w.heap.size ≤ k ∧ k < W.heap.size) (.agg #[.int .i64 xa.kind, .string (tx xa.s), .slice qd xa.kids.length cd, .int .i64 xb.kind, .string (tx xb.s), .slice qh xb.kids.length ch, .slice qf nf cf]) ⟨xa, xb, fs⟩ from fun W hW => by
            have ga2 : ExS wq (fun k => b6 + 1 ≤ k ∧ k < wq.heap.size) (.slice qd xa.kids.length cd) xa.kids kb ko := ga.2.mono fun k hk => hk.1
            have gb2 : ExS wq (fun k => b6 + 1 ≤ k ∧ k < wq.heap.size) (.slice qh xb.kids.length ch) xb.kids kb2 ko2 := gb.2.mono fun k hk => hk.1
            have hT : ∀ k, b6 + 1 ≤ k ∧ k < wq.heap.size → w.heap.size ≤ k ∧ k < W.heap.size := fun k hk => ⟨by have := Hne.out; omega, Nat.lt_of_lt_of_le hk.2 hW.size⟩
            exact ⟨_, _, _, kb, ko, kb2, ko2, kf, kg, rfl, ⟨ga.1, (ga2.keep hW hkp).mono hT⟩, ⟨gb.1, (gb2.keep hW hkp).mono hT⟩, (gf.keep hW hkp).mono hT⟩)
          have Hcs := Lib.hid HS.2
          have Hf := Lib.hid HS.1
          clear HS hkp ga gb gf hrow hb2 h4 hfl hk0 hlt1 hlt2
          go_wp2_with fail
          refine bodyPost_ret (results_cTT rfl _ rfl (load_src Hf.out)) rfl ⟨Hcf.out, ?_⟩
          rw [Hres.out]
          exact ⟨_, rfl, HV.out _ Hcs.out⟩
        · have g1 : ((st.kind : Int) != 0) = true := by rw [bne_iff_ne]; omega
          obtain ⟨m, rfl⟩ : ∃ m', m = m' + 1 := ⟨m - 1, by omega⟩
          have Hk0 := Lib.hid hk0
          have Hleft := Lib.hid (leftR_ok Hr.out)
          have Hob := Lib.hid HO.out.lt
          have hal_ := (Chg.refl NoB wq).alloc (.cells #[.int .i64 0, .int .i64 0, .string ⟨#[]⟩, .slice none 0 0, .int .i64 0, .string ⟨#[]⟩, .slice none 0 0] 47)
          have hb_ := heap_alloc_new wq (.cells #[.int .i64 0, .int .i64 0, .string ⟨#[]⟩, .slice none 0 0, .int .i64 0, .string ⟨#[]⟩, .slice none 0 0] 47)
          obtain ⟨b7, hxb_⟩ : ∃ b, b = wq.heap.size := ⟨_, rfl⟩
          obtain ⟨w11, hw_⟩ : ∃ w_, wq.alloc (.cells #[.int .i64 0, .int .i64 0, .string ⟨#[]⟩, .slice none 0 0, .int .i64 0, .string ⟨#[]⟩, .slice none 0 0] 47) = w_ := ⟨_, rfl⟩
          have hz_ : w11.heap.size = b7 + 1 := by rw [← hw_, hxb_]; exact alloc_size _ _
          rw [hw_] at hal_ hb_
          rw [← hxb_] at hb_
          have Hw7 := Lib.hid hw_
          have Hx7 := Lib.hid hxb_
          have Ha7 := Lib.hid hal_
          have Hb7 := Lib.hid hb_
          have Hz7 := Lib.hid hz_
          clear hal_ hb_ hxb_ hw_ hz_
          have hal_ := (Chg.refl NoB w11).alloc (.cells #[.string ⟨#[116, 111, 111, 108]⟩, .string ⟨#[98, 117, 105, 108, 100]⟩, .string ⟨#[114, 117, 110]⟩] 9)
          have hb_ := heap_alloc_new w11 (.cells #[.string ⟨#[116, 111, 111, 108]⟩, .string ⟨#[98, 117, 105, 108, 100]⟩, .string ⟨#[114, 117, 110]⟩] 9)
          obtain ⟨b44, hxb_⟩ : ∃ b, b = w11.heap.size := ⟨_, rfl⟩
          obtain ⟨w12, hw_⟩ : ∃ w_, w11.alloc (.cells #[.string ⟨#[116, 111, 111, 108]⟩, .string ⟨#[98, 117, 105, 108, 100]⟩, .string ⟨#[114, 117, 110]⟩] 9) = w_ := ⟨_, rfl⟩
          have hz_ : w12.heap.size = b44 + 1 := by rw [← hw_, hxb_]; exact alloc_size _ _
          rw [hw_] at hal_ hb_
          rw [← hxb_] at hb_
          have Hw44 := Lib.hid hw_
          have Hx44 := Lib.hid hxb_
          have Ha44 := Lib.hid hal_
          have Hb44 := Lib.hid hb_
          have Hz44 := Lib.hid hz_
          clear hal_ hb_ hxb_ hw_ hz_
          have hrl := Hr.out.lt
          have Hn7 := Lib.hid (show b7 ≠ rb ∧ b7 = wq.heap.size ∧ b44 = b7 + 1 ∧ w12.heap.size = b44 + 1 from ⟨by rw [Hx7.out]; omega, Hx7.out, by rw [Hx44.out, Hz7.out], Hz44.out⟩)
          have hb44 : b44 = b7 + 1 := Hn7.out.2.2.1
          have HB70 := Lib.hid (row_kept Ha44.out Hb7.out id)
          have Hr12 := Lib.hid ((Hr.out.keep Ha7.out).keep Ha44.out)
          have HcR0 := Lib.hid ((Ha7.out.trans Ha44.out).mono fun _ _ h => h.elim : Chg (fun k => k = rb) wq w12)
          have Hcs := Lib.hid (show ∀ i, i < 3 → w12.cell? ⟨b44, i, none⟩ = some (.string (tx (fieldWs.getD i []))) ∧ (fieldWs.getD i []).all wordC = true from fun i hi => by
            rw [cell_of_row w12 b44 i _ _ (0, 0) Hb44.out]
            have hh : i = 0 ∨ i = 1 ∨ i = 2 := by omega
            rcases hh with rfl | rfl | rfl
            · exact ⟨rfl, by decide⟩
            · exact ⟨rfl, by decide⟩
            · exact ⟨rfl, by decide⟩)
          have Hla := Lib.hid (And.intro hlt1 (And.intro hlt2 h2))
          clear hrl hlt1 hlt2 h4 hb2 Hr hfl h2
          go_wp2_with fail
          rw [Hw7.out, ← Hx7.out, ← hb44, Hw44.out]
          clear hb44 c0 c1 c2 c3 c4 c5 c6 hk0 g1
          go_loopw [46] (fun iv wi => ∃ i : Nat, iv = .int .i64 (i : Nat) ∧ i ≤ 3 ∧ wi.heap[b7]? = some (.cells #[.int .i64 (kU st i), .int .i64 0, .string ⟨#[]⟩, .slice none 0 0, .int .i64 0, .string ⟨#[]⟩, .slice none 0 0] 47 (0, 0)) ∧ Chg (fun k => k = b7) w12 wi) (fun iv _ => 3 - (intOf iv).toNat)
          case atStart => exact ⟨0, rfl, by decide, HB70.out, Chg.refl _ _⟩
          case round =>
            obtain ⟨i, rfl, hi3, hb7, hci⟩ := hrel
            obtain ⟨t0, t1, t2, t3, t4, t5, t6⟩ := var7 hb7
            have HB7 := Lib.hid hb7
            have Hci := Lib.hid hci
            have f7 := row_free hb7
            have hri := Hr12.out.chg hci fun e => Hn7.out.1 e.symm
            clear HB70
            by_cases hlt : i < 3
            · obtain ⟨hcw, hw⟩ := Hcs.out i hlt
              have hx0 := hci.cell hcw (by have := Hn7.out; dsimp only; omega)
              have HH := Lib.hid (rhas_any hri (fieldWs.getD i []))
              rw [has_word hri.tok hw] at HH
              have Hstep := Lib.hid (show kU st (i + 1) = if st.is 1 (fieldWs.getD i []) = true then ((i : Int) + 1) else kU st i from rfl)
              clear hcw hw hb7 hci hri
              generalize fieldWs.getD i [] = wd at *
              cases hh : st.is 1 wd with
              | true =>
                rw [hh] at HH Hstep
                have HS := Lib.hid (heap_set HB7.out (i := 0) (.int .i64 ((i : Int) + 1)))
                have HcS := Lib.hid (Hci.out.setCell (p := ⟨b7, 0, none⟩) (.inl rfl) (.int .i64 ((i : Int) + 1)))
                clear hh
                go_wp2_with fail
                refine HH.out.mono ?_
                rintro e w15 ⟨rfl, rfl⟩
                go_wp2_with fail
                go_roundw
                case rel => exact ⟨i + 1, by go_num, by omega, by rw [Hstep.out]; exact HS.out, HcS.out⟩
                case measure => simp [intOf]; omega
              | false =>
                rw [hh] at HH Hstep
                clear hh
                go_wp2_with fail
                refine HH.out.mono ?_
                rintro e w15 ⟨rfl, rfl⟩
                go_wp2_with fail
                go_roundw
                case rel => exact ⟨i + 1, by go_num, by omega, by rw [Hstep.out]; exact HB7.out, Hci.out⟩
                case measure => simp [intOf]; omega
            · obtain rfl : i = 3 := by omega
              rw [kU_three] at t0 HB7 hb7
              have Hr := Lib.hid hri
              have HcR := Lib.hid (HcR0.out.wide Hci.out fun k hk e => by have := Hn7.out; omega)
              have HO2 := Lib.hid (HO.out.chg HcR.out (fun k h1 h2 e => by have := Hne.out; omega) Hne.out.2.1)
              have HF := Lib.hid (fun e he => rfail_any hri (s.length - st.rem) st.rem rfl e he)
              have h12 := Hr.out
              obtain ⟨k, sv', a, b, y, p, h1, h2, h3⟩ := h12
              obtain ⟨rfl, rfl, rfl, rfl, rfl, rfl, h4⟩ := h3
              obtain ⟨c0, c1, c2, c3, c4, c5, c6⟩ := cell7 h1
              clear hci hri hb7 h1 h2 h4 f7 hi3 hlt
              by_cases hK : fieldK st = 0
              · have hKb : (fieldK st == 0) = true := by rw [beq_iff_eq]; exact hK
                have HGu := Lib.hid (show guardO st nf = .error (st.rem, 50) by unfold guardO; rw [if_pos hK])
                clear hK
                go_wp2_with fail
                refine (HF.out 50 (by decide)).mono ?_
                rintro e w20 ⟨hc20, rfl, hr20⟩
                replace Hr := Lib.hid (show RuM w20 rb s (guardO st nf) by rw [HGu.out]; exact hr20)
                replace HB7 := Lib.hid (row_kept hc20 HB7.out Hn7.out.1)
                replace HcR := Lib.hid (HcR.out.trans hc20)
                clear hc20 hr20 HF HO2 c0 c1 c2 c3 c4 c5 c6 t0 t1 t2 t3 t4 t5 t6
                have HT := Lib.hid (rstep_any (o := guardO st nf) Hr.out hl8)
                clear Hr
                go_wp2_with fail
                refine HT.out.mono ?_
                rintro e w21 ⟨hc, rfl, hr2⟩
                clear HT
                have Hr := Lib.hid hr2
                replace HB7 := Lib.hid (row_kept hc HB7.out Hn7.out.1)
                replace HcR := Lib.hid (HcR.out.trans hc)
                have Hb21 := Lib.hid (show b7 < w21.heap.size from lt_of_block HB7.out)
                clear hc hr2
                have HT := Lib.hid (rexpr_any (o := stepS (guardO st nf)) Hr.out hl8)
                clear Hr
                go_wp2_with fail
                refine HT.out.mono ?_
                rintro e w22 ⟨hc, hr2, v, ya, rfl, hv, hxA⟩
                clear HT
                obtain ⟨q81, n81, c81, kb81, ko81, rfl, hxl1, hxs1⟩ := hv.shape
                have h7 := row_kept hc HB7.out Hn7.out.1
                obtain ⟨t0, t1, t2, t3, t4, t5, t6⟩ := var7 h7
                have f7 := row_free h7
                obtain ⟨h7b, hc7⟩ := set7a h7 (.int .i64 ya.kind) (.string (tx ya.s)) (.slice q81 n81 c81)
                replace HB7 := Lib.hid h7b
                have Hr2 := Lib.hid (hr2.chg hc7 fun e => Hn7.out.1 e.symm)
                have Hz1 := Lib.hid (show wq.heap.size ≤ w21.heap.size from HcR.out.size)
                have hb7w := lt_of_block h7b
                replace HcR := Lib.hid ((HcR.out.trans hc).wide hc7 fun k hk e => by have := Hn7.out; omega)
                have Hxs1 := Lib.hid ((hxs1.keep hc7 fun k hk e => by have := Hn7.out; have := Hb21.out; omega).mono (T := fun k => w21.heap.size ≤ k ∧ k < w22.heap.size) fun k hk => hk)
                have HxA := Lib.hid hxA
                have Hsz22 := Lib.hid hc7.size
                have Hb21s := Lib.hid hc.size
                have Hrb21 := Lib.hid (show rb < w21.heap.size by have := Hne.out; have := Hob.out; have := Hz1.out; omega)
                clear hc hr2 hv hxA hxs1 h7 h7b hc7 hb7w
                go_upto_region 24 with fail
                generalize ((w22.setCell ⟨b7, 1, none⟩ (.int .i64 ya.kind)).setCell ⟨b7, 2, none⟩ (.string (tx ya.s))).setCell ⟨b7, 3, none⟩ (.slice q81 n81 c81) = w23 at *
                clear t0 t1 t2 t3 t4 t5 t6 f7
                have HT := Lib.hid (rexpr_any (o := stO (runO (exprF 32) (stepS (guardO st nf)))) Hr2.out hl8)
                clear Hr2
                go_wp2_with fail
                refine HT.out.mono ?_
                rintro e w24 ⟨hc, hr2, v, yb, rfl, hv, hxB⟩
                clear HT
                obtain ⟨q85, n85, c85, kb85, ko85, rfl, hxl2, hxs2⟩ := hv.shape
                have h7 := row_kept hc HB7.out Hn7.out.1
                obtain ⟨t0, t1, t2, t3, t4, t5, t6⟩ := var7 h7
                have f7 := row_free h7
                obtain ⟨h7b, hc7⟩ := set7b h7 (.int .i64 yb.kind) (.string (tx yb.s)) (.slice q85 n85 c85)
                replace HB7 := Lib.hid h7b
                have Hr2 := Lib.hid (hr2.chg hc7 fun e => Hn7.out.1 e.symm)
                replace HcR := Lib.hid ((HcR.out.trans hc).wide hc7 fun k hk e => by have := Hn7.out; omega)
                have Hxs2 := Lib.hid ((hxs2.keep hc7 fun k hk e => by have := Hn7.out; have := Hb21.out; have := Hsz22.out; have := Hb21s.out; omega).mono (T := fun k => w21.heap.size ≤ k ∧ k < (((w24.setCell ⟨b7, 4, none⟩ (.int .i64 yb.kind)).setCell ⟨b7, 5, none⟩ (.string (tx yb.s))).setCell ⟨b7, 6, none⟩ (.slice q85 n85 c85)).heap.size) fun k hk => ⟨by have := Hsz22.out; have := Hb21s.out; omega, Nat.lt_of_lt_of_le hk.2 hc7.size⟩)
                replace Hxs1 := Lib.hid (((Hxs1.out.keep hc fun k hk e => by have := Hn7.out; have := Hrb21.out; omega).keep hc7 fun k hk e => by have := Hn7.out; have := Hb21.out; omega).mono (T := fun k => w21.heap.size ≤ k ∧ k < (((w24.setCell ⟨b7, 4, none⟩ (.int .i64 yb.kind)).setCell ⟨b7, 5, none⟩ (.string (tx yb.s))).setCell ⟨b7, 6, none⟩ (.slice q85 n85 c85)).heap.size) fun k hk => ⟨hk.1, by have := hc.size; have := hc7.size; have := Hsz22.out; omega⟩)
                have Hst := Lib.hid (fields_step (m := m) Hk0.out ya yb (by rw [← Hnf.out]; exact HxA.out) (by rw [← Hnf.out]; exact hxB))
                rw [← Hnf.out] at Hst
                have Hsz24 := Lib.hid (Nat.le_trans hc.size hc7.size)
                clear hc hr2 hv hxB hxs2 h7 h7b hc7 HxA
                go_upto_region 25 with fail
                generalize ((w24.setCell ⟨b7, 4, none⟩ (.int .i64 yb.kind)).setCell ⟨b7, 5, none⟩ (.string (tx yb.s))).setCell ⟨b7, 6, none⟩ (.slice q85 n85 c85) = w25 at *
                clear t0 t1 t2 t3 t4 t5 t6 f7
                have HO25 := Lib.hid (HO.out.chg HcR.out (fun k h1 h2 e => by have := Hne.out; omega) Hne.out.2.1)
                have HNo := Lib.hid (fun k (hk : (Value.slice qf nf cf).ownBlock = some k) => HO.out.fb.lt k hk)
                have hal_ := (Chg.refl NoB w25).alloc (.cells #[.int .i64 (fieldK st), .int .i64 ya.kind, .string (tx ya.s), .slice q81 n81 c81, .int .i64 yb.kind, .string (tx yb.s), .slice q85 n85 c85] 47)
                have hb_ := heap_alloc_new w25 (.cells #[.int .i64 (fieldK st), .int .i64 ya.kind, .string (tx ya.s), .slice q81 n81 c81, .int .i64 yb.kind, .string (tx yb.s), .slice q85 n85 c85] 47)
                obtain ⟨b90, hxb_⟩ : ∃ b, b = w25.heap.size := ⟨_, rfl⟩
                obtain ⟨w26, hw_⟩ : ∃ w_, w25.alloc (.cells #[.int .i64 (fieldK st), .int .i64 ya.kind, .string (tx ya.s), .slice q81 n81 c81, .int .i64 yb.kind, .string (tx yb.s), .slice q85 n85 c85] 47) = w_ := ⟨_, rfl⟩
                have hz_ : w26.heap.size = b90 + 1 := by rw [← hw_, hxb_]; exact alloc_size _ _
                rw [hw_] at hal_ hb_
                rw [← hxb_] at hb_
                have Hw90 := Lib.hid hw_
                have Hx90 := Lib.hid hxb_
                have Ha90 := Lib.hid hal_
                have Hb90 := Lib.hid hb_
                have Hz90 := Lib.hid hz_
                clear hal_ hb_ hxb_ hw_ hz_
                obtain ⟨d25, h25, _, _, _, _, hrow25, -⟩ := HO25.out
                obtain ⟨z0, z1, z2, z3, z4, z5, z6⟩ := var7 hrow25
                obtain ⟨t0, t1, t2, t3, t4, t5, t6⟩ := var7 HB7.out
                have hnb : nf + 1 ≤ 1000 := by have := Hla.out.2.1; omega
                clear hrow25
                go_wp2_with (at_builtin; go_loud (rw [← Hx90.out, Hw90.out]); go_loud (refine wpList_fld (f := ⟨fieldK st, ya, yb⟩) (N := w21.heap.size) rfl _ _ rfl HO25.out (Nat.lt_succ_self b6) (fun k hk => by have := HNo.out k hk; have := Hz1.out; omega) (fun k hk => (HNo.out k hk).1) (by have := Hob.out; have := Hz1.out; omega) (by have := Hsz22.out; have := Hsz24.out; have := Hb21s.out; omega) hxl1 hxl2 Hxs1.out Hxs2.out Ha90.out rfl rfl Hb90.out (by rw [← Hnf.out]; exact hnb) ?_); intro v27 w27 ⟨q27, n27, c27, hv27⟩ ⟨d27, h27, hrow27⟩ hc27 ho27; subst hv27; have f27 := row_free hrow27; obtain ⟨y0, y1, y2, y3, y4, y5, y6⟩ := var7 hrow27)
                have hcF := (Chg.refl (fun k => k = b6) w27).setCell (p := ⟨b6, 6, none⟩) (.inl rfl) (.slice q27 n27 c27)
                have HR27 := Lib.hid (((Hr2.out.keep Ha90.out).chg hc27 fun e => by have := (HNo.out rb e).1; have := Hne.out; omega).chg hcF fun e => Hne.out.2.1 e.symm)
                have HB27 := Lib.hid (row_kept hcF (row_kept hc27 (row_kept Ha90.out (row_kept HcR.out HB2.out Hne.out.1) id) fun e => by have := (HNo.out b2 e).1; have := Hne.out; omega) (by have := Hne.out; omega))
                have HC27 := Lib.hid ((((Hc.out.above HcR.out fun k e => by have := Hne.out; omega).trans Ha90.out).above hc27 fun k e => by have := (HNo.out k e).1; have := Hne.out; omega).above hcF fun k e => by have := Hne.out; omega)
                have HO27 := Lib.hid ho27
                have Hdc := Lib.hid (fun s3 => fields_dec (st := st) (s3 := s3) (n := nf))
                clear hcF hc27 ho27 hrow27 f27 y0 y1 y2 y3 y4 y5 y6 t0 t1 t2 t3 t4 t5 t6 z0 z1 z2 z3 z4 z5 z6
                generalize stO (runO (exprF 32) (stO (runO (exprF 32) (stepS (guardO st nf))))) = o9 at *
                go_roundw
                case rel => exact ⟨fs ++ [⟨fieldK st, ya, yb⟩], o9, m, _, Hst.out.trans Hm.out, (fun s3 e => by have := Hdc.out s3 e; have := Hla.out; rw [List.length_append, ← Hnf.out]; exact ⟨by omega, by show nf + 1 ≤ 20; omega⟩), by rw [List.length_append, ← Hnf.out]; show nf + 1 ≤ 21; have := Hla.out.2.1; omega, HR27.out, HO27.out, HB27.out, HC27.out⟩
                case measure =>
                  rw [Hleft.out]
                  have hr13 := HR27.out
                  cases o9 with
                  | error z => rw [leftR_bad hr13]; omega
                  | ok s3 =>
                    have := Hdc.out s3 rfl
                    rw [leftR_ok hr13]; omega
              · have hKb : (fieldK st == 0) = false := by rw [beq_eq_false_iff_ne]; exact hK
                obtain ⟨d2, e2, _, _, _, _, hrow2, -⟩ := HO2.out
                obtain ⟨z0, z1, z2, z3, z4, z5, z6⟩ := var7 hrow2
                clear hrow2
                by_cases h20 : nf = 20
                · have hnb : ((nf : Int) == 20) = true := by rw [beq_iff_eq]; omega
                  have HGu := Lib.hid (show guardO st nf = .error (st.rem, 13) by unfold guardO; rw [if_neg hK, if_pos h20])
                  clear hK h20
                  go_wp2_with fail
                  refine (HF.out 13 (by decide)).mono ?_
                  rintro e w20 ⟨hc20, rfl, hr20⟩
                  replace Hr := Lib.hid (show RuM w20 rb s (guardO st nf) by rw [HGu.out]; exact hr20)
                  replace HB7 := Lib.hid (row_kept hc20 HB7.out Hn7.out.1)
                  replace HcR := Lib.hid (HcR.out.trans hc20)
                  clear hc20 hr20 HF HO2 c0 c1 c2 c3 c4 c5 c6 t0 t1 t2 t3 t4 t5 t6 z0 z1 z2 z3 z4 z5 z6
                  have HT := Lib.hid (rstep_any (o := guardO st nf) Hr.out hl8)
                  clear Hr
                  go_wp2_with fail
                  refine HT.out.mono ?_
                  rintro e w21 ⟨hc, rfl, hr2⟩
                  clear HT
                  have Hr := Lib.hid hr2
                  replace HB7 := Lib.hid (row_kept hc HB7.out Hn7.out.1)
                  replace HcR := Lib.hid (HcR.out.trans hc)
                  have Hb21 := Lib.hid (show b7 < w21.heap.size from lt_of_block HB7.out)
                  clear hc hr2
                  have HT := Lib.hid (rexpr_any (o := stepS (guardO st nf)) Hr.out hl8)
                  clear Hr
                  go_wp2_with fail
                  refine HT.out.mono ?_
                  rintro e w22 ⟨hc, hr2, v, ya, rfl, hv, hxA⟩
                  clear HT
                  obtain ⟨q81, n81, c81, kb81, ko81, rfl, hxl1, hxs1⟩ := hv.shape
                  have h7 := row_kept hc HB7.out Hn7.out.1
                  obtain ⟨t0, t1, t2, t3, t4, t5, t6⟩ := var7 h7
                  have f7 := row_free h7
                  obtain ⟨h7b, hc7⟩ := set7a h7 (.int .i64 ya.kind) (.string (tx ya.s)) (.slice q81 n81 c81)
                  replace HB7 := Lib.hid h7b
                  have Hr2 := Lib.hid (hr2.chg hc7 fun e => Hn7.out.1 e.symm)
                  have Hz1 := Lib.hid (show wq.heap.size ≤ w21.heap.size from HcR.out.size)
                  have hb7w := lt_of_block h7b
                  replace HcR := Lib.hid ((HcR.out.trans hc).wide hc7 fun k hk e => by have := Hn7.out; omega)
                  have Hxs1 := Lib.hid ((hxs1.keep hc7 fun k hk e => by have := Hn7.out; have := Hb21.out; omega).mono (T := fun k => w21.heap.size ≤ k ∧ k < w22.heap.size) fun k hk => hk)
                  have HxA := Lib.hid hxA
                  have Hsz22 := Lib.hid hc7.size
                  have Hb21s := Lib.hid hc.size
                  have Hrb21 := Lib.hid (show rb < w21.heap.size by have := Hne.out; have := Hob.out; have := Hz1.out; omega)
                  clear hc hr2 hv hxA hxs1 h7 h7b hc7 hb7w
                  go_upto_region 24 with fail
                  generalize ((w22.setCell ⟨b7, 1, none⟩ (.int .i64 ya.kind)).setCell ⟨b7, 2, none⟩ (.string (tx ya.s))).setCell ⟨b7, 3, none⟩ (.slice q81 n81 c81) = w23 at *
                  clear t0 t1 t2 t3 t4 t5 t6 f7
                  have HT := Lib.hid (rexpr_any (o := stO (runO (exprF 32) (stepS (guardO st nf)))) Hr2.out hl8)
                  clear Hr2
                  go_wp2_with fail
                  refine HT.out.mono ?_
                  rintro e w24 ⟨hc, hr2, v, yb, rfl, hv, hxB⟩
                  clear HT
                  obtain ⟨q85, n85, c85, kb85, ko85, rfl, hxl2, hxs2⟩ := hv.shape
                  have h7 := row_kept hc HB7.out Hn7.out.1
                  obtain ⟨t0, t1, t2, t3, t4, t5, t6⟩ := var7 h7
                  have f7 := row_free h7
                  obtain ⟨h7b, hc7⟩ := set7b h7 (.int .i64 yb.kind) (.string (tx yb.s)) (.slice q85 n85 c85)
                  replace HB7 := Lib.hid h7b
                  have Hr2 := Lib.hid (hr2.chg hc7 fun e => Hn7.out.1 e.symm)
                  replace HcR := Lib.hid ((HcR.out.trans hc).wide hc7 fun k hk e => by have := Hn7.out; omega)
                  have Hxs2 := Lib.hid ((hxs2.keep hc7 fun k hk e => by have := Hn7.out; have := Hb21.out; have := Hsz22.out; have := Hb21s.out; omega).mono (T := fun k => w21.heap.size ≤ k ∧ k < (((w24.setCell ⟨b7, 4, none⟩ (.int .i64 yb.kind)).setCell ⟨b7, 5, none⟩ (.string (tx yb.s))).setCell ⟨b7, 6, none⟩ (.slice q85 n85 c85)).heap.size) fun k hk => ⟨by have := Hsz22.out; have := Hb21s.out; omega, Nat.lt_of_lt_of_le hk.2 hc7.size⟩)
                  replace Hxs1 := Lib.hid (((Hxs1.out.keep hc fun k hk e => by have := Hn7.out; have := Hrb21.out; omega).keep hc7 fun k hk e => by have := Hn7.out; have := Hb21.out; omega).mono (T := fun k => w21.heap.size ≤ k ∧ k < (((w24.setCell ⟨b7, 4, none⟩ (.int .i64 yb.kind)).setCell ⟨b7, 5, none⟩ (.string (tx yb.s))).setCell ⟨b7, 6, none⟩ (.slice q85 n85 c85)).heap.size) fun k hk => ⟨hk.1, by have := hc.size; have := hc7.size; have := Hsz22.out; omega⟩)
                  have Hst := Lib.hid (fields_step (m := m) Hk0.out ya yb (by rw [← Hnf.out]; exact HxA.out) (by rw [← Hnf.out]; exact hxB))
                  rw [← Hnf.out] at Hst
                  have Hsz24 := Lib.hid (Nat.le_trans hc.size hc7.size)
                  clear hc hr2 hv hxB hxs2 h7 h7b hc7 HxA
                  go_upto_region 25 with fail
                  generalize ((w24.setCell ⟨b7, 4, none⟩ (.int .i64 yb.kind)).setCell ⟨b7, 5, none⟩ (.string (tx yb.s))).setCell ⟨b7, 6, none⟩ (.slice q85 n85 c85) = w25 at *
                  clear t0 t1 t2 t3 t4 t5 t6 f7
                  have HO25 := Lib.hid (HO.out.chg HcR.out (fun k h1 h2 e => by have := Hne.out; omega) Hne.out.2.1)
                  have HNo := Lib.hid (fun k (hk : (Value.slice qf nf cf).ownBlock = some k) => HO.out.fb.lt k hk)
                  have hal_ := (Chg.refl NoB w25).alloc (.cells #[.int .i64 (fieldK st), .int .i64 ya.kind, .string (tx ya.s), .slice q81 n81 c81, .int .i64 yb.kind, .string (tx yb.s), .slice q85 n85 c85] 47)
                  have hb_ := heap_alloc_new w25 (.cells #[.int .i64 (fieldK st), .int .i64 ya.kind, .string (tx ya.s), .slice q81 n81 c81, .int .i64 yb.kind, .string (tx yb.s), .slice q85 n85 c85] 47)
                  obtain ⟨b90, hxb_⟩ : ∃ b, b = w25.heap.size := ⟨_, rfl⟩
                  obtain ⟨w26, hw_⟩ : ∃ w_, w25.alloc (.cells #[.int .i64 (fieldK st), .int .i64 ya.kind, .string (tx ya.s), .slice q81 n81 c81, .int .i64 yb.kind, .string (tx yb.s), .slice q85 n85 c85] 47) = w_ := ⟨_, rfl⟩
                  have hz_ : w26.heap.size = b90 + 1 := by rw [← hw_, hxb_]; exact alloc_size _ _
                  rw [hw_] at hal_ hb_
                  rw [← hxb_] at hb_
                  have Hw90 := Lib.hid hw_
                  have Hx90 := Lib.hid hxb_
                  have Ha90 := Lib.hid hal_
                  have Hb90 := Lib.hid hb_
                  have Hz90 := Lib.hid hz_
                  clear hal_ hb_ hxb_ hw_ hz_
                  obtain ⟨d25, h25, _, _, _, _, hrow25, -⟩ := HO25.out
                  obtain ⟨z0, z1, z2, z3, z4, z5, z6⟩ := var7 hrow25
                  obtain ⟨t0, t1, t2, t3, t4, t5, t6⟩ := var7 HB7.out
                  have hnb : nf + 1 ≤ 1000 := by have := Hla.out.2.1; omega
                  clear hrow25
                  go_wp2_with (at_builtin; go_loud (rw [← Hx90.out, Hw90.out]); go_loud (refine wpList_fld (f := ⟨fieldK st, ya, yb⟩) (N := w21.heap.size) rfl _ _ rfl HO25.out (Nat.lt_succ_self b6) (fun k hk => by have := HNo.out k hk; have := Hz1.out; omega) (fun k hk => (HNo.out k hk).1) (by have := Hob.out; have := Hz1.out; omega) (by have := Hsz22.out; have := Hsz24.out; have := Hb21s.out; omega) hxl1 hxl2 Hxs1.out Hxs2.out Ha90.out rfl rfl Hb90.out (by rw [← Hnf.out]; exact hnb) ?_); intro v27 w27 ⟨q27, n27, c27, hv27⟩ ⟨d27, h27, hrow27⟩ hc27 ho27; subst hv27; have f27 := row_free hrow27; obtain ⟨y0, y1, y2, y3, y4, y5, y6⟩ := var7 hrow27)
                  have hcF := (Chg.refl (fun k => k = b6) w27).setCell (p := ⟨b6, 6, none⟩) (.inl rfl) (.slice q27 n27 c27)
                  have HR27 := Lib.hid (((Hr2.out.keep Ha90.out).chg hc27 fun e => by have := (HNo.out rb e).1; have := Hne.out; omega).chg hcF fun e => Hne.out.2.1 e.symm)
                  have HB27 := Lib.hid (row_kept hcF (row_kept hc27 (row_kept Ha90.out (row_kept HcR.out HB2.out Hne.out.1) id) fun e => by have := (HNo.out b2 e).1; have := Hne.out; omega) (by have := Hne.out; omega))
                  have HC27 := Lib.hid ((((Hc.out.above HcR.out fun k e => by have := Hne.out; omega).trans Ha90.out).above hc27 fun k e => by have := (HNo.out k e).1; have := Hne.out; omega).above hcF fun k e => by have := Hne.out; omega)
                  have HO27 := Lib.hid ho27
                  have Hdc := Lib.hid (fun s3 => fields_dec (st := st) (s3 := s3) (n := nf))
                  clear hcF hc27 ho27 hrow27 f27 y0 y1 y2 y3 y4 y5 y6 t0 t1 t2 t3 t4 t5 t6 z0 z1 z2 z3 z4 z5 z6
                  generalize stO (runO (exprF 32) (stO (runO (exprF 32) (stepS (guardO st nf))))) = o9 at *
                  go_roundw
                  case rel => exact ⟨fs ++ [⟨fieldK st, ya, yb⟩], o9, m, _, Hst.out.trans Hm.out, (fun s3 e => by have := Hdc.out s3 e; have := Hla.out; rw [List.length_append, ← Hnf.out]; exact ⟨by omega, by show nf + 1 ≤ 20; omega⟩), by rw [List.length_append, ← Hnf.out]; show nf + 1 ≤ 21; have := Hla.out.2.1; omega, HR27.out, HO27.out, HB27.out, HC27.out⟩
                  case measure =>
                    rw [Hleft.out]
                    have hr13 := HR27.out
                    cases o9 with
                    | error z => rw [leftR_bad hr13]; omega
                    | ok s3 =>
                      have := Hdc.out s3 rfl
                      rw [leftR_ok hr13]; omega
                · have hnb : ((nf : Int) == 20) = false := by rw [beq_eq_false_iff_ne]; omega
                  have HGu := Lib.hid (show guardO st nf = .ok st by unfold guardO; rw [if_neg hK, if_neg h20])
                  replace Hr := Lib.hid (show RuM wr rb s (guardO st nf) by rw [HGu.out]; exact Hr.out)
                  clear hK h20 HF HO2
                  go_upto_region 22 with fail
                  clear c0 c1 c2 c3 c4 c5 c6 t0 t1 t2 t3 t4 t5 t6 z0 z1 z2 z3 z4 z5 z6
                  have HT := Lib.hid (rstep_any (o := guardO st nf) Hr.out hl8)
                  clear Hr
                  go_wp2_with fail
                  refine HT.out.mono ?_
                  rintro e w21 ⟨hc, rfl, hr2⟩
                  clear HT
                  have Hr := Lib.hid hr2
                  replace HB7 := Lib.hid (row_kept hc HB7.out Hn7.out.1)
                  replace HcR := Lib.hid (HcR.out.trans hc)
                  have Hb21 := Lib.hid (show b7 < w21.heap.size from lt_of_block HB7.out)
                  clear hc hr2
                  have HT := Lib.hid (rexpr_any (o := stepS (guardO st nf)) Hr.out hl8)
                  clear Hr
                  go_wp2_with fail
                  refine HT.out.mono ?_
                  rintro e w22 ⟨hc, hr2, v, ya, rfl, hv, hxA⟩
                  clear HT
                  obtain ⟨q81, n81, c81, kb81, ko81, rfl, hxl1, hxs1⟩ := hv.shape
                  have h7 := row_kept hc HB7.out Hn7.out.1
                  obtain ⟨t0, t1, t2, t3, t4, t5, t6⟩ := var7 h7
                  have f7 := row_free h7
                  obtain ⟨h7b, hc7⟩ := set7a h7 (.int .i64 ya.kind) (.string (tx ya.s)) (.slice q81 n81 c81)
                  replace HB7 := Lib.hid h7b
                  have Hr2 := Lib.hid (hr2.chg hc7 fun e => Hn7.out.1 e.symm)
                  have Hz1 := Lib.hid (show wq.heap.size ≤ w21.heap.size from HcR.out.size)
                  have hb7w := lt_of_block h7b
                  replace HcR := Lib.hid ((HcR.out.trans hc).wide hc7 fun k hk e => by have := Hn7.out; omega)
                  have Hxs1 := Lib.hid ((hxs1.keep hc7 fun k hk e => by have := Hn7.out; have := Hb21.out; omega).mono (T := fun k => w21.heap.size ≤ k ∧ k < w22.heap.size) fun k hk => hk)
                  have HxA := Lib.hid hxA
                  have Hsz22 := Lib.hid hc7.size
                  have Hb21s := Lib.hid hc.size
                  have Hrb21 := Lib.hid (show rb < w21.heap.size by have := Hne.out; have := Hob.out; have := Hz1.out; omega)
                  clear hc hr2 hv hxA hxs1 h7 h7b hc7 hb7w
                  go_upto_region 24 with fail
                  generalize ((w22.setCell ⟨b7, 1, none⟩ (.int .i64 ya.kind)).setCell ⟨b7, 2, none⟩ (.string (tx ya.s))).setCell ⟨b7, 3, none⟩ (.slice q81 n81 c81) = w23 at *
                  clear t0 t1 t2 t3 t4 t5 t6 f7
                  have HT := Lib.hid (rexpr_any (o := stO (runO (exprF 32) (stepS (guardO st nf)))) Hr2.out hl8)
                  clear Hr2
                  go_wp2_with fail
                  refine HT.out.mono ?_
                  rintro e w24 ⟨hc, hr2, v, yb, rfl, hv, hxB⟩
                  clear HT
                  obtain ⟨q85, n85, c85, kb85, ko85, rfl, hxl2, hxs2⟩ := hv.shape
                  have h7 := row_kept hc HB7.out Hn7.out.1
                  obtain ⟨t0, t1, t2, t3, t4, t5, t6⟩ := var7 h7
                  have f7 := row_free h7
                  obtain ⟨h7b, hc7⟩ := set7b h7 (.int .i64 yb.kind) (.string (tx yb.s)) (.slice q85 n85 c85)
                  replace HB7 := Lib.hid h7b
                  have Hr2 := Lib.hid (hr2.chg hc7 fun e => Hn7.out.1 e.symm)
                  replace HcR := Lib.hid ((HcR.out.trans hc).wide hc7 fun k hk e => by have := Hn7.out; omega)
                  have Hxs2 := Lib.hid ((hxs2.keep hc7 fun k hk e => by have := Hn7.out; have := Hb21.out; have := Hsz22.out; have := Hb21s.out; omega).mono (T := fun k => w21.heap.size ≤ k ∧ k < (((w24.setCell ⟨b7, 4, none⟩ (.int .i64 yb.kind)).setCell ⟨b7, 5, none⟩ (.string (tx yb.s))).setCell ⟨b7, 6, none⟩ (.slice q85 n85 c85)).heap.size) fun k hk => ⟨by have := Hsz22.out; have := Hb21s.out; omega, Nat.lt_of_lt_of_le hk.2 hc7.size⟩)
                  replace Hxs1 := Lib.hid (((Hxs1.out.keep hc fun k hk e => by have := Hn7.out; have := Hrb21.out; omega).keep hc7 fun k hk e => by have := Hn7.out; have := Hb21.out; omega).mono (T := fun k => w21.heap.size ≤ k ∧ k < (((w24.setCell ⟨b7, 4, none⟩ (.int .i64 yb.kind)).setCell ⟨b7, 5, none⟩ (.string (tx yb.s))).setCell ⟨b7, 6, none⟩ (.slice q85 n85 c85)).heap.size) fun k hk => ⟨hk.1, by have := hc.size; have := hc7.size; have := Hsz22.out; omega⟩)
                  have Hst := Lib.hid (fields_step (m := m) Hk0.out ya yb (by rw [← Hnf.out]; exact HxA.out) (by rw [← Hnf.out]; exact hxB))
                  rw [← Hnf.out] at Hst
                  have Hsz24 := Lib.hid (Nat.le_trans hc.size hc7.size)
                  clear hc hr2 hv hxB hxs2 h7 h7b hc7 HxA
                  go_upto_region 25 with fail
                  generalize ((w24.setCell ⟨b7, 4, none⟩ (.int .i64 yb.kind)).setCell ⟨b7, 5, none⟩ (.string (tx yb.s))).setCell ⟨b7, 6, none⟩ (.slice q85 n85 c85) = w25 at *
                  clear t0 t1 t2 t3 t4 t5 t6 f7
                  have HO25 := Lib.hid (HO.out.chg HcR.out (fun k h1 h2 e => by have := Hne.out; omega) Hne.out.2.1)
                  have HNo := Lib.hid (fun k (hk : (Value.slice qf nf cf).ownBlock = some k) => HO.out.fb.lt k hk)
                  have hal_ := (Chg.refl NoB w25).alloc (.cells #[.int .i64 (fieldK st), .int .i64 ya.kind, .string (tx ya.s), .slice q81 n81 c81, .int .i64 yb.kind, .string (tx yb.s), .slice q85 n85 c85] 47)
                  have hb_ := heap_alloc_new w25 (.cells #[.int .i64 (fieldK st), .int .i64 ya.kind, .string (tx ya.s), .slice q81 n81 c81, .int .i64 yb.kind, .string (tx yb.s), .slice q85 n85 c85] 47)
                  obtain ⟨b90, hxb_⟩ : ∃ b, b = w25.heap.size := ⟨_, rfl⟩
                  obtain ⟨w26, hw_⟩ : ∃ w_, w25.alloc (.cells #[.int .i64 (fieldK st), .int .i64 ya.kind, .string (tx ya.s), .slice q81 n81 c81, .int .i64 yb.kind, .string (tx yb.s), .slice q85 n85 c85] 47) = w_ := ⟨_, rfl⟩
                  have hz_ : w26.heap.size = b90 + 1 := by rw [← hw_, hxb_]; exact alloc_size _ _
                  rw [hw_] at hal_ hb_
                  rw [← hxb_] at hb_
                  have Hw90 := Lib.hid hw_
                  have Hx90 := Lib.hid hxb_
                  have Ha90 := Lib.hid hal_
                  have Hb90 := Lib.hid hb_
                  have Hz90 := Lib.hid hz_
                  clear hal_ hb_ hxb_ hw_ hz_
                  obtain ⟨d25, h25, _, _, _, _, hrow25, -⟩ := HO25.out
                  obtain ⟨z0, z1, z2, z3, z4, z5, z6⟩ := var7 hrow25
                  obtain ⟨t0, t1, t2, t3, t4, t5, t6⟩ := var7 HB7.out
                  have hnb : nf + 1 ≤ 1000 := by have := Hla.out.2.1; omega
                  clear hrow25
                  go_wp2_with (at_builtin; go_loud (rw [← Hx90.out, Hw90.out]); go_loud (refine wpList_fld (f := ⟨fieldK st, ya, yb⟩) (N := w21.heap.size) rfl _ _ rfl HO25.out (Nat.lt_succ_self b6) (fun k hk => by have := HNo.out k hk; have := Hz1.out; omega) (fun k hk => (HNo.out k hk).1) (by have := Hob.out; have := Hz1.out; omega) (by have := Hsz22.out; have := Hsz24.out; have := Hb21s.out; omega) hxl1 hxl2 Hxs1.out Hxs2.out Ha90.out rfl rfl Hb90.out (by rw [← Hnf.out]; exact hnb) ?_); intro v27 w27 ⟨q27, n27, c27, hv27⟩ ⟨d27, h27, hrow27⟩ hc27 ho27; subst hv27; have f27 := row_free hrow27; obtain ⟨y0, y1, y2, y3, y4, y5, y6⟩ := var7 hrow27)
                  have hcF := (Chg.refl (fun k => k = b6) w27).setCell (p := ⟨b6, 6, none⟩) (.inl rfl) (.slice q27 n27 c27)
                  have HR27 := Lib.hid (((Hr2.out.keep Ha90.out).chg hc27 fun e => by have := (HNo.out rb e).1; have := Hne.out; omega).chg hcF fun e => Hne.out.2.1 e.symm)
                  have HB27 := Lib.hid (row_kept hcF (row_kept hc27 (row_kept Ha90.out (row_kept HcR.out HB2.out Hne.out.1) id) fun e => by have := (HNo.out b2 e).1; have := Hne.out; omega) (by have := Hne.out; omega))
                  have HC27 := Lib.hid ((((Hc.out.above HcR.out fun k e => by have := Hne.out; omega).trans Ha90.out).above hc27 fun k e => by have := (HNo.out k e).1; have := Hne.out; omega).above hcF fun k e => by have := Hne.out; omega)
                  have HO27 := Lib.hid ho27
                  have Hdc := Lib.hid (fun s3 => fields_dec (st := st) (s3 := s3) (n := nf))
                  clear hcF hc27 ho27 hrow27 f27 y0 y1 y2 y3 y4 y5 y6 t0 t1 t2 t3 t4 t5 t6 z0 z1 z2 z3 z4 z5 z6
                  generalize stO (runO (exprF 32) (stO (runO (exprF 32) (stepS (guardO st nf))))) = o9 at *
                  go_roundw
                  case rel => exact ⟨fs ++ [⟨fieldK st, ya, yb⟩], o9, m, _, Hst.out.trans Hm.out, (fun s3 e => by have := Hdc.out s3 e; have := Hla.out; rw [List.length_append, ← Hnf.out]; exact ⟨by omega, by show nf + 1 ≤ 20; omega⟩), by rw [List.length_append, ← Hnf.out]; show nf + 1 ≤ 21; have := Hla.out.2.1; omega, HR27.out, HO27.out, HB27.out, HC27.out⟩
                  case measure =>
                    rw [Hleft.out]
                    have hr13 := HR27.out
                    cases o9 with
                    | error z => rw [leftR_bad hr13]; omega
                    | ok s3 =>
                      have := Hdc.out s3 rfl
                      rw [leftR_ok hr13]; omega
end Go.Proofs.YtdgcpgbknfojhaaDoor
