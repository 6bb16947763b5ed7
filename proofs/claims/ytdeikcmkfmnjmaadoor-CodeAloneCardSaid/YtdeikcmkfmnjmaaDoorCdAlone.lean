/- Proved: the statement CodeAlone holds for every instruction, list of instructions and number. Conditions: the listed package variables read as the program's text lays them (the card ties them); nothing else. -/
import Derived.Test.YtdeikcmkfmnjmaaDoorCdStep
import Derived.Test.YtdeikcmkfmnjmaaDoorCdAlive
import Derived.Test.YtdeikcmkfmnjmaaDoorCdAloneMath
namespace Go.Proofs.YtdeikcmkfmnjmaaDoor
open Go.ChangeShapes Go.WideShapes Go.ChangeAt Go.RowKit
set_option linter.unusedVariables false
open Go.ChangeMaps (open_string shut_string)
set_option maxRecDepth 20000 in
theorem open_nil {H : Type} {enc : TypeId × Value → H} {W : World} {base : Nat} {v : Value} {d : DataW H} {p : List MemPlace} (hv : Value.okWide Tryd.prog W .any base 27 v) (h : DataW.Trod enc Tryd.prog W 0 (fun _ => true) true 27 v d p) : ∀ l c, v = .slice none l c → c = 0 := by
  obtain ⟨a0, len0, cap0, rfl⟩ := okWide_slice Tryd.underlying27 hv
  obtain ⟨fuel, hf⟩ := h
  have hf : DataW.trod enc Tryd.prog W 0 (fun _ => true) true fuel 27 [.slice a0 len0 cap0] = some (d, p) := by simpa [Value.cells] using hf
  intro l c e0
  rcases DataW.trod_slice Tryd.underlying27 hf with ⟨e, _⟩ | ⟨a, len, cap, elems, rest, n, hfn, e, hx, _, hl, hm, hlen, hel, _, _⟩
  · simp only [List.cons.injEq, and_true] at e
    rw [e] at e0
    cases e0
    rfl
  · simp only [List.cons.injEq, and_true] at e
    rw [e] at e0
    cases e0
set_option maxHeartbeats 8000000 in
set_option maxRecDepth 20000 in
theorem codeAlone_all (x : InsL) (ps : List InsL) (v : Value) (kb ko : Nat) (at' : Int) (W : World) (hx : x.wf) (hs : InsS W (OldB W) v ps kb ko) (hzc : ∀ l c, v = .slice none l c → c = 0) (wat : (Lit.int .i64 at').wf = true) (hev : Ev W.heap.size W) :
    Calls Tryd.prog 7 #[x.val, v, .int .i64 at'] W fun e w' => e = .returned (.bool true) ∧ Chg NoB W w' := by
  obtain ⟨op, n, s⟩ := x
  have Hx := Lib.hid hx
  have hat := bounds_i64 wat
  have Hs := Lib.hid hs
  obtain ⟨⟨q, c, rfl, h1, h2, h3⟩, hat'⟩ := hs
  have H3 := Lib.hid h3
  have Hzc : Hid (q = none → c = 0) := Lib.hid fun e => hzc _ _ (by rw [e])
  clear hzc
  have Hat := Lib.hid hat'
  clear hat'
  obtain ⟨len, hlen⟩ : ∃ len, len = ps.length := ⟨_, rfl⟩
  rw [← hlen] at Hs h1 ⊢
  have Hlen := Lib.hid hlen
  have hss : (tx s).size = s.length := tx_size s
  obtain ⟨sl, hsl⟩ : ∃ sl, sl = s.length := ⟨_, rfl⟩
  rw [← hsl] at hss
  have hslb : sl ≤ 281474976710656 := by rw [hsl]; exact hx.2.2
  have Hev := Lib.hid hev
  have hal := (Chg.refl NoB W).alloc (.cells #[.int .i64 op, .int .i64 n, .string (tx s)] 39)
  have hb := heap_alloc_new W (.cells #[.int .i64 op, .int .i64 n, .string (tx s)] 39)
  obtain ⟨vb, hvb⟩ : ∃ vb, vb = W.heap.size := ⟨_, rfl⟩
  rw [← hvb] at hb
  have Hal := Lib.hid hal
  have Hb := Lib.hid hb
  have Hvb := Lib.hid hvb
  unfold maxLen at h2
  unfold InsL.val
  clear hev hlen hx wat h3 hal hb hvb hsl
  go_enter Tryd.func7, Tryd.ntmps7
  go_upto_region 1 with fail
  rw [← Hvb.out]
  generalize W.alloc (.cells #[.int .i64 op, .int .i64 n, .string (tx s)] 39) = w1 at *
  go_wp2_with fail
  refine (alive_any _ w1 (Hev.out.keep Hal.out)).mono ?_
  rintro e w2 ⟨rfl, hc2⟩
  have Hc2 := Lib.hid (Hal.out.trans hc2)
  have Hb2 := Lib.hid (row_kept hc2 Hb.out id)
  have Hs2 := Lib.hid (Hs.out.keep Hc2.out fun _ _ => id)
  have Hgr := Lib.hid (great_any ps _ _ kb ko w2 Hs2.out)
  clear hc2
  go_wp2_with fail
  by_cases hg : 131072 < sumF ps
  · rw [decide_eq_true hg] at Hgr
    refine Hgr.out.mono ?_
    rintro e w3 ⟨rfl, hc3⟩
    go_wp2_with fail
    go_ret
    exact ⟨rfl, Hc2.out.trans hc3⟩
  · rw [decide_eq_false hg] at Hgr
    clear hg
    refine Hgr.out.mono ?_
    rintro e w3 ⟨rfl, hc3⟩
    have Hc3 := Lib.hid (Hc2.out.trans hc3)
    have Hb3 := Lib.hid (row_kept hc3 Hb2.out id)
    have Hs3 := Lib.hid (Hs2.out.keep hc3 fun _ _ => id)
    obtain ⟨x0, x1, x2⟩ := var3 Hb3.out
    clear hc3 Hgr
    by_cases g1 : 4096 < sl
    · go_wp2_with fail
      go_ret
      exact ⟨rfl, Hc3.out⟩
    by_cases g2 : at' < 0
    · go_wp2_with fail
      go_ret
      exact ⟨rfl, Hc3.out⟩
    by_cases g3 : (len : Int) < at'
    · go_wp2_with fail
      go_ret
      exact ⟨rfl, Hc3.out⟩
    by_cases g4 : 256 ≤ len
    · go_wp2_with fail
      go_ret
      exact ⟨rfl, Hc3.out⟩
    have Ht := Lib.hid (takes_any op w3)
    go_wp2_with fail
    refine Ht.out.mono ?_
    rintro e w4 ⟨rfl, hc4⟩
    have Hc4 := Lib.hid (Hc3.out.trans hc4)
    have Hb4 := Lib.hid (row_kept hc4 Hb3.out id)
    have Hs4 := Lib.hid (Hs3.out.keep hc4 fun _ _ => id)
    clear hc4 Ht x0 x1 x2
    obtain ⟨x0, x1, x2⟩ := var3 Hb4.out
    by_cases g5 : takesF op = 4
    · have g5b : (takesF op == 4) = true := by rw [beq_iff_eq]; exact g5
      go_wp2_with fail
      go_ret
      exact ⟨rfl, Hc4.out⟩
    have g5b : (takesF op == 4) = false := by rw [beq_eq_false_iff_ne]; exact g5
    have G5 := Lib.hid g5
    clear g5
    obtain ⟨i0, hi, hz0, hz1, hz2⟩ := info_parts insInfo
    have Hi := Lib.hid hi
    have Hz0 := Lib.hid hz0
    have Hz1 := Lib.hid hz1
    have Hz2 := Lib.hid hz2
    have hal5 := (Chg.refl NoB w4).alloc (.cells #[.int .i64 op, .int .i64 n, .string (tx s)] 39)
    have ho5 := World.ownsRow_lit (base := w4.heap.size) (e := 39) (size := 3) w4 #[.int .i64 op, .int .i64 n, .string (tx s)] 1 (Nat.le_refl _) (by decide) rfl
    obtain ⟨w5, hw5⟩ : ∃ w5, w4.alloc (.cells #[.int .i64 op, .int .i64 n, .string (tx s)] 39) = w5 := ⟨_, rfl⟩
    rw [hw5] at hal5 ho5
    have hz5 : w5.heap.size = w4.heap.size + 1 := by rw [← hw5]; exact alloc_size _ _
    have hal6 := (Chg.refl NoB w5).alloc (.cells #[.int .i64 1, .int .i64 0, .string ⟨#[]⟩] 39)
    have Ho6 := Lib.hid (ownsRow_chg ho5 hal6 fun _ _ => id)
    have hb6 : w4.heap.size ≤ (w5.alloc (.cells #[.int .i64 1, .int .i64 0, .string ⟨#[]⟩] 39)).heap.size := Nat.le_trans hal5.size hal6.size
    have Hc6 := Lib.hid (Hc4.out.trans (hal5.trans hal6))
    have N1 := Lib.hid (show 1 + 1 ≤ maxLen by decide)
    have N2 := Lib.hid (show (1 + 1) * 32 ≤ 140737488355328 by decide)
    have hlit : ∀ (j : Nat) (u : Value), [Value.int .i64 1, .int .i64 0, .string ⟨#[]⟩][j]? = some u → (w5.alloc (.cells #[.int .i64 1, .int .i64 0, .string ⟨#[]⟩] 39)).cell? ((⟨w5.heap.size, 0, none⟩ : Addr).add j) = some u := lit3 w5 _ _ _ _
    have Hlit := Lib.hid hlit
    have hc46 : Chg NoB w4 (w5.alloc (.cells #[.int .i64 1, .int .i64 0, .string ⟨#[]⟩] 39)) := hal5.trans hal6
    clear hi hz0 hz1 hz2 hal5 ho5 hal6 hlit
    obtain ⟨ck, hck⟩ : ∃ ck : Int × Int, ck = checkF [⟨op, n, s⟩, ⟨1, 0, []⟩] := ⟨_, rfl⟩
    have Hck := Lib.hid hck
    have hst5 : ∀ (v7 : Value) (w7 : World), w7.ownsRow w4.heap.size 39 3 v7 (1 + 1) ([.int .i64 op, .int .i64 n, .string (tx s)] ++ [.int .i64 1, .int .i64 0, .string ⟨#[]⟩]) → (w5.alloc (.cells #[.int .i64 1, .int .i64 0, .string ⟨#[]⟩] 39)).grownBy w7 (some w4.heap.size) →
        Hid (Chg NoB w4 w7) ∧ Hid (Calls Tryd.prog 16 #[v7] w7 (SayI (.tuple #[.int .i64 ck.1, .int .i64 ck.2]) w7)) := fun v7 w7 ho7 hg7 => by
      have hc7 : Chg NoB w4 w7 := (hc46).grown hg7 fun k hk => .inr (by simp at hk; omega)
      obtain ⟨kb7, hs7⟩ := InsS.of_row (ps := [⟨op, n, s⟩, ⟨1, 0, []⟩]) ho7 (by
        intro i hi
        match i, hi with
        | 0, _ => exact Hx.out
        | 1, _ => exact (show InsL.wf ⟨1, 0, []⟩ from ⟨⟨by decide, by decide⟩, ⟨by decide, by decide⟩, Nat.zero_le _⟩))
      refine ⟨Lib.hid hc7, Lib.hid ?_⟩
      rw [hck]
      exact check_any _ _ _ kb7 0 W.heap.size w7 (Hev.out.wd.keep (Hc4.out.trans hc7)) (by show 2 ≤ 131072; omega) hs7
    have Hone : Hid (∀ u ∈ [Value.int .i64 1, .int .i64 0, .string ⟨#[]⟩], u.oneCell' = true) := Lib.hid (flatI_one [⟨1, 0, []⟩])
    clear hck hc46 hz5
    go_upto_region 6 with (at_builtin; go_must (refine wpList_append_at _ rfl _ _ 27 rfl w4.heap.size 39 i0 (.agg #[.int .i64 0, .int .i64 0, .string ⟨#[]⟩]) 3 32 Tryd.underlying27 Hi.out Hz0.out Hz1.out Hz2.out rfl (by decide) _ 1 _ rfl Ho6.out ⟨w5.heap.size, 0, none⟩ 1 1 [.int .i64 1, .int .i64 0, .string ⟨#[]⟩] rfl rfl Hlit.out Hone.out N1.out N2.out hb6 ?_); intro v7 w7 ho7 hg7 _; obtain ⟨Hc7, Hk7⟩ := hst5 v7 w7 ho7 hg7; clear ho7 hg7)
    refine Hk7.out.mono ?_
    rintro e w8 ⟨rfl, hc8⟩
    have Hc8 := Lib.hid (Hc4.out.trans (Hc7.out.trans hc8))
    have Hb8 := Lib.hid (row_kept (Hc7.out.trans hc8) Hb4.out id)
    clear Hk7 hc8 x0 x1 x2 Hi Hz0 Hz1 Hz2 N1 N2 hb6 Ho6 Hlit Hb2 Hb3 Hb
    go_upto_region 6 with fail
    go_upto_region 7 with fail
    go_loopw [58] (fun i wr => ∃ k : Nat, k ≤ len ∧ i = .int .i64 k ∧ (∀ j (hj : j < ps.length), j < k → takesF ps[j].op ≠ 4) ∧ Chg NoB w8 wr) (fun i _ => len - (intOf i).toNat)
    case atStart => exact ⟨0, Nat.zero_le _, rfl, fun j _ hj => absurd hj (Nat.not_lt_zero _), Chg.refl _ _⟩
    case round =>
      obtain ⟨k, hk, rfl, hno, hch⟩ := hrel
      have Hno := Lib.hid hno
      have Hch := Lib.hid hch
      clear hno hch
      by_cases hlt : k < len
      · have hlt' : k < ps.length := by rw [← Hlen.out]; exact hlt
        obtain ⟨rfl, -⟩ := H3.out (by rintro rfl; simp at hlt')
        obtain ⟨hwf, c0, c1, c2⟩ := Hat.out k hlt'
        have c0 := Hc8.out.keep c0
        have c1 := Hc8.out.keep c1
        have c2 := Hc8.out.keep c2
        have c0 := Hch.out.keep c0
        have c1 := Hch.out.keep c1
        have c2 := Hch.out.keep c2
        have Hgo : Hid (takesF ps[k].op ≠ 4 → ∀ j (hj : j < ps.length), j < k + 1 → takesF ps[j].op ≠ 4) := Lib.hid fun h j hj hjk => by
          by_cases e : j = k
          · subst e; exact h
          · exact Hno.out j hj (by omega)
        generalize ps[k] = y at *
        obtain ⟨yop, yn, ys⟩ := y
        simp only at c0 c1 c2 Hgo
        have hal := (Chg.refl NoB wr).alloc (.cells #[.int .i64 yop, .int .i64 yn, .string (tx ys)] 39)
        have hb9 := heap_alloc_new wr (.cells #[.int .i64 yop, .int .i64 yn, .string (tx ys)] 39)
        obtain ⟨yb, hyb⟩ : ∃ yb, yb = wr.heap.size := ⟨_, rfl⟩
        rw [← hyb] at hb9
        have Hb9 := Lib.hid hb9
        have Hal9 := Lib.hid (Hch.out.trans hal)
        have Hyb := Lib.hid hyb
        clear hal hb9 hyb hwf
        go_upto_region 9 with fail
        rw [← Hyb.out]
        generalize wr.alloc (.cells #[.int .i64 yop, .int .i64 yn, .string (tx ys)] 39) = w9 at *
        obtain ⟨f0, f1, f2⟩ := var3 Hb9.out
        clear c0 c1 c2
        have Ht := Lib.hid (takes_any yop w9)
        go_wp2_with fail
        refine Ht.out.mono ?_
        rintro e wt ⟨rfl, hct⟩
        have Hct := Lib.hid (Hal9.out.trans hct)
        clear f0 f1 f2 hct Ht
        generalize takesF yop = tk at *
        by_cases h4 : tk = 4
        · subst h4
          go_wp2_with fail
          go_ret
          exact ⟨rfl, Hc8.out.trans Hct.out⟩
        · have h4b : (tk == 4) = false := by rw [beq_eq_false_iff_ne]; exact h4
          have Hg := Lib.hid (Hgo.out h4)
          clear h4 Hgo
          go_wp2_with fail
          go_roundw
          case rel => exact ⟨k + 1, by omega, by go_num, Hg.out, Hct.out⟩
          case measure => simp [intOf]; omega
      · obtain rfl : k = len := by omega
        have Hall : Hid (∀ y ∈ ps, takesF y.op ≠ 4) := Lib.hid fun y hy => by
          obtain ⟨j, hj, rfl⟩ := List.getElem_of_mem hy
          exact Hno.out j hj (by rw [Hlen.out]; exact hj)
        have Hb12 := Lib.hid (row_kept Hch.out Hb8.out id)
        have Hc12 := Lib.hid (Hc8.out.trans Hch.out)
        have Hs12 := Lib.hid (Hs.out.keep Hc12.out fun _ _ => id)
        have Hck12 := Lib.hid (check_any ps _ _ kb ko W.heap.size wr (Hev.out.wd.keep Hc12.out) (by have := Hlen.out; omega) Hs12.out)
        obtain ⟨cp, hcp⟩ : ∃ cp, cp = checkF ps := ⟨_, rfl⟩
        rw [← hcp] at Hck12
        have Hcp := Lib.hid hcp
        clear hcp Hno hk hlt
        go_upto_region 12 with fail
        go_wp2_with fail
        refine Hck12.out.mono ?_
        rintro e w13 ⟨rfl, hc13⟩
        have Hc13 := Lib.hid (Hc12.out.trans hc13)
        have Hb13 := Lib.hid (row_kept hc13 Hb12.out id)
        have Hs13 := Lib.hid (Hs12.out.keep hc13 fun _ _ => id)
        obtain ⟨x0, x1, x2⟩ := var3 Hb13.out
        clear hc13 Hck12 Hch Hc12 Hb12 Hs12
        go_upto_region 13 with fail
        obtain ⟨a, rfl⟩ := Int.eq_ofNat_of_zero_le g2
        have hak : a ≤ k := by omega
        have hk256 : k < 256 := by omega
        have Hakl := Lib.hid (show a ≤ ps.length by rw [← Hlen.out]; exact hak)
        obtain ⟨i0, hi, hz0, hz1, hz2⟩ := info_parts insInfo
        have Hi := Lib.hid hi
        have Hz0 := Lib.hid hz0
        have Hz1 := Lib.hid hz1
        have Hz2 := Lib.hid hz2
        have hdr : Chg NoB w13 w13.drew := (Chg.refl NoB w13).drew
        have hE := hdr.alloc (.cells #[] 39)
        have hX := hdr.alloc (.cells #[.int .i64 op, .int .i64 n, .string (tx s)] 39)
        have hEX := hE.alloc (.cells #[.int .i64 op, .int .i64 n, .string (tx s)] 39)
        have hXE := hX.alloc (.cells #[] 39)
        have O1 := Lib.hid (own_nil w13.drew w13.heap.size hdr.size)
        have O2 := Lib.hid (ownsRow_chg O1.out ((Chg.refl NoB (w13.drew.alloc (.cells #[] 39))).alloc (.cells #[.int .i64 op, .int .i64 n, .string (tx s)] 39)) fun _ _ => id)
        have ho3 := own_nil (w13.drew.alloc (.cells #[.int .i64 op, .int .i64 n, .string (tx s)] 39)) w13.heap.size hX.size
        rw [alloc_size] at ho3
        have O3 := Lib.hid ho3
        clear ho3
        have HE := Lib.hid hE
        have HX := Lib.hid hX
        have HEX := Lib.hid hEX
        have HXE := Lib.hid hXE
        have hl1 := lit3 (w13.drew.alloc (.cells #[] 39)) (.int .i64 op) (.int .i64 n) (.string (tx s)) 39
        rw [alloc_size] at hl1
        have L1 := Lib.hid hl1
        clear hl1
        have L2 := Lib.hid (lit3 w13.drew (.int .i64 op) (.int .i64 n) (.string (tx s)) 39)
        have L3 := Lib.hid (show ∀ (j : Nat) (u : Value), [Value.int .i64 op, .int .i64 n, .string (tx s)][j]? = some u → ((w13.drew.alloc (.cells #[.int .i64 op, .int .i64 n, .string (tx s)] 39)).alloc (.cells #[] 39)).cell? ((⟨w13.drew.heap.size, 0, none⟩ : Addr).add j) = some u from fun j u hj => ((Chg.refl NoB _).alloc _).keep (L2.out j u hj))
        have K2 := Lib.hid (show some w13.drew.heap.size ≠ some (w13.drew.heap.size + 1) by
          intro e
          have e' := Option.some.inj e
          omega)
        have K3 := Lib.hid (show some (w13.drew.heap.size + 1) ≠ some w13.drew.heap.size by
          intro e
          have e' := Option.some.inj e
          omega)
        have d0 := hdr.keep x0
        have d1 := hdr.keep x1
        have d2 := hdr.keep x2
        have e0 := hE.keep x0
        have e1 := hE.keep x1
        have e2 := hE.keep x2
        have Hna := Lib.hid (show (flatI (ps.take a)).length = a * 3 by rw [flatI_len, List.length_take, ← Hlen.out, Nat.min_eq_left hak])
        have Hnb := Lib.hid (show (flatI (ps.drop a)).length = (k - a) * 3 by rw [flatI_len, List.length_drop, ← Hlen.out])
        have M1 := Lib.hid (show 0 + a ≤ maxLen by unfold maxLen; omega)
        have M2 := Lib.hid (show (0 + a) * 32 ≤ 140737488355328 by omega)
        have M3 := Lib.hid (show 0 + a + 1 ≤ maxLen by unfold maxLen; omega)
        have M4 := Lib.hid (show (0 + a + 1) * 32 ≤ 140737488355328 by omega)
        have M5 := Lib.hid (show 0 + a + 1 + (k - a) ≤ maxLen by unfold maxLen; omega)
        have M6 := Lib.hid (show (0 + a + 1 + (k - a)) * 32 ≤ 140737488355328 by omega)
        clear hi hz0 hz1 hz2 Hb4 Hs2 Hs3 Hs4 Hal Hc2 Hc3 Hc4 Hc6 hst5 Hone Hc7 Hc8 Hb8 hE hX hEX hXE hdr hw5
        obtain ⟨mo, hmo⟩ : ∃ mo, mo = ps.take a ++ [⟨op, n, s⟩] ++ ps.drop a := ⟨_, rfl⟩
        obtain ⟨cm, hcm⟩ : ∃ cm : Int × Int, cm = checkF mo := ⟨_, rfl⟩
        have HA : Hid (((k = 0 ∨ cp.2 = 0) → cm.2 = ck.2 ∧ (ck.2 = 0 ∨ cm.1 = (a : Int))) ∧ (¬ (k = 0 ∨ cp.2 = 0) → cm.2 = 30)) := Lib.hid (by
          have h := alone_all (ps := ps) (x := ⟨op, n, s⟩) (a := a) G5.out Hall.out Hakl.out (by rw [← Hlen.out]; exact hk256)
          rw [← hmo, ← hcm, ← Hck.out, ← Hcp.out, ← Hlen.out] at h
          exact h)
        have Hcm := Lib.hid hcm
        have Hmw : Hid (∀ i (hi : i < mo.length), mo[i].wf) := Lib.hid (by
          have hall : ∀ y ∈ mo, y.wf := by
            intro y hy
            rw [hmo] at hy
            simp only [List.mem_append, List.mem_singleton] at hy
            have hps : ∀ y ∈ ps, y.wf := fun y hy => by
              obtain ⟨j, hj, rfl⟩ := List.getElem_of_mem hy
              exact (Hat.out j hj).1
            rcases hy with (hy | rfl) | hy
            · exact hps y (List.mem_of_mem_take hy)
            · exact Hx.out
            · exact hps y (List.mem_of_mem_drop hy)
          intro i hi
          exact hall _ (List.getElem_mem hi))
        have Hmb : Hid (mo.length ≤ 131072) := Lib.hid (by
          rw [hmo]
          simp only [List.length_append, List.length_take, List.length_drop, List.length_cons, List.length_nil]
          have := Hlen.out
          omega)
        have Hmo := Lib.hid hmo
        clear hmo hcm
        by_cases hps : ps = []
        · have hk0 : k = 0 := by rw [Hlen.out, hps]; rfl
          have ha0 : a = 0 := by omega
          have Hml : Hid (mo.length = 0 + 0 + 1 + 0) := Lib.hid (by rw [Hmo.out, hps]; simp)
          have Hmf : Hid (flatI mo = [] ++ flatI [] ++ [.int .i64 op, .int .i64 n, .string (tx s)] ++ flatI []) := Lib.hid (by rw [Hmo.out, hps]; simp [flatI])
          have N1 := Lib.hid (show 0 + 0 ≤ maxLen by decide)
          have N2 := Lib.hid (show (0 + 0) * 32 ≤ 140737488355328 by decide)
          have N3 := Lib.hid (show 0 + 0 + 1 ≤ maxLen by decide)
          have N4 := Lib.hid (show (0 + 0 + 1) * 32 ≤ 140737488355328 by decide)
          have N5 := Lib.hid (show 0 + 0 + 1 + 0 ≤ maxLen by decide)
          have N6 := Lib.hid (show (0 + 0 + 1 + 0) * 32 ≤ 140737488355328 by decide)
          subst hk0
          subst ha0
          have g0 := (Chg.refl NoB w13).alloc (.cells #[] 39)
          have k0 := g0.drew.keep x0
          have k1 := g0.drew.keep x1
          have k2 := g0.drew.keep x2
          clear hps g0
          cases q with
          | none =>
            have hc0 : c = 0 := Hzc.out rfl
            subst hc0
            go_region_law (first
              | (refine step_append_none (by rfl) _ (.tmp 72) (.tmp 75) 27 (by rfl) w13.heap.size 39 i0 3 Tryd.underlying27 Hi.out _ 0 [] (by rfl) (by first | exact O1.out | exact O2.out | exact O3.out) (by rfl) ?_)
              | (refine step_append_at (by rfl) _ (.tmp 76) (.tmp 78) 27 (by rfl) w13.heap.size 39 i0 (.agg #[.int .i64 0, .int .i64 0, .string ⟨#[]⟩]) 3 32 Tryd.underlying27 Hi.out Hz0.out Hz1.out Hz2.out rfl (by decide) _ 0 [] (by rfl) (by first | exact O2.out | exact O3.out) _ 1 1 [.int .i64 op, .int .i64 n, .string (tx s)] (by rfl) rfl (by first | exact L1.out | exact L3.out) (flatI_one [⟨op, n, s⟩]) N3.out N4.out (by first | exact HEX.out.size | exact HXE.out.size) ?_; intro v2 u2 ho2 hg2 _; have hc2 : Chg NoB w13 u2 := (by first | exact grow_chg HEX.out O2.out hg2 | exact grow_chg HXE.out O3.out hg2))
              | (refine step_append_none (by rfl) _ (.tmp 79) (.tmp 82) 27 (by rfl) w13.heap.size 39 i0 3 Tryd.underlying27 Hi.out v2 (0 + 1) ([] ++ [.int .i64 op, .int .i64 n, .string (tx s)]) (by rfl) ho2 (by rfl) ?_))
            all_goals
              clear hg2 k0 k1 k2
              try clear hq1
              have Hc3 := Lib.hid hc2
              have hrow : u2.ownsRow w13.heap.size 39 3 v2 mo.length (flatI mo) := by rw [Hmf.out, Hml.out]; simpa [flatI] using ho2
              obtain ⟨kb3, hs3⟩ := InsS.of_row hrow Hmw.out
              have Hck3 := Lib.hid (check_any mo _ _ kb3 0 W.heap.size u2 (Hev.out.wd.keep (Hc13.out.trans hc2)) (by have := Hmb.out; omega) hs3)
              rw [← Hcm.out] at Hck3
              clear hrow hs3 ho2 hc2 L1 L2 L3 K2 K3 O1 O2 O3 HE HX HEX HXE M1 M2 M3 M4 M5 M6 Hi Hz0 Hz1 Hz2
              go_wp2_with fail
              refine Hck3.out.mono ?_
              rintro e w15 ⟨rfl, hc15⟩
              have Hfin := Lib.hid (Hc13.out.trans (Hc3.out.trans hc15))
              clear hc15 Hck3
              have fin : cm.2 = ck.2 ∧ (ck.2 = 0 ∨ cm.1 = 0) := by simpa using HA.out
              have f1 : (cm.2 == ck.2) = true := by rw [beq_iff_eq]; exact fin.1
              have fin2 : (ck.2 == 0) = true ∨ ((ck.2 == 0) = false ∧ (cm.1 == 0) = true) := by
                have h := fin.2
                by_cases e : ck.2 = 0
                · exact .inl (by rw [beq_iff_eq]; exact e)
                · exact .inr ⟨by rw [beq_eq_false_iff_ne]; exact e, by rw [beq_iff_eq]; exact h.resolve_left e⟩
              clear fin
              rcases fin2 with f2 | ⟨f2, f3⟩
              all_goals
                go_wp2_with fail
                go_ret
                exact ⟨rfl, Hfin.out⟩
          | some ad =>
            by_cases hc0 : c = 0
            · subst hc0
              go_region_law (first
                | (refine step_append_at (by rfl) _ (.tmp 72) (.tmp 75) 27 (by rfl) w13.heap.size 39 i0 (.agg #[.int .i64 0, .int .i64 0, .string ⟨#[]⟩]) 3 32 Tryd.underlying27 Hi.out Hz0.out Hz1.out Hz2.out rfl (by decide) _ 0 [] (by rfl) (by first | exact O1.out | exact O2.out | exact O3.out) ad 0 _ (flatI []) (by rfl) rfl (fun j u h => absurd h (by simp [flatI])) (flatI_one _) N1.out N2.out (by first | exact HE.out.size | exact HEX.out.size | exact HXE.out.size) ?_; intro v1 u1 ho1 hg1 _; have hc1 : Chg NoB w13 u1 := (by first | exact grow_chg HE.out O1.out hg1 | exact grow_chg HEX.out O2.out hg1 | exact grow_chg HXE.out O3.out hg1); have k0 := hc1.keep x0; have k1 := hc1.keep x1; have k2 := hc1.keep x2; (first | (have hq1 := cells_grown (row := some w13.drew.heap.size) (w := (w13.drew.alloc (.cells #[] 39)).alloc (.cells #[.int .i64 op, .int .i64 n, .string (tx s)] 39)) hg1 K2.out L1.out) | (have hq1 := cells_grown (row := some (w13.drew.heap.size + 1)) (w := (w13.drew.alloc (.cells #[.int .i64 op, .int .i64 n, .string (tx s)] 39)).alloc (.cells #[] 39)) hg1 K3.out L3.out) | skip))
                | (refine step_append_at (by rfl) _ (.tmp 76) (.tmp 78) 27 (by rfl) w13.heap.size 39 i0 (.agg #[.int .i64 0, .int .i64 0, .string ⟨#[]⟩]) 3 32 Tryd.underlying27 Hi.out Hz0.out Hz1.out Hz2.out rfl (by decide) v1 (0 + 0) ([] ++ flatI []) (by rfl) (by first | exact ho1 | exact ownsRow_chg ho1 ((Chg.refl NoB u1).alloc _) fun _ _ => id) _ 1 1 [.int .i64 op, .int .i64 n, .string (tx s)] (by rfl) rfl (by first | exact lit3 u1 _ _ _ _ | exact hq1) (flatI_one [⟨op, n, s⟩]) N3.out N4.out (by first | exact hc1.size | exact (hc1.alloc _).size) ?_; intro v2 u2 ho2 hg2 _; have hc2 : Chg NoB w13 u2 := (by first | exact grow_chg hc1 ho1 hg2 | exact grow_chg (hc1.alloc _) ((ownsRow_chg ho1 ((Chg.refl NoB u1).alloc _) fun _ _ => id) : (u1.alloc (.cells #[.int .i64 op, .int .i64 n, .string (tx s)] 39)).ownsRow w13.heap.size 39 3 v1 (0 + 0) ([] ++ flatI [])) hg2))
                | (refine step_append_at (by rfl) _ (.tmp 79) (.tmp 82) 27 (by rfl) w13.heap.size 39 i0 (.agg #[.int .i64 0, .int .i64 0, .string ⟨#[]⟩]) 3 32 Tryd.underlying27 Hi.out Hz0.out Hz1.out Hz2.out rfl (by decide) v2 (0 + 0 + 1) ([] ++ flatI [] ++ [.int .i64 op, .int .i64 n, .string (tx s)]) (by rfl) ho2 _ 0 _ (flatI []) (by rfl) rfl (fun j u h => absurd h (by simp [flatI])) (flatI_one _) N5.out N6.out hc2.size ?_; intro v3 u3 ho3 hg3 _; have hc3 : Chg NoB w13 u3 := grow_chg hc2 ho2 hg3))
              all_goals
                clear hc1 ho1 hg1 hc2 ho2 hg2 hg3 k0 k1 k2
                try clear hq1
                have Hc3 := Lib.hid hc3
                have hrow : u3.ownsRow w13.heap.size 39 3 v3 mo.length (flatI mo) := by rw [Hmf.out, Hml.out]; exact ho3
                obtain ⟨kb3, hs3⟩ := InsS.of_row hrow Hmw.out
                have Hck3 := Lib.hid (check_any mo _ _ kb3 0 W.heap.size u3 (Hev.out.wd.keep (Hc13.out.trans hc3)) (by have := Hmb.out; omega) hs3)
                rw [← Hcm.out] at Hck3
                clear hrow hs3 ho3 hc3 L1 L2 L3 K2 K3 O1 O2 O3 HE HX HEX HXE M1 M2 M3 M4 M5 M6 Hi Hz0 Hz1 Hz2
                go_wp2_with fail
                refine Hck3.out.mono ?_
                rintro e w15 ⟨rfl, hc15⟩
                have Hfin := Lib.hid (Hc13.out.trans (Hc3.out.trans hc15))
                clear hc15 Hck3
                have fin : cm.2 = ck.2 ∧ (ck.2 = 0 ∨ cm.1 = 0) := by simpa using HA.out
                have f1 : (cm.2 == ck.2) = true := by rw [beq_iff_eq]; exact fin.1
                have fin2 : (ck.2 == 0) = true ∨ ((ck.2 == 0) = false ∧ (cm.1 == 0) = true) := by
                  have h := fin.2
                  by_cases e : ck.2 = 0
                  · exact .inl (by rw [beq_iff_eq]; exact e)
                  · exact .inr ⟨by rw [beq_eq_false_iff_ne]; exact e, by rw [beq_iff_eq]; exact h.resolve_left e⟩
                clear fin
                rcases fin2 with f2 | ⟨f2, f3⟩
                all_goals
                  go_wp2_with fail
                  go_ret
                  exact ⟨rfl, Hfin.out⟩
            · have hcp : 0 < c := by omega
              go_region_law (first
                | (refine step_append_at (by rfl) _ (.tmp 72) (.tmp 75) 27 (by rfl) w13.heap.size 39 i0 (.agg #[.int .i64 0, .int .i64 0, .string ⟨#[]⟩]) 3 32 Tryd.underlying27 Hi.out Hz0.out Hz1.out Hz2.out rfl (by decide) _ 0 [] (by rfl) (by first | exact O1.out | exact O2.out | exact O3.out) ad 0 _ (flatI []) (by rfl) rfl (fun j u h => absurd h (by simp [flatI])) (flatI_one _) N1.out N2.out (by first | exact HE.out.size | exact HEX.out.size | exact HXE.out.size) ?_; intro v1 u1 ho1 hg1 _; have hc1 : Chg NoB w13 u1 := (by first | exact grow_chg HE.out O1.out hg1 | exact grow_chg HEX.out O2.out hg1 | exact grow_chg HXE.out O3.out hg1); have k0 := hc1.keep x0; have k1 := hc1.keep x1; have k2 := hc1.keep x2; (first | (have hq1 := cells_grown (row := some w13.drew.heap.size) (w := (w13.drew.alloc (.cells #[] 39)).alloc (.cells #[.int .i64 op, .int .i64 n, .string (tx s)] 39)) hg1 K2.out L1.out) | (have hq1 := cells_grown (row := some (w13.drew.heap.size + 1)) (w := (w13.drew.alloc (.cells #[.int .i64 op, .int .i64 n, .string (tx s)] 39)).alloc (.cells #[] 39)) hg1 K3.out L3.out) | skip))
                | (refine step_append_at (by rfl) _ (.tmp 76) (.tmp 78) 27 (by rfl) w13.heap.size 39 i0 (.agg #[.int .i64 0, .int .i64 0, .string ⟨#[]⟩]) 3 32 Tryd.underlying27 Hi.out Hz0.out Hz1.out Hz2.out rfl (by decide) v1 (0 + 0) ([] ++ flatI []) (by rfl) (by first | exact ho1 | exact ownsRow_chg ho1 ((Chg.refl NoB u1).alloc _) fun _ _ => id) _ 1 1 [.int .i64 op, .int .i64 n, .string (tx s)] (by rfl) rfl (by first | exact lit3 u1 _ _ _ _ | exact hq1) (flatI_one [⟨op, n, s⟩]) N3.out N4.out (by first | exact hc1.size | exact (hc1.alloc _).size) ?_; intro v2 u2 ho2 hg2 _; have hc2 : Chg NoB w13 u2 := (by first | exact grow_chg hc1 ho1 hg2 | exact grow_chg (hc1.alloc _) ((ownsRow_chg ho1 ((Chg.refl NoB u1).alloc _) fun _ _ => id) : (u1.alloc (.cells #[.int .i64 op, .int .i64 n, .string (tx s)] 39)).ownsRow w13.heap.size 39 3 v1 (0 + 0) ([] ++ flatI [])) hg2))
                | (refine step_append_at (by rfl) _ (.tmp 79) (.tmp 82) 27 (by rfl) w13.heap.size 39 i0 (.agg #[.int .i64 0, .int .i64 0, .string ⟨#[]⟩]) 3 32 Tryd.underlying27 Hi.out Hz0.out Hz1.out Hz2.out rfl (by decide) v2 (0 + 0 + 1) ([] ++ flatI [] ++ [.int .i64 op, .int .i64 n, .string (tx s)]) (by rfl) ho2 _ 0 _ (flatI []) (by rfl) rfl (fun j u h => absurd h (by simp [flatI])) (flatI_one _) N5.out N6.out hc2.size ?_; intro v3 u3 ho3 hg3 _; have hc3 : Chg NoB w13 u3 := grow_chg hc2 ho2 hg3))
              all_goals
                clear hc1 ho1 hg1 hc2 ho2 hg2 hg3 k0 k1 k2
                try clear hq1
                have Hc3 := Lib.hid hc3
                have hrow : u3.ownsRow w13.heap.size 39 3 v3 mo.length (flatI mo) := by rw [Hmf.out, Hml.out]; exact ho3
                obtain ⟨kb3, hs3⟩ := InsS.of_row hrow Hmw.out
                have Hck3 := Lib.hid (check_any mo _ _ kb3 0 W.heap.size u3 (Hev.out.wd.keep (Hc13.out.trans hc3)) (by have := Hmb.out; omega) hs3)
                rw [← Hcm.out] at Hck3
                clear hrow hs3 ho3 hc3 L1 L2 L3 K2 K3 O1 O2 O3 HE HX HEX HXE M1 M2 M3 M4 M5 M6 Hi Hz0 Hz1 Hz2
                go_wp2_with fail
                refine Hck3.out.mono ?_
                rintro e w15 ⟨rfl, hc15⟩
                have Hfin := Lib.hid (Hc13.out.trans (Hc3.out.trans hc15))
                clear hc15 Hck3
                have fin : cm.2 = ck.2 ∧ (ck.2 = 0 ∨ cm.1 = 0) := by simpa using HA.out
                have f1 : (cm.2 == ck.2) = true := by rw [beq_iff_eq]; exact fin.1
                have fin2 : (ck.2 == 0) = true ∨ ((ck.2 == 0) = false ∧ (cm.1 == 0) = true) := by
                  have h := fin.2
                  by_cases e : ck.2 = 0
                  · exact .inl (by rw [beq_iff_eq]; exact e)
                  · exact .inr ⟨by rw [beq_eq_false_iff_ne]; exact e, by rw [beq_iff_eq]; exact h.resolve_left e⟩
                clear fin
                rcases fin2 with f2 | ⟨f2, f3⟩
                all_goals
                  go_wp2_with fail
                  go_ret
                  exact ⟨rfl, Hfin.out⟩
        · obtain ⟨rfl, -⟩ := H3.out hps
          have hac : a ≤ c := by omega
          have g0 := (Chg.refl NoB w13).alloc (.cells #[] 39)
          have k0 := g0.drew.keep x0
          have k1 := g0.drew.keep x1
          have k2 := g0.drew.keep x2
          clear hps g0
          by_cases hca : a = c
          · have hka : a = k := by omega
            have hdr0 : ps.drop a = [] := List.drop_eq_nil_of_le (by rw [← Hlen.out]; omega)
            have Hml : Hid (mo.length = 0 + a + 1 + 0) := Lib.hid (by rw [Hmo.out, hdr0]; simp only [List.length_append, List.length_take, List.length_cons, List.length_nil]; have := Hlen.out; omega)
            have Hmf : Hid (flatI mo = [] ++ flatI (ps.take a) ++ [.int .i64 op, .int .i64 n, .string (tx s)] ++ flatI []) := Lib.hid (by rw [Hmo.out, hdr0, flatI_app, flatI_app]; rfl)
            have N5 := Lib.hid (show 0 + a + 1 + 0 ≤ maxLen by unfold maxLen; omega)
            have N6 := Lib.hid (show (0 + a + 1 + 0) * 32 ≤ 140737488355328 by omega)
            clear hdr0
            subst hka
            subst hca
            go_region_law (first
              | (refine step_append_at (by rfl) _ (.tmp 72) (.tmp 75) 27 (by rfl) w13.heap.size 39 i0 (.agg #[.int .i64 0, .int .i64 0, .string ⟨#[]⟩]) 3 32 Tryd.underlying27 Hi.out Hz0.out Hz1.out Hz2.out rfl (by decide) _ 0 [] (by rfl) (by first | exact O1.out | exact O2.out | exact O3.out) ⟨kb, ko, none⟩ a _ (flatI (ps.take a)) (by rfl) Hna.out (by first | exact (Hs13.out.keep HE.out fun _ _ => id).news_take a Hakl.out | exact (Hs13.out.keep HEX.out fun _ _ => id).news_take a Hakl.out | exact (Hs13.out.keep HXE.out fun _ _ => id).news_take a Hakl.out) (flatI_one _) M1.out M2.out (by first | exact HE.out.size | exact HEX.out.size | exact HXE.out.size) ?_; intro v1 u1 ho1 hg1 _; have hc1 : Chg NoB w13 u1 := (by first | exact grow_chg HE.out O1.out hg1 | exact grow_chg HEX.out O2.out hg1 | exact grow_chg HXE.out O3.out hg1); have k0 := hc1.keep x0; have k1 := hc1.keep x1; have k2 := hc1.keep x2; (first | (have hq1 := cells_grown (row := some w13.drew.heap.size) (w := (w13.drew.alloc (.cells #[] 39)).alloc (.cells #[.int .i64 op, .int .i64 n, .string (tx s)] 39)) hg1 K2.out L1.out) | (have hq1 := cells_grown (row := some (w13.drew.heap.size + 1)) (w := (w13.drew.alloc (.cells #[.int .i64 op, .int .i64 n, .string (tx s)] 39)).alloc (.cells #[] 39)) hg1 K3.out L3.out) | skip))
              | (refine step_append_at (by rfl) _ (.tmp 76) (.tmp 78) 27 (by rfl) w13.heap.size 39 i0 (.agg #[.int .i64 0, .int .i64 0, .string ⟨#[]⟩]) 3 32 Tryd.underlying27 Hi.out Hz0.out Hz1.out Hz2.out rfl (by decide) v1 (0 + a) ([] ++ flatI (ps.take a)) (by rfl) (by first | exact ho1 | exact ownsRow_chg ho1 ((Chg.refl NoB u1).alloc _) fun _ _ => id) _ 1 1 [.int .i64 op, .int .i64 n, .string (tx s)] (by rfl) rfl (by first | exact lit3 u1 _ _ _ _ | exact hq1) (flatI_one [⟨op, n, s⟩]) M3.out M4.out (by first | exact hc1.size | exact (hc1.alloc _).size) ?_; intro v2 u2 ho2 hg2 _; have hc2 : Chg NoB w13 u2 := (by first | exact grow_chg hc1 ho1 hg2 | exact grow_chg (hc1.alloc _) ((ownsRow_chg ho1 ((Chg.refl NoB u1).alloc _) fun _ _ => id) : (u1.alloc (.cells #[.int .i64 op, .int .i64 n, .string (tx s)] 39)).ownsRow w13.heap.size 39 3 v1 (0 + a) ([] ++ flatI (ps.take a))) hg2))
              | (refine step_append_at (by rfl) _ (.tmp 79) (.tmp 82) 27 (by rfl) w13.heap.size 39 i0 (.agg #[.int .i64 0, .int .i64 0, .string ⟨#[]⟩]) 3 32 Tryd.underlying27 Hi.out Hz0.out Hz1.out Hz2.out rfl (by decide) v2 (0 + a + 1) ([] ++ flatI (ps.take a) ++ [.int .i64 op, .int .i64 n, .string (tx s)]) (by rfl) ho2 ⟨kb, ko, none⟩ 0 _ (flatI []) (by rfl) rfl (fun j u h => absurd h (by simp [flatI])) (flatI_one _) N5.out N6.out hc2.size ?_; intro v3 u3 ho3 hg3 _; have hc3 : Chg NoB w13 u3 := grow_chg hc2 ho2 hg3))
            all_goals
              clear hc1 ho1 hg1 hc2 ho2 hg2 hg3 k0 k1 k2
              try clear hq1
              have Hc3 := Lib.hid hc3
              have hrow : u3.ownsRow w13.heap.size 39 3 v3 mo.length (flatI mo) := by rw [Hmf.out, Hml.out]; exact ho3
              obtain ⟨kb3, hs3⟩ := InsS.of_row hrow Hmw.out
              have Hck3 := Lib.hid (check_any mo _ _ kb3 0 W.heap.size u3 (Hev.out.wd.keep (Hc13.out.trans hc3)) (by have := Hmb.out; omega) hs3)
              rw [← Hcm.out] at Hck3
              clear hrow hs3 ho3 hc3 L1 L2 L3 K2 K3 O1 O2 O3 HE HX HEX HXE M1 M2 M3 M4 M5 M6 Hi Hz0 Hz1 Hz2
              go_wp2_with fail
              refine Hck3.out.mono ?_
              rintro e w15 ⟨rfl, hc15⟩
              have Hfin := Lib.hid (Hc13.out.trans (Hc3.out.trans hc15))
              clear hc15 Hck3
              have fin := alone_fin HA.out
              rcases fin with ⟨f1, f2, f3⟩ | ⟨f1, f2, f3, f4⟩ | ⟨f0, f1, f2, f3⟩ | ⟨f0, f1, f2, f3, f4⟩ | ⟨f0, f1, f2⟩
              all_goals
                go_wp2_with fail
                go_ret
                exact ⟨rfl, Hfin.out⟩
          · have hca' : ¬ c = a := fun h => hca h.symm
            have Hml : Hid (mo.length = 0 + a + 1 + (k - a)) := Lib.hid (by rw [Hmo.out]; simp only [List.length_append, List.length_take, List.length_drop, List.length_cons, List.length_nil]; have := Hlen.out; omega)
            have Hmf : Hid (flatI mo = [] ++ flatI (ps.take a) ++ [.int .i64 op, .int .i64 n, .string (tx s)] ++ flatI (ps.drop a)) := Lib.hid (by rw [Hmo.out, flatI_app, flatI_app]; rfl)
            go_region_law (first
              | (refine step_append_at (by rfl) _ (.tmp 72) (.tmp 75) 27 (by rfl) w13.heap.size 39 i0 (.agg #[.int .i64 0, .int .i64 0, .string ⟨#[]⟩]) 3 32 Tryd.underlying27 Hi.out Hz0.out Hz1.out Hz2.out rfl (by decide) _ 0 [] (by rfl) (by first | exact O1.out | exact O2.out | exact O3.out) ⟨kb, ko, none⟩ a _ (flatI (ps.take a)) (by rfl) Hna.out (by first | exact (Hs13.out.keep HE.out fun _ _ => id).news_take a Hakl.out | exact (Hs13.out.keep HEX.out fun _ _ => id).news_take a Hakl.out | exact (Hs13.out.keep HXE.out fun _ _ => id).news_take a Hakl.out) (flatI_one _) M1.out M2.out (by first | exact HE.out.size | exact HEX.out.size | exact HXE.out.size) ?_; intro v1 u1 ho1 hg1 _; have hc1 : Chg NoB w13 u1 := (by first | exact grow_chg HE.out O1.out hg1 | exact grow_chg HEX.out O2.out hg1 | exact grow_chg HXE.out O3.out hg1); have k0 := hc1.keep x0; have k1 := hc1.keep x1; have k2 := hc1.keep x2; (first | (have hq1 := cells_grown (row := some w13.drew.heap.size) (w := (w13.drew.alloc (.cells #[] 39)).alloc (.cells #[.int .i64 op, .int .i64 n, .string (tx s)] 39)) hg1 K2.out L1.out) | (have hq1 := cells_grown (row := some (w13.drew.heap.size + 1)) (w := (w13.drew.alloc (.cells #[.int .i64 op, .int .i64 n, .string (tx s)] 39)).alloc (.cells #[] 39)) hg1 K3.out L3.out) | skip))
              | (refine step_append_at (by rfl) _ (.tmp 76) (.tmp 78) 27 (by rfl) w13.heap.size 39 i0 (.agg #[.int .i64 0, .int .i64 0, .string ⟨#[]⟩]) 3 32 Tryd.underlying27 Hi.out Hz0.out Hz1.out Hz2.out rfl (by decide) v1 (0 + a) ([] ++ flatI (ps.take a)) (by rfl) (by first | exact ho1 | exact ownsRow_chg ho1 ((Chg.refl NoB u1).alloc _) fun _ _ => id) _ 1 1 [.int .i64 op, .int .i64 n, .string (tx s)] (by rfl) rfl (by first | exact lit3 u1 _ _ _ _ | exact hq1) (flatI_one [⟨op, n, s⟩]) M3.out M4.out (by first | exact hc1.size | exact (hc1.alloc _).size) ?_; intro v2 u2 ho2 hg2 _; have hc2 : Chg NoB w13 u2 := (by first | exact grow_chg hc1 ho1 hg2 | exact grow_chg (hc1.alloc _) ((ownsRow_chg ho1 ((Chg.refl NoB u1).alloc _) fun _ _ => id) : (u1.alloc (.cells #[.int .i64 op, .int .i64 n, .string (tx s)] 39)).ownsRow w13.heap.size 39 3 v1 (0 + a) ([] ++ flatI (ps.take a))) hg2))
              | (refine step_append_at (by rfl) _ (.tmp 79) (.tmp 82) 27 (by rfl) w13.heap.size 39 i0 (.agg #[.int .i64 0, .int .i64 0, .string ⟨#[]⟩]) 3 32 Tryd.underlying27 Hi.out Hz0.out Hz1.out Hz2.out rfl (by decide) v2 (0 + a + 1) ([] ++ flatI (ps.take a) ++ [.int .i64 op, .int .i64 n, .string (tx s)]) (by rfl) ho2 ⟨kb, ko + a * 3, none⟩ (k - a) _ (flatI (ps.drop a)) (by rfl) Hnb.out ((Hs13.out.keep hc2 fun _ _ => id).news_drop a Hakl.out) (flatI_one _) M5.out M6.out hc2.size ?_; intro v3 u3 ho3 hg3 _; have hc3 : Chg NoB w13 u3 := grow_chg hc2 ho2 hg3))
            all_goals
              clear hc1 ho1 hg1 hc2 ho2 hg2 hg3 k0 k1 k2
              try clear hq1
              have Hc3 := Lib.hid hc3
              have hrow : u3.ownsRow w13.heap.size 39 3 v3 mo.length (flatI mo) := by rw [Hmf.out, Hml.out]; exact ho3
              obtain ⟨kb3, hs3⟩ := InsS.of_row hrow Hmw.out
              have Hck3 := Lib.hid (check_any mo _ _ kb3 0 W.heap.size u3 (Hev.out.wd.keep (Hc13.out.trans hc3)) (by have := Hmb.out; omega) hs3)
              rw [← Hcm.out] at Hck3
              clear hrow hs3 ho3 hc3 L1 L2 L3 K2 K3 O1 O2 O3 HE HX HEX HXE M1 M2 M3 M4 M5 M6 Hi Hz0 Hz1 Hz2
              go_wp2_with fail
              refine Hck3.out.mono ?_
              rintro e w15 ⟨rfl, hc15⟩
              have Hfin := Lib.hid (Hc13.out.trans (Hc3.out.trans hc15))
              clear hc15 Hck3
              have fin := alone_fin HA.out
              rcases fin with ⟨f1, f2, f3⟩ | ⟨f1, f2, f3, f4⟩ | ⟨f0, f1, f2, f3⟩ | ⟨f0, f1, f2, f3, f4⟩ | ⟨f0, f1, f2⟩
              all_goals
                go_wp2_with fail
                go_ret
                exact ⟨rfl, Hfin.out⟩
/-FRAME-/
set_option maxRecDepth 100000 in
theorem codeAlone_lifted (os : Os) (started : os.Started) (H : Type) (enc : TypeId × Value → H) :
    ReturnsInHanded {} Tryd.checked os 7 .any (fun w args => (Rows.codeAloneSpec.pre enc Tryd.prog Tryd.f7 [] false w args ∧ laidMetH Tryd.prog Rows.codeAloneRow.laid w) ∧ sizedMet enc Tryd.prog Tryd.f7 (OpenSpec.ofChange Rows.codeAloneSpec) false w args)
      (Rows.codeAloneSpec.post enc Tryd.prog Tryd.f7 false true false false) := by
  refine returns_both (C := Tryd.checked) (X := fun w _ => laidMetH Tryd.prog Rows.codeAloneRow.laid w) (fun _ _ _ hh h => h.of_heap hh) Tryd.own started (by kernel_rfl) Tryd.func7
    (ChangeSpec.witness_shaped (enc := enc) (C := Tryd.checked) (os := os) (X := fun w _ => laidMetH Tryd.prog Rows.codeAloneRow.laid w) false (World.laidAll Tryd.prog os Rows.codeAloneRow.laid) #[.agg #[.int .i64 0, .int .i64 0, .string ByteArray.empty], .slice none 0 0, .int .i64 0] 8 (World.laidAll_os _ _ _)
      (World.shaped_of_ZipB (by kernel_rfl) (by kernel_rfl)) (by kernel_rfl) (by kernel_rfl) (by kernel_rfl)
      (by rw [MakeChecks.laidMetH_plain _ _ _ (by kernel_rfl)]; exact laidMet_laidAll _ (by kernel_rfl) (by kernel_rfl))) ?_
  intro W base args ds gs before hval0 hW _ hsz hL hsh _
  have hval : ∀ (j : Nat) t v, Tryd.f7.params[j]? = some t → args[j]? = some v → Value.okWide Tryd.prog W .any base t v := hval0
  have hW' := hW
  obtain ⟨p, q, hA0, hV, rfl, _, _⟩ := hW
  have hA : DataW.TrodAll enc Tryd.prog W 0 (fun _ => true) true Tryd.f7.params.toList args.toList ds p := hA0
  have hsz1 : (DataW.weightsEach Tryd.prog (Tryd.f7.params.toList ++ Rows.codeAloneSpec.plain.varTypes Tryd.prog) (ds ++ gs)).all (· ≤ reachBytes) = true := hsz
  rw [Tryd.params7] at hA hval hsz1
  obtain ⟨v0, v1, v2, d0, d1, d2, p0, p1, p2, rfl, rfl, rfl, h0, h1, h2⟩ := trodAll_three hA
  obtain ⟨rfl, rfl⟩ := trodVars_none hV
  obtain ⟨n0, rfl, hn0⟩ := open_ins (hval 0 39 v0 rfl rfl) h0 (fun m hm => of_decide_eq_true (List.all_eq_true.1 hsz1 m (DataW.weights_mem_each (j := 0) (t := 39) (d := d0) rfl rfl m hm)))
  obtain ⟨ks1, kb1, ko1, hn1⟩ := open_inss (hval 1 27 v1 rfl rfl) h1 (fun m hm => of_decide_eq_true (List.all_eq_true.1 hsz1 m (DataW.weights_mem_each (j := 1) (t := 27) (d := d1) rfl rfl m hm)))
  obtain ⟨x2, rfl, rfl, rfl, wx2⟩ := open_int Tryd.underlying3 (hval 2 3 v2 rfl rfl) h2
  simp only [List.append_nil] at hW'
  rw [MakeChecks.laidMetH_plain _ _ _ (by kernel_rfl)] at hL
  have hL' : laidMet Tryd.prog [("math/bits.deBruijn32tab", Rows.laid_math_bits_deBruijn32tab), ("math/bits.deBruijn64tab", Rows.laid_math_bits_deBruijn64tab), ("internal/strconv.uint64pow10", Rows.laid_internal_strconv_uint64pow10), ("sapling/code.words", Rows.laid_sapling_code_words)] W := hL
  have hlb : Ev W.heap.size W := ev_of hL' (.tail _ (.tail _ (.head _))) (.tail _ (.tail _ (.tail _ (.head _))))
  clear hA0 hval0
  refine (codeAlone_all n0 ks1 _ kb1 ko1 x2 W hn0 hn1 (open_nil (hval 1 27 v1 rfl rfl) h1) wx2 hlb).mono fun e W' ⟨he, hb⟩ => ?_
  subst he
  exact ⟨_, rfl, _, _, _, [], _, [], hW', trodAll_mk1 (shut_bool Tryd.underlying4 _), (trodAll_cons_mk (ins_stays h0 hb.below) (trodAll_cons_mk (inss_stay h1 hb.below) (trodAll_cons_mk (shut_int Tryd.underlying3 wx2) trodAll_mk0))), rfl, hb.below.frame _, fun h => by cases h⟩
theorem codeAlone_holds : Rows.CodeAloneSaid :=
  OpenClaim.holds_of_wide 7 Tryd.f7 rfl rfl rfl rfl rfl rfl rfl ⟨rfl, rfl, rfl, rfl, rfl⟩ rfl rfl rfl rfl rfl (by kernel_rfl) Tryd.func7 (by kernel_rfl)
    (of_decide_eq_true (by kernel_rfl)) (by unfold Func.isWrapper; first | (rw [if_pos (by decide +kernel)]; kernel_rfl) | (rw [if_neg (by decide +kernel)]; exact ⟨rfl, rfl⟩))
    (fun os started H enc _ => codeAlone_lifted os started H enc)
theorem codeAlone_card : Rows.CodeAloneCardSaid :=
  Claim7.holds_tied_plain_at .later [] [.data, .data, .data, .widerDeep] true (true, "166fac47c3a1e9ae55e0ab713b98f5f77e3cfb8c98394ef8a9c8f24cf41118a9") true codeAlone_holds (fun _ h => by cases h) (by kernel_rfl) (fun _ h => by cases h) codeAlone_row_tie rfl ⟨rfl, rfl⟩ (by kernel_rfl) rfl
    (fun f fn hf hfn => by
      obtain rfl : f = 7 := Option.some.inj ((show Tryd.prog.funcNamed "sapling/saplinglaw08.CodeAlone" = some 7 by kernel_rfl).symm.trans hf) |>.symm
      obtain rfl : fn = Tryd.f7 := (Option.some.inj (Tryd.func7.symm.trans hfn)).symm
      exact ⟨by kernel_rfl, fun j t ht => by
        rw [Tryd.params7] at ht
        have hm : t ∈ [39, 27, 3] := by simpa using Array.mem_of_getElem? ht
        have hall : ([39, 27, 3].all fun u => !Tryd.prog.wantsStandIn u) = true := by kernel_rfl
        exact (show Tryd.prog.wantsStandIn t = false by simpa using List.all_eq_true.1 hall t hm)⟩)
    (by kernel_rfl)
#print axioms codeAlone_card
end Go.Proofs.YtdeikcmkfmnjmaaDoor

