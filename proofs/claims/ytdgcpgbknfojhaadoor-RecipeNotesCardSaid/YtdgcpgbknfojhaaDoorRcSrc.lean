/- The contracts of fieldKind and source. Conditions: the text is not too long; the keywords read as listed. -/
import Derived.Test.YtdgcpgbknfojhaaDoorRcTermA
import Derived.Test.YtdgcpgbknfojhaaDoorRcFld
import Derived.RegionDies

namespace Go.Proofs.YtdgcpgbknfojhaaDoor
set_option linter.unusedVariables false
open Go.ChangeShapes Go.WideShapes Go.ChangeAt Go.RowKit
def fwordL (k : Int) : List UInt8 := if k = 1 then kTool else if k = 2 then kBuild else if k = 3 then kRun else []
set_option maxHeartbeats 1000000 in
theorem fword_any (k : Int) (w : World) : Calls Tryd.prog 59 #[.int .i64 k] w (SayAt (.string (tx (fwordL k))) w) := by
  by_cases h1 : k = 1
  · subst h1
    go_enter Tryd.func59, Tryd.ntmps59
    go_wp2_with fail
    go_ret
    exact ⟨rfl, rfl⟩
  · have b1 : (k == 1) = false := by simp [h1]
    by_cases h2 : k = 2
    · subst h2
      go_enter Tryd.func59, Tryd.ntmps59
      go_wp2_with fail
      go_ret
      exact ⟨rfl, rfl⟩
    · have b2 : (k == 2) = false := by simp [h2]
      by_cases h3 : k = 3
      · subst h3
        go_enter Tryd.func59, Tryd.ntmps59
        go_wp2_with fail
        go_ret
        exact ⟨rfl, rfl⟩
      · have b3 : (k == 3) = false := by simp [h3]
        have Hf := Lib.hid (show fwordL k = [] by unfold fwordL; rw [if_neg h1, if_neg h2, if_neg h3])
        clear h1 h2 h3
        go_enter Tryd.func59, Tryd.ntmps59
        go_wp2_with fail
        go_ret
        exact ⟨by rw [Hf.out]; rfl, rfl⟩
def KindP (src : List UInt8) (st : RdL) (w : World) (e : Ending) (w' : World) : Prop := w = w' ∧ ((fieldK st ≠ 0 ∧ e = .returned (.int .i64 (fieldK st))) ∨ (fieldK st = 0 ∧ e = quitF ((src.length - st.rem : Nat) : Int) 50))
set_option maxHeartbeats 2000000 in
set_option maxRecDepth 20000 in
theorem fkind_any {w : World} {rb : Nat} {src : List UInt8} {st : RdL} (hr : RdM w rb src st) : Calls Tryd.prog 55 #[.pointer (some ⟨rb, 0, none⟩)] w (KindP src st w) := by
  have HI := Lib.hid (fun k => is_any hr 1 (fwordL k))
  have HW := Lib.hid (fun k => fword_any k w)
  have HF := Lib.hid (fail_any hr 50)
  have Hk := Lib.hid (show fieldK st = if st.is 1 kTool = true then 1 else if st.is 1 kBuild = true then 2 else if st.is 1 kRun = true then 3 else 0 from rfl)
  have Hw1 := Lib.hid (show fwordL 1 = kTool from rfl)
  have Hw2 := Lib.hid (show fwordL 2 = kBuild from rfl)
  have Hw3 := Lib.hid (show fwordL 3 = kRun from rfl)
  clear hr
  go_enter Tryd.func55, Tryd.ntmps55
  go_wp2_with fail
  go_loopw [3] (fun v wr => ∃ k : Nat, 1 ≤ k ∧ k ≤ 4 ∧ v = .int .i64 k ∧ (2 ≤ k → st.is 1 kTool = false) ∧ (3 ≤ k → st.is 1 kBuild = false) ∧ (4 ≤ k → st.is 1 kRun = false) ∧ w = wr) (fun v _ => 4 - (intOf v).toNat)
  case atStart => exact ⟨1, Nat.le_refl _, by decide, rfl, fun h => absurd h (by decide), fun h => absurd h (by decide), fun h => absurd h (by decide), rfl⟩
  case round =>
    obtain ⟨k, hk1, hk4, rfl, g1, g2, g3, rfl⟩ := hrel
    by_cases h3 : k ≤ 3
    · have HWk := Lib.hid (HW.out (k : Int))
      have HIk := Lib.hid (HI.out (k : Int))
      have h3b : decide ((k : Int) ≤ 3) = true := decide_eq_true (by omega)
      have Hg := Lib.hid (And.intro g1 (And.intro g2 g3))
      clear g1 g2 g3
      cases hi : st.is 1 (fwordL (k : Int)) with
      | true =>
        rw [hi] at HIk
        have Hres := Lib.hid (show fieldK st = (k : Int) ∧ fieldK st ≠ 0 by
          obtain ⟨g1, g2, g3⟩ := Hg.out
          have hkk : k = 1 ∨ k = 2 ∨ k = 3 := by omega
          rcases hkk with rfl | rfl | rfl
          · rw [show ((1 : Nat) : Int) = 1 from rfl, Hw1.out] at hi
            rw [Hk.out, if_pos hi]
            exact ⟨rfl, by decide⟩
          · rw [show ((2 : Nat) : Int) = 2 from rfl, Hw2.out] at hi
            rw [Hk.out, if_neg (by rw [g1 (by omega)]; decide), if_pos hi]
            exact ⟨rfl, by decide⟩
          · rw [show ((3 : Nat) : Int) = 3 from rfl, Hw3.out] at hi
            rw [Hk.out, if_neg (by rw [g1 (by omega)]; decide), if_neg (by rw [g2 (by omega)]; decide), if_pos hi]
            exact ⟨rfl, by decide⟩)
        clear hi
        go_wp2_with fail
        refine HWk.out.mono ?_
        rintro e w2 ⟨rfl, rfl⟩
        go_wp2_with fail
        refine HIk.out.mono ?_
        rintro e w3 ⟨rfl, rfl⟩
        go_wp2_with fail
        go_ret
        exact ⟨rfl, .inl ⟨Hres.out.2, by rw [Hres.out.1]; rfl⟩⟩
      | false =>
        rw [hi] at HIk
        have Hg2 := Lib.hid (show (2 ≤ k + 1 → st.is 1 kTool = false) ∧ (3 ≤ k + 1 → st.is 1 kBuild = false) ∧ (4 ≤ k + 1 → st.is 1 kRun = false) by
          obtain ⟨g1, g2, g3⟩ := Hg.out
          have hkk : k = 1 ∨ k = 2 ∨ k = 3 := by omega
          rcases hkk with rfl | rfl | rfl
          · rw [show ((1 : Nat) : Int) = 1 from rfl, Hw1.out] at hi
            exact ⟨fun _ => hi, fun h => by omega, fun h => by omega⟩
          · rw [show ((2 : Nat) : Int) = 2 from rfl, Hw2.out] at hi
            exact ⟨fun _ => g1 (by omega), fun h => hi, fun h => by omega⟩
          · rw [show ((3 : Nat) : Int) = 3 from rfl, Hw3.out] at hi
            exact ⟨fun _ => g1 (by omega), fun h => g2 (by omega), fun h => hi⟩)
        clear hi
        go_wp2_with fail
        refine HWk.out.mono ?_
        rintro e w2 ⟨rfl, rfl⟩
        go_wp2_with fail
        refine HIk.out.mono ?_
        rintro e w3 ⟨rfl, rfl⟩
        go_wp2_with fail
        go_roundw
        case rel => exact ⟨k + 1, by omega, by omega, by go_num, Hg2.out.1, Hg2.out.2.1, Hg2.out.2.2, by simp⟩
        case measure => simp [intOf]; omega
    · obtain rfl : k = 4 := by omega
      have Hres := Lib.hid (show fieldK st = 0 by rw [Hk.out, if_neg (by rw [g1 (by omega)]; decide), if_neg (by rw [g2 (by omega)]; decide), if_neg (by rw [g3 (by omega)]; decide)])
      clear g1 g2 g3
      go_wp2_with fail
      refine HF.out.mono ?_
      rintro e w3 ⟨rfl, rfl⟩
      unfold quitF
      go_wp2_with fail
      exact ⟨rfl, rfl, .inr ⟨Hres.out, rfl⟩⟩
/- the recipe under way: its variable at block ob, what it holds at blocks lo and above -/
def OutF (w : World) (lo ob : Nat) (a b : ExL) (fs : List FldL) (f : Value) : Prop := ∃ d h kb ko kb2 ko2, w.heap[ob]? = some (.cells #[.int .i64 a.kind, .string (tx a.s), d, .int .i64 b.kind, .string (tx b.s), h, f] 29 (0, 0)) ∧ (a.s.length ≤ maxLen ∧ ExS w (EbS lo f w) d a.kids kb ko) ∧ (b.s.length ≤ maxLen ∧ ExS w (EbS lo f w) h b.kids kb2 ko2) ∧ Fb w lo f fs
theorem OutF.chg {S : Nat → Prop} {w w' : World} {lo ob : Nat} {a b : ExL} {fs : List FldL} {f : Value} (h : OutF w lo ob a b fs f) (hc : Chg S w w') (hS : ∀ k, lo ≤ k → k < w.heap.size → ¬ S k) (hb : ¬ S ob) : OutF w' lo ob a b fs f := by
  obtain ⟨d, h, kb, ko, kb2, ko2, h1, ⟨h2, h3⟩, ⟨h4, h5⟩, h6⟩ := h
  exact ⟨d, h, kb, ko, kb2, ko2, row_kept hc h1 hb, ⟨h2, (h3.keep hc fun k hk => hS k hk.1.1 hk.1.2).mono fun k hk => ⟨⟨hk.1.1, Nat.lt_of_lt_of_le hk.1.2 hc.size⟩, hk.2⟩⟩, ⟨h4, (h5.keep hc fun k hk => hS k hk.1.1 hk.1.2).mono fun k hk => ⟨⟨hk.1.1, Nat.lt_of_lt_of_le hk.1.2 hc.size⟩, hk.2⟩⟩, h6.keep hc fun k h1 h2 => hS k h2 h1⟩
theorem OutF.lt {w : World} {lo ob : Nat} {a b : ExL} {fs : List FldL} {f : Value} (h : OutF w lo ob a b fs f) : ob < w.heap.size := by
  obtain ⟨d, h, kb, ko, kb2, ko2, h1, _⟩ := h
  exact lt_of_block h1
theorem OutF.fb {w : World} {lo ob : Nat} {a b : ExL} {fs : List FldL} {f : Value} (h : OutF w lo ob a b fs f) : Fb w lo f fs := by
  obtain ⟨d, h, kb, ko, kb2, ko2, h1, h2, h3, h4⟩ := h
  exact h4
theorem ebs_none {lo : Nat} {w : World} {k : Nat} (h : lo ≤ k ∧ k < w.heap.size) : EbS lo (.slice none 0 0) w k := ⟨h, fun e => by cases e⟩
/- one field more: behind the append, ahead of the store -/
theorem OutF.grow {w w2 w' : World} {lo N ob : Nat} {a b : ExL} {fs : List FldL} {fv v' d1 d2 : Value} {f : FldL} {d h : Value} {kb ko kb2 ko2 k1 k2 k3 k4 : Nat} {xs : List Value} (hrow : w.heap[ob]? = some (.cells #[.int .i64 a.kind, .string (tx a.s), d, .int .i64 b.kind, .string (tx b.s), h, fv] 29 (0, 0))) (ha : a.s.length ≤ maxLen ∧ ExS w (EbS lo fv w) d a.kids kb ko) (hb : b.s.length ≤ maxLen ∧ ExS w (EbS lo fv w) h b.kids kb2 ko2) (hob : ob < lo)
    (hN : ∀ k, fv.ownBlock = some k → k < N) (hfl : ∀ k, fv.ownBlock = some k → lo ≤ k) (hl : lo ≤ N) (hlw : N ≤ w.heap.size) (hr : FdR w (EbS lo fv w) fs xs)
    (g1 : f.name.s.length ≤ maxLen) (g2 : f.range.s.length ≤ maxLen) (hd : ExS w (fun x => N ≤ x ∧ x < w.heap.size) d1 f.name.kids k1 k2) (hh : ExS w (fun x => N ≤ x ∧ x < w.heap.size) d2 f.range.kids k3 k4) (hc2 : Chg NoB w w2)
    (hown : w'.ownsRow lo 47 7 v' (fs.length + 1) (xs ++ [.int .i64 f.kind, .int .i64 f.name.kind, .string (tx f.name.s), d1, .int .i64 f.range.kind, .string (tx f.range.s), d2])) (hg : w2.grownBy w' fv.ownBlock) (hp : v'.ownBlock = fv.ownBlock ∨ v'.ownBlock = some w2.heap.size) :
    w'.heap[ob]? = some (.cells #[.int .i64 a.kind, .string (tx a.s), d, .int .i64 b.kind, .string (tx b.s), h, fv] 29 (0, 0)) ∧ Chg (fun k => fv.ownBlock = some k) w2 w' ∧ OutF (w'.setCell ⟨ob, 6, none⟩ v') lo ob a b (fs ++ [f]) v' := by
  have hgc : Chg (fun k => fv.ownBlock = some k) w2 w' := (Chg.refl _ w2).grown hg fun k hk => .inl hk
  have hfb := Fb.push hN hl hlw hr g1 g2 hd hh hc2 hown hg hp
  have hrow2 := row_kept hgc (row_kept hc2 hrow id) (fun e => by have := hfl ob e; omega)
  have hcs := (Chg.refl (fun k => k = ob) w').setCell (p := ⟨ob, 6, none⟩) (.inl rfl) v'
  have z2 := hc2.size
  have z3 := hgc.size
  have z4 := hcs.size
  have key : ∀ {u : Value} {ks : List ExL} {p q : Nat}, ExS w (EbS lo fv w) u ks p q → ExS (w'.setCell ⟨ob, 6, none⟩ v') (EbS lo v' (w'.setCell ⟨ob, 6, none⟩ v')) u ks p q := fun hs =>
    (((hs.keep hc2 fun _ _ => id).keep hgc fun k hk e => hk.2 e).keep hcs fun k hk e => by have := hk.1.1; omega).mono fun k hk => ⟨⟨hk.1.1, by have := hk.1.2; omega⟩, fun e => by
      rcases hp with hp | hp
      · rw [hp] at e; exact hk.2 e
      · rw [hp] at e; simp only [Option.some.injEq] at e; have := hk.1.2; omega⟩
  exact ⟨hrow2, hgc, ⟨d, h, kb, ko, kb2, ko2, heap_set hrow2 (i := 6) v', ⟨ha.1, key ha.2⟩, ⟨hb.1, key hb.2⟩, hfb.keep hcs fun k _ h2 e => by omega⟩⟩
theorem var7 {w : World} {b : Nat} {x0 x1 x2 x3 x4 x5 x6 : Value} {t : TypeId} (h : w.heap[b]? = some (.cells #[x0, x1, x2, x3, x4, x5, x6] t (0, 0))) :
    w.cell? ⟨b, 0, none⟩ = some x0 ∧ w.cell? ⟨b, 1, none⟩ = some x1 ∧ w.cell? ⟨b, 2, none⟩ = some x2 ∧ w.cell? ⟨b, 3, none⟩ = some x3 ∧ w.cell? ⟨b, 4, none⟩ = some x4 ∧ w.cell? ⟨b, 5, none⟩ = some x5 ∧ w.cell? ⟨b, 6, none⟩ = some x6 := by
  refine ⟨?_, ?_, ?_, ?_, ?_, ?_, ?_⟩ <;> rw [cell_of_row w b _ _ t (0, 0) h] <;> rfl
theorem OutF.setA {w : World} {lo ob : Nat} {a b x : ExL} {fs : List FldL} {u : Value} {kb ko : Nat} (h : OutF w lo ob a b fs (.slice none 0 0)) (hob : ob < lo) (hx : x.s.length ≤ maxLen) (hs : ExS w (fun k => lo ≤ k ∧ k < w.heap.size) u x.kids kb ko) :
    OutF (((w.setCell ⟨ob, 0, none⟩ (.int .i64 x.kind)).setCell ⟨ob, 1, none⟩ (.string (tx x.s))).setCell ⟨ob, 2, none⟩ u) lo ob x b fs (.slice none 0 0) ∧ Chg (fun k => k = ob) w (((w.setCell ⟨ob, 0, none⟩ (.int .i64 x.kind)).setCell ⟨ob, 1, none⟩ (.string (tx x.s))).setCell ⟨ob, 2, none⟩ u) := by
  obtain ⟨d, h, kb1, ko1, kb2, ko2, h1, ⟨h2, h3⟩, ⟨h4, h5⟩, h6⟩ := h
  have hc := (((Chg.refl (fun k => k = ob) w).setCell (p := ⟨ob, 0, none⟩) (.inl rfl) (.int .i64 x.kind)).setCell (p := ⟨ob, 1, none⟩) (.inl rfl) (.string (tx x.s))).setCell (p := ⟨ob, 2, none⟩) (.inl rfl) u
  have hr := heap_set (heap_set (heap_set h1 (i := 0) (.int .i64 x.kind)) (i := 1) (.string (tx x.s))) (i := 2) u
  refine ⟨⟨u, h, kb, ko, kb2, ko2, hr, ⟨hx, (hs.keep hc fun k hk e => by omega).mono fun k hk => ebs_none ⟨hk.1, Nat.lt_of_lt_of_le hk.2 hc.size⟩⟩, ⟨h4, (h5.keep hc fun k hk e => by have := hk.1.1; omega).mono fun k hk => ebs_none ⟨hk.1.1, Nat.lt_of_lt_of_le hk.1.2 hc.size⟩⟩, h6.keep hc fun k _ h2 e => by omega⟩, hc⟩
theorem OutF.setB {w : World} {lo ob : Nat} {a b x : ExL} {fs : List FldL} {u : Value} {kb ko : Nat} (h : OutF w lo ob a b fs (.slice none 0 0)) (hob : ob < lo) (hx : x.s.length ≤ maxLen) (hs : ExS w (fun k => lo ≤ k ∧ k < w.heap.size) u x.kids kb ko) :
    OutF (((w.setCell ⟨ob, 3, none⟩ (.int .i64 x.kind)).setCell ⟨ob, 4, none⟩ (.string (tx x.s))).setCell ⟨ob, 5, none⟩ u) lo ob a x fs (.slice none 0 0) ∧ Chg (fun k => k = ob) w (((w.setCell ⟨ob, 3, none⟩ (.int .i64 x.kind)).setCell ⟨ob, 4, none⟩ (.string (tx x.s))).setCell ⟨ob, 5, none⟩ u) := by
  obtain ⟨d, h, kb1, ko1, kb2, ko2, h1, ⟨h2, h3⟩, ⟨h4, h5⟩, h6⟩ := h
  have hc := (((Chg.refl (fun k => k = ob) w).setCell (p := ⟨ob, 3, none⟩) (.inl rfl) (.int .i64 x.kind)).setCell (p := ⟨ob, 4, none⟩) (.inl rfl) (.string (tx x.s))).setCell (p := ⟨ob, 5, none⟩) (.inl rfl) u
  have hr := heap_set (heap_set (heap_set h1 (i := 3) (.int .i64 x.kind)) (i := 4) (.string (tx x.s))) (i := 5) u
  refine ⟨⟨d, u, kb1, ko1, kb, ko, hr, ⟨h2, (h3.keep hc fun k hk e => by have := hk.1.1; omega).mono fun k hk => ebs_none ⟨hk.1.1, Nat.lt_of_lt_of_le hk.1.2 hc.size⟩⟩, ⟨hx, (hs.keep hc fun k hk e => by omega).mono fun k hk => ebs_none ⟨hk.1, Nat.lt_of_lt_of_le hk.2 hc.size⟩⟩, h6.keep hc fun k _ h2 e => by omega⟩, hc⟩
theorem lit7 (w : World) (a b c d e f g : Value) (t : TypeId) : ∀ (j : Nat) (u : Value), [a, b, c, d, e, f, g][j]? = some u → (w.alloc (.cells #[a, b, c, d, e, f, g] t)).cell? ((⟨w.heap.size, 0, none⟩ : Addr).add j) = some u := by
  intro j u hj
  rw [add_zero_off, cell_of_row _ w.heap.size j _ t (0, 0) (heap_alloc_new w _), ← hj]
  simp
theorem set7 {w : World} {b : Nat} {x0 x1 x2 x3 x4 x5 x6 : Value} {t : TypeId} (h : w.heap[b]? = some (.cells #[x0, x1, x2, x3, x4, x5, x6] t (0, 0))) (y0 y1 y2 y3 y4 y5 y6 : Value) :
    (((((((w.setCell ⟨b, 0, none⟩ y0).setCell ⟨b, 1, none⟩ y1).setCell ⟨b, 2, none⟩ y2).setCell ⟨b, 3, none⟩ y3).setCell ⟨b, 4, none⟩ y4).setCell ⟨b, 5, none⟩ y5).setCell ⟨b, 6, none⟩ y6).heap[b]? = some (.cells #[y0, y1, y2, y3, y4, y5, y6] t (0, 0)) ∧
    Chg (fun k => k = b) w (((((((w.setCell ⟨b, 0, none⟩ y0).setCell ⟨b, 1, none⟩ y1).setCell ⟨b, 2, none⟩ y2).setCell ⟨b, 3, none⟩ y3).setCell ⟨b, 4, none⟩ y4).setCell ⟨b, 5, none⟩ y5).setCell ⟨b, 6, none⟩ y6) := by
  have h0 : (w.setCell ⟨b, 0, none⟩ y0).heap[b]? = some (.cells #[y0, x1, x2, x3, x4, x5, x6] t (0, 0)) := heap_set h (i := 0) y0
  have c0 := (Chg.refl (fun k => k = b) w).setCell (p := ⟨b, 0, none⟩) (.inl rfl) y0
  generalize w.setCell ⟨b, 0, none⟩ y0 = w0 at *
  have h1 : (w0.setCell ⟨b, 1, none⟩ y1).heap[b]? = some (.cells #[y0, y1, x2, x3, x4, x5, x6] t (0, 0)) := heap_set h0 (i := 1) y1
  have c1 := c0.setCell (p := ⟨b, 1, none⟩) (.inl rfl) y1
  generalize w0.setCell ⟨b, 1, none⟩ y1 = w1 at *
  have h2 : (w1.setCell ⟨b, 2, none⟩ y2).heap[b]? = some (.cells #[y0, y1, y2, x3, x4, x5, x6] t (0, 0)) := heap_set h1 (i := 2) y2
  have c2 := c1.setCell (p := ⟨b, 2, none⟩) (.inl rfl) y2
  generalize w1.setCell ⟨b, 2, none⟩ y2 = w2 at *
  have h3 : (w2.setCell ⟨b, 3, none⟩ y3).heap[b]? = some (.cells #[y0, y1, y2, y3, x4, x5, x6] t (0, 0)) := heap_set h2 (i := 3) y3
  have c3 := c2.setCell (p := ⟨b, 3, none⟩) (.inl rfl) y3
  generalize w2.setCell ⟨b, 3, none⟩ y3 = w3 at *
  have h4 : (w3.setCell ⟨b, 4, none⟩ y4).heap[b]? = some (.cells #[y0, y1, y2, y3, y4, x5, x6] t (0, 0)) := heap_set h3 (i := 4) y4
  have c4 := c3.setCell (p := ⟨b, 4, none⟩) (.inl rfl) y4
  generalize w3.setCell ⟨b, 4, none⟩ y4 = w4 at *
  have h5 : (w4.setCell ⟨b, 5, none⟩ y5).heap[b]? = some (.cells #[y0, y1, y2, y3, y4, y5, x6] t (0, 0)) := heap_set h4 (i := 5) y5
  have c5 := c4.setCell (p := ⟨b, 5, none⟩) (.inl rfl) y5
  generalize w4.setCell ⟨b, 5, none⟩ y5 = w5 at *
  exact ⟨heap_set h5 (i := 6) y6, c5.setCell (p := ⟨b, 6, none⟩) (.inl rfl) y6⟩
def SourceP (rb : Nat) (src : List UInt8) (o : Except FaultL RcpL) (w : World) (e : Ending) (w' : World) : Prop := Chg (fun k => k = rb) w w' ∧ match o with
  | .ok r => ∃ v, e = .returned v ∧ SrcV w' (fun k => w.heap.size ≤ k ∧ k < w'.heap.size) v r
  | .error x => e = quitF ((src.length - x.1 : Nat) : Int) x.2
/- one of the two words at the beginning -/
/- an expression into the recipe's variable; the store's world is named ahead of the next region -/
set_option maxHeartbeats 8000000 in
set_option maxRecDepth 20000 in
theorem source_any {w : World} {base rb : Nat} {src : List UInt8} {st0 : RdL} (hr : RdM w rb src st0) (hk : Kw base w) (hl : src.length ≤ 8192) (hrb : base ≤ rb) : Calls Tryd.prog 28 #[.pointer (some ⟨rb, 0, none⟩)] w (SourceP rb src (sourceF st0) w) := by
  have Hrb := Lib.hid hr.lt
  have Hkw := Lib.hid (fun w' (h : Chg (fun k => k = rb) w w') => hk.chg h fun k e => by omega)
  have hal_ := (Chg.refl NoB w).alloc (.cells #[.int .i64 0, .string ⟨#[]⟩, .slice none 0 0, .int .i64 0, .string ⟨#[]⟩, .slice none 0 0, .slice none 0 0] 29)
  have hb_ := heap_alloc_new w (.cells #[.int .i64 0, .string ⟨#[]⟩, .slice none 0 0, .int .i64 0, .string ⟨#[]⟩, .slice none 0 0, .slice none 0 0] 29)
  obtain ⟨b2, hxb_⟩ : ∃ b, b = w.heap.size := ⟨_, rfl⟩
  obtain ⟨wa, hw_⟩ : ∃ w_, w.alloc (.cells #[.int .i64 0, .string ⟨#[]⟩, .slice none 0 0, .int .i64 0, .string ⟨#[]⟩, .slice none 0 0, .slice none 0 0] 29) = w_ := ⟨_, rfl⟩
  have hz_ : wa.heap.size = b2 + 1 := by rw [← hw_, hxb_]; exact alloc_size _ _
  rw [hw_] at hal_ hb_
  rw [← hxb_] at hb_
  have Hw2 := Lib.hid hw_
  have Hx2 := Lib.hid hxb_
  have Ha2 := Lib.hid hal_
  have Hb2 := Lib.hid hb_
  have Hz2 := Lib.hid hz_
  clear hal_ hb_ hxb_ hw_ hz_
  have hal_ := (Chg.refl NoB wa).alloc (.cells #[.int .i64 0, .string ⟨#[]⟩, .slice none 0 0, .int .i64 0, .string ⟨#[]⟩, .slice none 0 0, .slice none 0 0] 29)
  have hb_ := heap_alloc_new wa (.cells #[.int .i64 0, .string ⟨#[]⟩, .slice none 0 0, .int .i64 0, .string ⟨#[]⟩, .slice none 0 0, .slice none 0 0] 29)
  obtain ⟨b3, hxb_⟩ : ∃ b, b = wa.heap.size := ⟨_, rfl⟩
  obtain ⟨w1, hw_⟩ : ∃ w_, wa.alloc (.cells #[.int .i64 0, .string ⟨#[]⟩, .slice none 0 0, .int .i64 0, .string ⟨#[]⟩, .slice none 0 0, .slice none 0 0] 29) = w_ := ⟨_, rfl⟩
  have hz_ : w1.heap.size = b3 + 1 := by rw [← hw_, hxb_]; exact alloc_size _ _
  rw [hw_] at hal_ hb_
  rw [← hxb_] at hb_
  have Hw3 := Lib.hid hw_
  have Hx3 := Lib.hid hxb_
  have Ha3 := Lib.hid hal_
  have Hb3 := Lib.hid hb_
  have Hz3 := Lib.hid hz_
  clear hal_ hb_ hxb_ hw_ hz_
  have Hr := Lib.hid ((hr.keep Ha2.out).keep Ha3.out)
  have Hk := Lib.hid ((hk.keep Ha2.out).keep Ha3.out)
  have Hc := Lib.hid ((Ha2.out.trans Ha3.out).mono fun _ _ h => h.elim : Chg (fun k => k = rb) w w1)
  have HB2 := Lib.hid (row_kept Ha3.out Hb2.out id)
  have HO := Lib.hid (show OutF w1 (b3 + 1) b3 (.mk 0 [] []) (.mk 0 [] []) [] (.slice none 0 0) from ⟨_, _, 0, 0, 0, 0, Hb3.out, ⟨Nat.zero_le _, ExS.nil _ _⟩, ⟨Nat.zero_le _, ExS.nil _ _⟩, Fb.nil _ _ (by rw [Hz3.out]; exact Nat.le_refl _)⟩)
  have Hne := Lib.hid (show b2 ≠ rb ∧ b3 ≠ rb ∧ rb < b3 ∧ b2 < b3 ∧ w.heap.size ≤ b2 from by have := Hx2.out; have := Hx3.out; have := Hz2.out; have := Hrb.out; omega)
  have Hdef := Lib.hid (show sourceF st0 = match mustF 1 kPackage st0 with
    | .error e => .error e
    | .ok s1 => match exprF 32 s1 with
      | .error e => .error e
      | .ok (a, s2) => match mustF 1 kVersion s2 with
        | .error e => .error e
        | .ok s3 => match exprF 32 s3 with
          | .error e => .error e
          | .ok (b, s4) => match fieldsF (s4.rest.length + 2) [] s4 with
            | .error e => .error e
            | .ok (fs, _) => .ok ⟨a, b, fs⟩ from rfl)
  clear hr hk
  generalize sourceF st0 = R at *
  go_enter Tryd.func28, Tryd.ntmps28
  go_upto_region 1 with fail
  rw [Hw2.out, ← Hx2.out]
  go_upto_region 2 with fail
  rw [Hw3.out, ← Hx3.out]
  have HT := Lib.hid (must_any base Hr.out hl Hk.out hrb 1 kPackage)
  clear Hr Hk
  skip
  go_wp2_with fail
  refine HT.out.mono ?_
  rintro e w2 ⟨hc, h2⟩
  clear HT
  have Hcq := Lib.hid (Hc.out.trans hc)
  cases ht1 : mustF 1 kPackage st0 with
  | error z =>
    rw [ht1] at h2 Hdef
    obtain rfl : e = quitF ((src.length - z.1 : Nat) : Int) z.2 := h2
    clear hc
    unfold quitF
    go_wp2_with fail
    refine ⟨rfl, Hcq.out, ?_⟩
    rw [Hdef.out]
    rfl
  | ok s1 =>
    rw [ht1] at h2 Hdef
    simp only at Hdef
    obtain ⟨rfl, hr2⟩ := h2
    have Hr := Lib.hid hr2
    have Hk := Lib.hid (show Kw base w2 from Hkw.out _ Hcq.out)
    replace HB2 := Lib.hid (row_kept hc HB2.out Hne.out.1)
    replace HO := Lib.hid (HO.out.chg hc (fun k h1 h2 e => by have := Hne.out; omega) Hne.out.2.1)
    replace Hc := Lib.hid Hcq.out
    clear hc hr2 Hcq ht1
    have HT := Lib.hid (expr_any Hr.out Hk.out hl hrb)
    clear Hr Hk
    go_wp2_with fail
    refine HT.out.mono ?_
    rintro e w3 ⟨hc, h2⟩
    clear HT
    have Hcq := Lib.hid (Hc.out.trans hc)
    cases ht1 : exprF 32 s1 with
    | error z =>
      rw [ht1] at h2 Hdef
      obtain rfl : e = quitF ((src.length - z.1 : Nat) : Int) z.2 := h2
      clear hc
      unfold quitF
      go_wp2_with fail
      refine ⟨rfl, Hcq.out, ?_⟩
      rw [Hdef.out]
      rfl
    | ok p =>
      obtain ⟨xa, s2⟩ := p
      rw [ht1] at h2 Hdef
      simp only at Hdef
      obtain ⟨hr2, v, rfl, hv⟩ := h2
      obtain ⟨q, nk, c, kb, ko, rfl, hxl, hxs⟩ := hv.shape
      have hlw : b3 + 1 ≤ w2.heap.size := HO.out.lt
      have ho1 := HO.out.chg hc (fun k h1 h2 e => by have := Hne.out; omega) Hne.out.2.1
      have hb2 := row_kept hc HB2.out Hne.out.1
      obtain ⟨ho2, hcs⟩ := ho1.setA (Nat.lt_succ_self _) hxl (hxs.mono fun k hk => ⟨Nat.le_trans hlw hk.1, hk.2⟩)
      obtain ⟨d', h', _, _, _, _, hrow, -⟩ := ho1
      have fr := row_free hrow
      obtain ⟨u0, u1, u2, u3, u4, u5, u6⟩ := var7 hrow
      have Ho := Lib.hid ho2
      have Hcs := Lib.hid (Hcq.out.wide hcs fun k hk e => by have := Hne.out; omega)
      have Hrs := Lib.hid (hr2.chg hcs fun e => Hne.out.2.1 e.symm)
      have Hbs := Lib.hid (row_kept hcs hb2 (by have := Hne.out; omega))
      clear hc hr2 hv hxs hxl hlw ho2 hcs hrow hb2 HO HB2 Hc ht1 Hcq
      go_upto_region 4 with fail
      clear fr u0 u1 u2 u3 u4 u5 u6
      generalize ((w3.setCell ⟨b3, 0, none⟩ (.int .i64 xa.kind)).setCell ⟨b3, 1, none⟩ (.string (tx xa.s))).setCell ⟨b3, 2, none⟩ (.slice q nk c) = w4 at *
      have Hr := Lib.hid Hrs.out
      have Hk := Lib.hid (show Kw base w4 from Hkw.out _ Hcs.out)
      have HO := Lib.hid Ho.out
      have HB2 := Lib.hid Hbs.out
      have Hc := Lib.hid Hcs.out
      clear Hrs Hcs Ho Hbs
      have HT := Lib.hid (must_any base Hr.out hl Hk.out hrb 1 kVersion)
      clear Hr Hk
      skip
      go_wp2_with fail
      refine HT.out.mono ?_
      rintro e w5 ⟨hc, h2⟩
      clear HT
      have Hcq := Lib.hid (Hc.out.trans hc)
      cases ht1 : mustF 1 kVersion s2 with
      | error z =>
        rw [ht1] at h2 Hdef
        obtain rfl : e = quitF ((src.length - z.1 : Nat) : Int) z.2 := h2
        clear hc
        unfold quitF
        go_wp2_with fail
        refine ⟨rfl, Hcq.out, ?_⟩
        rw [Hdef.out]
        rfl
      | ok s3 =>
        rw [ht1] at h2 Hdef
        simp only at Hdef
        obtain ⟨rfl, hr2⟩ := h2
        have Hr := Lib.hid hr2
        have Hk := Lib.hid (show Kw base w5 from Hkw.out _ Hcq.out)
        replace HB2 := Lib.hid (row_kept hc HB2.out Hne.out.1)
        replace HO := Lib.hid (HO.out.chg hc (fun k h1 h2 e => by have := Hne.out; omega) Hne.out.2.1)
        replace Hc := Lib.hid Hcq.out
        clear hc hr2 Hcq ht1
        have HT := Lib.hid (expr_any Hr.out Hk.out hl hrb)
        clear Hr Hk
        go_wp2_with fail
        refine HT.out.mono ?_
        rintro e w6 ⟨hc, h2⟩
        clear HT
        have Hcq := Lib.hid (Hc.out.trans hc)
        cases ht1 : exprF 32 s3 with
        | error z =>
          rw [ht1] at h2 Hdef
          obtain rfl : e = quitF ((src.length - z.1 : Nat) : Int) z.2 := h2
          clear hc
          unfold quitF
          go_wp2_with fail
          refine ⟨rfl, Hcq.out, ?_⟩
          rw [Hdef.out]
          rfl
        | ok p =>
          obtain ⟨xb, s4⟩ := p
          rw [ht1] at h2 Hdef
          simp only at Hdef
          obtain ⟨hr2, v, rfl, hv⟩ := h2
          obtain ⟨q, nk, c, kb, ko, rfl, hxl, hxs⟩ := hv.shape
          have hlw : b3 + 1 ≤ w5.heap.size := HO.out.lt
          have ho1 := HO.out.chg hc (fun k h1 h2 e => by have := Hne.out; omega) Hne.out.2.1
          have hb2 := row_kept hc HB2.out Hne.out.1
          obtain ⟨ho2, hcs⟩ := ho1.setB (Nat.lt_succ_self _) hxl (hxs.mono fun k hk => ⟨Nat.le_trans hlw hk.1, hk.2⟩)
          obtain ⟨d', h', _, _, _, _, hrow, -⟩ := ho1
          have fr := row_free hrow
          obtain ⟨u0, u1, u2, u3, u4, u5, u6⟩ := var7 hrow
          have Ho := Lib.hid ho2
          have Hcs := Lib.hid (Hcq.out.wide hcs fun k hk e => by have := Hne.out; omega)
          have Hrs := Lib.hid (hr2.chg hcs fun e => Hne.out.2.1 e.symm)
          have Hbs := Lib.hid (row_kept hcs hb2 (by have := Hne.out; omega))
          clear hc hr2 hv hxs hxl hlw ho2 hcs hrow hb2 HO HB2 Hc ht1 Hcq
          go_upto_block 1 with fail
          clear fr u0 u1 u2 u3 u4 u5 u6
          generalize ((w6.setCell ⟨b3, 3, none⟩ (.int .i64 xb.kind)).setCell ⟨b3, 4, none⟩ (.string (tx xb.s))).setCell ⟨b3, 5, none⟩ (.slice q nk c) = w7 at *
          have Hr := Lib.hid Hrs.out
          have Hk := Lib.hid (show Kw base w7 from Hkw.out _ Hcs.out)
          have HO := Lib.hid Ho.out
          have HB2 := Lib.hid Hbs.out
          have Hc := Lib.hid Hcs.out
          clear Hrs Hcs Ho Hbs
          have Hs4 := Lib.hid Hr.out.suf.length_le
          go_loopw [] (fun wr => ∃ (fs : List FldL) (st : RdL) (m : Nat) (f : Value), fieldsF m fs st = fieldsF (s4.rest.length + 2) [] s4 ∧ st.rest.length < m ∧ fs.length ≤ 20 ∧ RdM wr rb src st ∧ Kw base wr ∧ OutF wr (b3 + 1) b3 xa xb fs f ∧ wr.heap[b2]? = some (.cells #[.int .i64 0, .string ⟨#[]⟩, .slice none 0 0, .int .i64 0, .string ⟨#[]⟩, .slice none 0 0, .slice none 0 0] 29 (0, 0)) ∧ Chg (fun k => k = rb) w wr) (fun wr => leftM rb src.length wr)
          case atStart => exact ⟨[], s4, _, _, rfl, by omega, by decide, Hr.out, Hk.out, HO.out, HB2.out, Hc.out⟩
          case round =>
            obtain ⟨fs, st, m, f, hm, hlt, hfl, hr, hk, ho, hb2, hc⟩ := hrel
            obtain ⟨qf, cf, rfl, -⟩ := ho.fb.shape
            obtain ⟨nf, hnf⟩ : ∃ n, n = fs.length := ⟨_, rfl⟩
            rw [← hnf] at ho hfl
            have Hnf := Lib.hid hnf
            have Hleft := Lib.hid (leftM_of hr)
            clear Hr Hk HO HB2 Hc
            have Hr := Lib.hid hr
            have Hk := Lib.hid hk
            have HO := Lib.hid ho
            have HB2 := Lib.hid hb2
            have Hc := Lib.hid hc
            obtain ⟨m, rfl⟩ : ∃ m', m = m' + 1 := ⟨m - 1, by omega⟩
            have Hstep := Lib.hid (show fieldsF (m + 1) fs st = if st.kind = 0 then .ok (fs, st)
              else if fieldK st = 0 then .error (st.rem, 50)
              else if fs.length = 20 then .error (st.rem, 13)
              else match takeF st.rest with
              | .error e => .error e
              | .ok s1 => match exprF 32 s1 with
                | .error e => .error e
                | .ok (a, s2) => match exprF 32 s2 with
                  | .error e => .error e
                  | .ok (b, s3) => fieldsF m (fs ++ [⟨fieldK st, a, b⟩]) s3 from rfl)
            rw [hm] at Hstep
            rw [← hnf] at Hstep
            clear hm hr hk ho hb2 hc hnf
            obtain ⟨c0, c1, c2, c3, c4⟩ := cell5 Hr.out.row
            by_cases hk0 : st.kind = 0
            · have hkb : ((st.kind : Int) != 0) = false := by simp [hk0]
              rw [if_pos hk0] at Hstep
              have Hfin := Lib.hid (show R = .ok ⟨xa, xb, fs⟩ by rw [Hdef.out, Hstep.out])
              obtain ⟨d, h, kb, ko, kb2, ko2, hrow, ⟨g1, g2⟩, ⟨g3, g4⟩, g5⟩ := HO.out
              obtain ⟨u0, u1, u2, u3, u4, u5, u6⟩ := var7 hrow
              have fr := row_free HB2.out
              obtain ⟨v0, v1, v2, v3, v4, v5, v6⟩ := var7 HB2.out
              obtain ⟨kf, kg, g6⟩ := g5.fds
              obtain ⟨qd, cd, rfl, -⟩ := g2.sh
              obtain ⟨qh, ch, rfl, -⟩ := g4.sh
              have G := Lib.hid (And.intro (g2.mono fun k hk => hk.1) (And.intro (g4.mono fun k hk => hk.1) g6))
              clear hk0 hlt hfl hrow g2 g4 g5 g6 Hleft
              have HS := set7 HB2.out
              go_wp2_with fail
              refine bodyPost_ret (results_cellE rfl _ rfl (run_loadVar_row _ _ _ _ _ _ _ (HS _ _ _ _ _ _ _).1 (Tryd.underlying29) rfl rfl)) rfl ⟨Hc.out.wide (HS _ _ _ _ _ _ _).2 fun k hk e => by have := Hne.out; omega, ?_⟩
              rw [Hfin.out]
              have hkp : ∀ k, b3 + 1 ≤ k ∧ k < wr.heap.size → ¬ k = b2 := fun k hk e => by have := Hne.out; omega
              have hmn := (HS (.int .i64 xa.kind) (.string (tx xa.s)) (.slice qd xa.kids.length cd) (.int .i64 xb.kind) (.string (tx xb.s)) (.slice qh xb.kids.length ch) (.slice qf nf cf)).2
              exact ⟨_, rfl, SrcV.mono (S := fun k => b3 + 1 ≤ k ∧ k < wr.heap.size) (fun k hk => ⟨by have := Hne.out; omega, Nat.lt_of_lt_of_le hk.2 hmn.size⟩) ⟨_, _, _, kb, ko, kb2, ko2, kf, kg, rfl, ⟨g1, G.out.1.keep hmn hkp⟩, ⟨g3, G.out.2.1.keep hmn hkp⟩, G.out.2.2.keep hmn hkp⟩⟩
            · have hkb : ((st.kind : Int) != 0) = true := by rw [bne_iff_ne]; omega
              rw [if_neg hk0] at Hstep
              have HK := Lib.hid (fkind_any Hr.out)
              have HF := Lib.hid (fail_any Hr.out 13)
              clear hk0
              go_wp2_with fail
              refine HK.out.mono ?_
              rintro e wx ⟨rfl, hke⟩
              rcases hke with ⟨hk1, rfl⟩ | ⟨hk1, rfl⟩
              · rw [if_neg hk1] at Hstep
                obtain ⟨d, h, kb, ko, kb2, ko2, hrow, ⟨g1, g2⟩, ⟨g3, g4⟩, g5⟩ := HO.out
                obtain ⟨u0, u1, u2, u3, u4, u5, u6⟩ := var7 hrow
                obtain ⟨fk, hfk⟩ : ∃ n, n = fieldK st := ⟨_, rfl⟩
                rw [← hfk] at Hstep ⊢
                have Hfk := Lib.hid hfk
                clear hk1 hrow g1 g2 g3 g4 g5 hfk u0 u1 u2 u3 u4 u5 c0 c1 c2 c3 c4 HK
                by_cases h20 : nf = 20
                · have h20b : ((nf : Int) == 20) = true := by simp [h20]
                  rw [if_pos h20] at Hstep
                  clear h20 hlt hfl Hleft
                  go_wp2_with fail
                  refine HF.out.mono ?_
                  rintro e w9 ⟨rfl, rfl⟩
                  have Hfin := Lib.hid (show R = .error (st.rem, 13) by rw [Hdef.out, Hstep.out])
                  unfold quitF
                  go_wp2_with fail
                  refine ⟨rfl, Hc.out, ?_⟩
                  rw [Hfin.out]
                  rfl
                · have h20b : ((nf : Int) == 20) = false := by rw [beq_eq_false_iff_ne]; omega
                  rw [if_neg h20] at Hstep
                  have HT := Lib.hid (take_any base Hr.out hl Hk.out hrb)
                  clear HF
                  go_wp2_with fail
                  refine HT.out.mono ?_
                  rintro e w8 ⟨hc, h2⟩
                  clear HT u6
                  have Hcq := Lib.hid (Hc.out.trans hc)
                  cases ht1 : takeF st.rest with
                  | error z =>
                    rw [ht1] at h2 Hstep
                    obtain rfl : e = quitF ((src.length - z.1 : Nat) : Int) z.2 := h2
                    have Hfin := Lib.hid (show R = .error z by rw [Hdef.out, Hstep.out])
                    clear hc
                    unfold quitF
                    go_wp2_with fail
                    refine ⟨rfl, Hcq.out, ?_⟩
                    rw [Hfin.out]
                    rfl
                  | ok s1 =>
                    obtain ⟨hs1, hs2⟩ := takeF_le ht1
                    rw [ht1] at h2 Hstep
                    simp only at Hstep
                    obtain ⟨rfl, hr2⟩ := h2
                    have HR8 := Lib.hid hr2
                    have HK8 := Lib.hid (show Kw base w8 from Hkw.out _ Hcq.out)
                    have HB8 := Lib.hid (row_kept hc HB2.out Hne.out.1)
                    have HO8 := Lib.hid (HO.out.chg hc (fun k h1 h2 e => by have := Hne.out; omega) Hne.out.2.1)
                    clear hc hr2 ht1 Hr Hk HB2 HO Hc
                    have HT := Lib.hid (expr_any HR8.out HK8.out hl hrb)
                    go_wp2_with fail
                    refine HT.out.mono ?_
                    rintro e w9 ⟨hc, h2⟩
                    clear HT HR8 HK8
                    have Hc9 := Lib.hid (Hcq.out.trans hc)
                    cases ht1 : exprF 32 s1 with
                    | error z =>
                      rw [ht1] at h2 Hstep
                      obtain rfl : e = quitF ((src.length - z.1 : Nat) : Int) z.2 := h2
                      have Hfin := Lib.hid (show R = .error z by rw [Hdef.out, Hstep.out])
                      clear hc
                      unfold quitF
                      go_wp2_with fail
                      refine ⟨rfl, Hc9.out, ?_⟩
                      rw [Hfin.out]
                      rfl
                    | ok p =>
                      obtain ⟨y1, s2⟩ := p
                      rw [ht1] at h2 Hstep
                      simp only at Hstep
                      obtain ⟨hr2, v, rfl, hv⟩ := h2
                      obtain ⟨q5, n5, c5, kb5, ko5, rfl, hxl5, hxs⟩ := hv.shape
                      have hkind : s2.rest.length ≤ s1.rest.length ∧ s1.kind ≠ 0 := by
                        refine ⟨exprW_le (term_good 32) ht1, ?_⟩
                        unfold exprF exprW at ht1
                        cases ht2 : termF 32 s1 with
                        | error e => rw [ht2] at ht1; cases ht1
                        | ok z => exact (term_good 32).kind ht2
                      have hlt2 : s2.rest.length < st.rest.length := by have := hs2 hkind.2; omega
                      have hal_ := (Chg.refl NoB w9).alloc (.cells #[.int .i64 y1.kind, .string (tx y1.s), .slice q5 n5 c5] 26)
                      have hb_ := heap_alloc_new w9 (.cells #[.int .i64 y1.kind, .string (tx y1.s), .slice q5 n5 c5] 26)
                      obtain ⟨b5, hxb_⟩ : ∃ b, b = w9.heap.size := ⟨_, rfl⟩
                      obtain ⟨wz, hw_⟩ : ∃ w_, w9.alloc (.cells #[.int .i64 y1.kind, .string (tx y1.s), .slice q5 n5 c5] 26) = w_ := ⟨_, rfl⟩
                      have hz_ : wz.heap.size = b5 + 1 := by rw [← hw_, hxb_]; exact alloc_size _ _
                      rw [hw_] at hal_ hb_
                      rw [← hxb_] at hb_
                      have Hw5 := Lib.hid hw_
                      have Hx5 := Lib.hid hxb_
                      have Ha5 := Lib.hid hal_
                      have Hb5 := Lib.hid hb_
                      have Hz5 := Lib.hid hz_
                      clear hal_ hb_ hxb_ hw_ hz_
                      have HB9 := Lib.hid (row_kept Ha5.out (row_kept hc HB8.out Hne.out.1) id)
                      have HO9 := Lib.hid (((HO8.out.chg hc (fun k h1 h2 e => by have := Hne.out; omega) Hne.out.2.1)).chg Ha5.out (fun _ _ _ => id) id)
                      have hlw : b3 + 1 ≤ w8.heap.size := HO8.out.lt
                      have HX5 := Lib.hid (show BoxE wz w8.heap.size b5 y1 from ⟨_, _, _, _, _, Hb5.out, hxl5, (hxs.keep Ha5.out fun _ _ => id).mono fun k hk => ⟨hk.1, Nat.lt_of_lt_of_le hk.2 Ha5.out.size⟩⟩)
                      have HRz := Lib.hid (hr2.keep Ha5.out)
                      have Hcz := Lib.hid (Hc9.out.trans (Ha5.out.mono fun _ _ h => h.elim))
                      have Hlz := Lib.hid (show b3 + 1 ≤ w8.heap.size ∧ w8.heap.size ≤ w9.heap.size ∧ b5 = w9.heap.size ∧ wz.heap.size = b5 + 1 from ⟨hlw, hc.size, Hx5.out, Hz5.out⟩)
                      have HN := Lib.hid (fun k (hk : (Value.slice qf nf cf).ownBlock = some k) => show k < w8.heap.size from (HO8.out.fb.lt k hk).2)
                      clear hc hr2 hv hxs hlw ht1 Hcq HB8 HO8 hs1 hs2 hkind Hc9
                      go_upto_region 12 with fail
                      rw [Hw5.out, ← Hx5.out]
                      have HT := Lib.hid (fun W (h : Chg NoB wz W) => expr_any (HRz.out.keep h) (Hkw.out W (Hcz.out.trans (h.mono fun _ _ h => h.elim))) hl hrb)
                      have hcd := (Chg.refl NoB wz).drew
                      obtain ⟨d, h, kb, ko, kb2, ko2, hrow, g2, g4, g5⟩ := HO9.out
                      obtain ⟨q5, n5, c5, kb5, ko5, h5, y5, z5⟩ := HX5.out
                      have u6 := (var7 hrow).2.2.2.2.2.2
                      obtain ⟨a0, a1, a2⟩ := var3 h5
                      have hA := And.intro u6 (And.intro a0 (And.intro a1 a2))
                      have hrowd := row_kept hcd hrow id
                      have h5d := row_kept hcd h5 id
                      have Hne5 := Lib.hid (show b5 ≠ rb by have := Hlz.out; have := Hne.out; omega)
                      have u6d := hcd.keep u6
                      have a0d := hcd.keep a0
                      have a1d := hcd.keep a1
                      have a2d := hcd.keep a2
                      cases ht1 : exprF 32 s2 with
                      | error z =>
                        rw [ht1] at HT Hstep
                        have Hfin := Lib.hid (show R = .error z by rw [Hdef.out, Hstep.out])
                        go_region_dies
                        all_goals
                          refine (HT.out _ hcd).mono ?_
                          rintro e w10 ⟨hc10, h10⟩
                          obtain rfl : e = quitF ((src.length - z.1 : Nat) : Int) z.2 := h10
                          have Hc10 := Lib.hid ((Hcz.out.trans (hcd.mono fun _ _ h => h.elim)).trans hc10)
                          clear hc10
                          unfold quitF
                          go_wp2_with fail
                          refine ⟨rfl, Hc10.out, ?_⟩
                          rw [Hfin.out]
                          rfl
                      | ok p =>
                        obtain ⟨y2, s3⟩ := p
                        rw [ht1] at HT Hstep
                        simp only at Hstep
                        obtain ⟨i0, hi, hz0, hz1, hz2⟩ := info_three fdInfo
                        have N1 : nf + 1 ≤ maxLen := by unfold maxLen; omega
                        have N2 : (nf + 1) * 104 ≤ 140737488355328 := by omega
                        have HOd := Lib.hid (fun w10 (hc10 : Chg (fun k => k = rb) wz.drew w10) => (HO9.out.chg hcd (fun _ _ _ => id) id).chg hc10 (fun k h1 h2 e => by have := Hne.out; omega) Hne.out.2.1)
                        have HZ5 := Lib.hid (fun w10 (hc10 : Chg (fun k => k = rb) wz.drew w10) => ((z5.keep hcd fun _ _ => id).keep hc10 fun k hk e => by have := Hne.out; have := Hlz.out; omega).mono (T := fun k => w8.heap.size ≤ k ∧ k < w10.heap.size) fun k hk => ⟨hk.1, Nat.lt_of_lt_of_le hk.2 hc10.size⟩)
                        have HNz := Lib.hid (fun w10 (hc10 : Chg (fun k => k = rb) wz.drew w10) => show w8.heap.size ≤ w10.heap.size from Nat.le_trans (by have := Hlz.out; show w8.heap.size ≤ wz.heap.size; omega) hc10.size)
                        have HNd := Lib.hid (show w8.heap.size ≤ wz.drew.heap.size from by have := Hlz.out; show w8.heap.size ≤ wz.heap.size; omega)
                        clear g2 g4 g5 z5
                        go_region_law (first
                          | (refine step_append_at (by rfl) _ (.tmp 35) (.tmp 41) 27 (by rfl) (b3 + 1) 47 i0 (.agg #[.int .i64 0, .int .i64 0, .string ⟨#[]⟩, .slice none 0 0, .int .i64 0, .string ⟨#[]⟩, .slice none 0 0]) 7 104 Tryd.underlying27 hi hz0 hz1 hz2 rfl (by decide) _ nf _ (by rfl) hown11 ⟨w10.heap.size, 0, none⟩ 1 1 [.int .i64 fk, .int .i64 y1.kind, .string (tx y1.s), .slice q5 n5 c5, .int .i64 y2.kind, .string (tx y2.s), .slice q8 n8 c8] (by rfl) rfl (lit7 w10 _ _ _ _ _ _ _ _) (one7 _ _ _ _ _ _ _ _ _ _ _) N1 N2 hba ?_; intro v2 wb hownb hgrb hplb; obtain ⟨q2, c2', rfl, -, -⟩ := row_shape hownb; obtain ⟨hrowb, hgcb, hobF⟩ := OutF.grow (f := ⟨fk, y1, y2⟩) hrow10 ga gb (Nat.lt_succ_self b3) HN.out hfl Hlz.out.1 (HNz.out w10 hc10) hfr10 y5 hxl8 hd10 (hxs8.mono fun k hk => ⟨Nat.le_trans HNd.out hk.1, hk.2⟩) hal10 (by rw [← Hnf.out]; exact hownb) hgrb hplb; have pf := row_free hrowb; obtain ⟨p0, p1, p2, p3, p4, p5, p6⟩ := var7 hrowb)
                          | (go_simp; go_at_call 54; refine (HT.out wz.drew hcd).mono ?_; rintro e w10 ⟨hc10, hr10, v10, rfl, hv10⟩; obtain ⟨q8, n8, c8, kb8, ko8, rfl, hxl8, hxs8⟩ := hv10.shape; obtain ⟨d9, h9, kb9, ko9, kb10, ko10, hrow10, ga, gb, hlo10, xs, hown10, hfr10⟩ := HOd.out w10 hc10; rw [← Hnf.out] at hown10; have u6e := (var7 hrow10).2.2.2.2.2.2; obtain ⟨a0e, a1e, a2e⟩ := var3 (row_kept hc10 h5d Hne5.out); have hal10 := (Chg.refl NoB w10).alloc (.cells #[.int .i64 fk, .int .i64 y1.kind, .string (tx y1.s), .slice q5 n5 c5, .int .i64 y2.kind, .string (tx y2.s), .slice q8 n8 c8] 47); have u6f := hal10.keep u6e; have hown11 := ownsRow_chg hown10 hal10 fun _ _ => id; have hba := Nat.le_trans hlo10 hal10.size; have hd10 := HZ5.out w10 hc10; have hfl := fun k hk => (World.ownsRow.lt hown10 k hk).1; have hz10 := hc10.size))
                        all_goals
                          have Hrow := Lib.hid hrowb
                          have HobF := Lib.hid hobF
                          have Hgc := Lib.hid hgcb
                          have Hfl := Lib.hid hfl
                          have Hal := Lib.hid hal10
                          have Hc10 := Lib.hid hc10
                          have Hr10 := Lib.hid hr10
                          clear hrowb hobF hgcb hfl hal10 hc10 hr10 pf p0 p1 p2 p3 p4 p5 p6 u6 u6d u6e u6f a0 a1 a2 a0d a1d a2d a0e a1e a2e hA ga gb hown10 hfr10 hxs8 hd10 hownb hgrb hplb hown11 hrow10 hrow h5 hrowd h5d hba hv10
                          go_wp2_with fail
                          have hcF := (Chg.refl (fun k => k = b3) wb).setCell (p := ⟨b3, 6, none⟩) (.inl rfl) (.slice q2 (nf + 1) c2')
                          have hob : ∀ k, (Value.slice qf nf cf).ownBlock = some k → b3 + 1 ≤ k := Hfl.out
                          have hR := ((Hr10.out.keep Hal.out).chg Hgc.out fun e => by have := hob _ e; have := Hne.out; omega).chg hcF fun e => Hne.out.2.1 e.symm
                          have hC := ((((Hcz.out.trans (hcd.mono fun _ _ h => h.elim)).trans Hc10.out).trans (Hal.out.mono fun _ _ h => h.elim)).wide Hgc.out fun k hk e => by have := hob _ e; have := Hne.out; omega).wide hcF fun k hk e => by have := Hne.out; omega
                          have hB := row_kept hcF (row_kept Hgc.out (row_kept Hal.out (row_kept Hc10.out (row_kept hcd HB9.out id) Hne.out.1) id) fun e => by have := hob _ e; have := Hne.out; omega) (by have := Hne.out; omega)
                          have hs3 := exprW_le (term_good 32) ht1
                          refine ⟨⟨fs ++ [⟨fk, y1, y2⟩], s3, m, _, Hstep.out.symm, by omega, by rw [List.length_append, ← Hnf.out]; show nf + 1 ≤ 20; omega, hR, Hkw.out _ hC, HobF.out, hB, hC⟩, ?_⟩
                          rw [leftM_of hR, Hleft.out]
                          omega
              · rw [if_pos hk1] at Hstep
                have Hfin := Lib.hid (show R = .error (st.rem, 50) by rw [Hdef.out, Hstep.out])
                clear hk1 c0 c1 c2 c3 c4
                unfold quitF
                go_wp2_with fail
                refine ⟨rfl, Hc.out, ?_⟩
                rw [Hfin.out]
                rfl
end Go.Proofs.YtdgcpgbknfojhaaDoor
