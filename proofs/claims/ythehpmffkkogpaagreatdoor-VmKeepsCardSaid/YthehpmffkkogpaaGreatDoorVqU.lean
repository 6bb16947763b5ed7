/- The contract of the document's Check. No condition. -/
import Derived.Test.YthehpmffkkogpaaGreatDoorCdFind
import Derived.Test.YthehpmffkkogpaaGreatDoorCdCheck
import Derived.Deep.RegionHeld3
import Derived.Test.YthehpmffkkogpaaGreatDoorVqS
import Derived.Test.YthehpmffkkogpaaGreatDoorVqG
import Derived.Test.YthehpmffkkogpaaGreatDoorVqF
namespace Go.Proofs.YthehpmffkkogpaaGreatDoor
set_option linter.unusedVariables false
open Go.ChangeShapes Go.WideShapes Go.ChangeAt Go.RowKit
theorem takesF_in (op : Int) : takesF op = 0 ∨ takesF op = 1 ∨ takesF op = 2 ∨ takesF op = 3 ∨ takesF op = 4 := by
  unfold takesF
  (repeat' split) <;> simp
set_option maxHeartbeats 4000000 in
set_option maxRecDepth 20000 in
theorem refCheck_any (ps : List InsL) (S : Nat → Prop) (v : Value) (kb ko : Nat) (w : World) (hs : InsS w S v ps kb ko) :
    Calls Tryz.prog 32 #[v] w (SayI (.tuple #[.int .i64 (checkF ps).1, .int .i64 (checkF ps).2]) w) := by
  obtain ⟨⟨q, c, rfl, h1, h2, h3⟩, hat⟩ := hs
  obtain ⟨len, hlen⟩ : ∃ len, len = ps.length := ⟨_, rfl⟩
  rw [← hlen] at h1 ⊢
  have hck : checkF ps = if ps.length = 0 ∨ 256 < ps.length then ((0 : Int), (13 : Int)) else match ps.findIdx? (fun x => !standsF x ps.length) with | none => ((0 : Int), (0 : Int)) | some k => ((k : Int), (30 : Int)) := rfl
  rw [← hlen] at hck
  have H3 := Lib.hid h3
  have Hat := Lib.hid hat
  have Hlen := Lib.hid hlen
  unfold maxLen at h2
  by_cases hsz : len = 0 ∨ 256 < len
  · rw [if_pos hsz] at hck
    rw [hck]
    clear hck h3 hat hlen
    go_enter Tryz.func32, Tryz.ntmps32
    rcases hsz with h0 | h0
    · subst h0
      go_wp2_with fail
      go_ret2
      exact ⟨rfl, Chg.refl _ _⟩
    · go_wp2_with fail
      go_ret2
      exact ⟨rfl, Chg.refl _ _⟩
  · rw [if_neg hsz] at hck
    have hl1 : ¬ len < 1 := by omega
    have hl2 : len ≤ 256 := by omega
    have Hck := Lib.hid hck
    clear hck hsz h3 hat hlen
    go_enter Tryz.func32, Tryz.ntmps32
    go_wp2_with fail
    go_loopw [4, 18] (fun _ i wr => ∃ k : Nat, k ≤ len ∧ i = .int .i64 k ∧ (∀ j (hj : j < ps.length), j < k → standsF ps[j] len = true) ∧ Chg NoB w wr) (fun _ i _ => len - (intOf i).toNat)
    case atStart => exact ⟨0, Nat.zero_le _, rfl, fun j _ hj => absurd hj (Nat.not_lt_zero _), Chg.refl _ _⟩
    case round =>
      obtain ⟨k, hk, rfl, hno, hch⟩ := hrel
      have Hno := Lib.hid hno
      have Hch := Lib.hid hch
      clear hno hch
      by_cases hlt : k < len
      · have hlt' : k < ps.length := by rw [← Hlen.out]; exact hlt
        obtain ⟨rfl, -⟩ := H3.out (by rintro rfl; simp at hlt')
        obtain ⟨⟨hw1, hw2, hsl⟩, c0, c1, c2⟩ := Hat.out k hlt'
        have c0 := Hch.out.keep c0
        have c1 := Hch.out.keep c1
        have c2 := Hch.out.keep c2
        have Hyes : Hid (standsF ps[k] len = false → checkF ps = ((k : Int), (30 : Int))) := Lib.hid fun h => by
          rw [Hck.out, find_some hlt' h fun i hi => Hno.out i _ hi]
        have Hgo : Hid (standsF ps[k] len = true → ∀ j (hj : j < ps.length), j < k + 1 → standsF ps[j] len = true) := Lib.hid fun h j hj hjk => by
          by_cases e : j = k
          · subst e; exact h
          · exact Hno.out j hj (by omega)
        generalize ps[k] = x at *
        obtain ⟨op, n, s⟩ := x
        simp only at *
        have hal := (Chg.refl NoB wr).alloc (.cells #[.int .i64 op, .int .i64 n, .string (tx s)] 46)
        have hb5 := heap_alloc_new wr (.cells #[.int .i64 op, .int .i64 n, .string (tx s)] 46)
        obtain ⟨xb, hxb⟩ : ∃ xb, xb = wr.heap.size := ⟨_, rfl⟩
        rw [← hxb] at hb5
        have Hb5 := Lib.hid hb5
        have Hal := Lib.hid (Hch.out.trans hal)
        have Hxb := Lib.hid hxb
        have hstd : standsF ⟨op, n, s⟩ len = (if wordL op = [] then false
          else if takesF op = 1 then decide (s = [])
          else if takesF op = 2 then decide (n = 0 ∧ s.length ≤ 256)
          else if takesF op = 3 then decide (s = [] ∧ 0 ≤ n ∧ n < 16)
          else if takesF op = 4 then decide (s = [] ∧ 0 ≤ n ∧ n < len)
          else decide (s = [] ∧ n = 0)) := rfl
        obtain ⟨st, hstE⟩ : ∃ st, st = standsF ⟨op, n, s⟩ len := ⟨_, rfl⟩
        rw [← hstE] at Hyes Hgo hstd
        have hti := takesF_in op
        obtain ⟨wb, hwb⟩ : ∃ wb : Bool, wb = decide (wordL op = []) := ⟨_, rfl⟩
        have hwe : ((tx (wordL op)).toList == []) = wb := by
          rw [Lib.toList_data, tx_list, hwb]
          by_cases h : wordL op = []
          · rw [h]; rfl
          · rw [decide_eq_false h, beq_eq_false_iff_ne]; exact h
        obtain ⟨sb, hsb⟩ : ∃ sb : Bool, sb = decide (s = []) := ⟨_, rfl⟩
        have hse : ((tx s).toList == []) = sb := by
          rw [Lib.toList_data, tx_list, hsb]
          by_cases h : s = []
          · subst h; rfl
          · rw [decide_eq_false h, beq_eq_false_iff_ne]; exact h
        obtain ⟨sl, hslen⟩ : ∃ sl, sl = s.length := ⟨_, rfl⟩
        have hss : (tx s).size = sl := by rw [tx_size, hslen]
        rw [← hslen] at hstd hsl
        have hs0 : s = [] → sl = 0 := fun h => by rw [hslen, h]; rfl
        have Hstd := Lib.hid hstd
        have Hsb := Lib.hid hsb
        have Hwb := Lib.hid hwb
        have Hs0 := Lib.hid hs0
        have Hti := Lib.hid hti
        have Ht := fun w => Lib.hid (refTakes_any op hw1.1 hw1.2 w)
        have Hw := fun w => Lib.hid (refWord_any op hw1.1 hw1.2 w)
        clear hal hb5 hxb hstd hstE hti hwb hsb hslen hs0
        go_upto_region 6 with fail
        rw [← Hxb.out]
        generalize wr.alloc (.cells #[.int .i64 op, .int .i64 n, .string (tx s)] 46) = w5 at *
        obtain ⟨f0, f1, f2⟩ := var3 Hb5.out
        clear c0 c1 c2
        go_wp2_with fail
        refine (Ht w5).out.mono ?_
        rintro e w6 ⟨rfl, hc6⟩
        have Hb6 := Lib.hid (row_kept hc6 Hb5.out id)
        have Hc6 := Lib.hid (Hal.out.trans hc6)
        clear f0 f1 f2 hc6
        obtain ⟨f0, f1, f2⟩ := var3 Hb6.out
        go_wp2_with fail
        refine (Hw w6).out.mono ?_
        rintro e w7 ⟨rfl, hc7⟩
        have Hb7 := Lib.hid (row_kept hc7 Hb6.out id)
        have Hc7 := Lib.hid (Hc6.out.trans hc7)
        clear f0 f1 f2 hc7 Ht Hw
        obtain ⟨f0, f1, f2⟩ := var3 Hb7.out
        generalize takesF op = t at *
        generalize wordL op = wl at *
        have hti := Hti.out
        clear Hti
        have fin : ∀ b : Bool, (st = !b → True) := fun _ _ => trivial
        cases wb with
        | true =>
          have hst0 : st = false := by have h1 := Hwb.out; have h2 := Hstd.out; grind
          have Hy := Lib.hid (Hyes.out hst0)
          clear Hyes hti
          go_wp2_with fail
          go_ret2
          refine ⟨?_, Hc7.out⟩
          show Ending.returned (.tuple #[.int .i64 k, .int .i64 30]) = _
          rw [Hy.out]
        | false =>
          rcases hti with rfl | rfl | rfl | rfl | rfl <;> cases sb
          all_goals
            go_wp2_with fail
          all_goals
            have hsd := Hstd.out
            have hs1 := Hsb.out
            have hw1 := Hwb.out
            have hs0 := Hs0.out
            have Hy := Hyes
            have Hg := Hgo
            clear Hyes Hgo Hstd Hsb Hwb Hs0 fin
            first
              | (go_ret2
                 have hst0 : st = false := by grind
                 refine ⟨?_, Hc7.out⟩
                 show Ending.returned (.tuple #[.int .i64 k, .int .i64 30]) = _
                 rw [Hy.out hst0])
              | (go_roundw
                 case rel =>
                   have hst0 : st = true := by grind
                   exact ⟨k + 1, by omega, by go_num, Hg.out hst0, Hc7.out⟩
                 case measure => simp [intOf]; omega)
      · obtain rfl : k = len := by omega
        have Hf := Lib.hid (find_none (ps := ps) (f := fun x => standsF x k) fun i hi => Hno.out i hi (by rw [Hlen.out]; exact hi))
        have hck := Hck.out
        rw [Hf.out] at hck
        have Hck2 := Lib.hid hck
        clear hck
        go_wp2_with fail
        go_ret2
        refine ⟨?_, Hch.out⟩
        show Ending.returned (.tuple #[.int .i64 0, .int .i64 0]) = _
        rw [Hck2.out]
end Go.Proofs.YthehpmffkkogpaaGreatDoor
namespace Go.Proofs.YthehpmffkkogpaaGreatDoor
set_option linter.unusedVariables false
open Go.ChangeShapes Go.WideShapes Go.ChangeAt Go.RowKit
def ISameP (ps qs : List InsL) (w : World) (e : Ending) (w' : World) : Prop := (∃ b : Bool, e = .returned (.bool b) ∧ (b = true ↔ ps = qs)) ∧ Chg NoB w w'
set_option maxHeartbeats 1000000 in
set_option maxRecDepth 20000 in
theorem isame_any (ps qs : List InsL) (S T : Nat → Prop) (v u : Value) (kb ko jb jo : Nat) (w : World) (hs : InsS w S v ps kb ko) (ht : InsS w T u qs jb jo) (hb : ps.length ≤ 131072) :
    Calls Tryz.prog 28 #[v, u] w (ISameP ps qs w) := by
  obtain ⟨⟨q, c, rfl, h1, h2, h3⟩, hat⟩ := hs
  obtain ⟨⟨q', c', rfl, h1', h2', h3'⟩, hat'⟩ := ht
  obtain ⟨len, hlen⟩ : ∃ len, len = ps.length := ⟨_, rfl⟩
  obtain ⟨len', hlen'⟩ : ∃ len, len = qs.length := ⟨_, rfl⟩
  rw [← hlen] at h1 hb ⊢
  rw [← hlen'] at h1' ⊢
  have H3 := Lib.hid h3
  have Hat := Lib.hid hat
  have Hlen := Lib.hid hlen
  have H3' := Lib.hid h3'
  have Hat' := Lib.hid hat'
  have Hlen' := Lib.hid hlen'
  unfold maxLen at h2 h2'
  clear h3 hat hlen h3' hat' hlen'
  by_cases hll : (len : Int) = (len' : Int)
  · have hll' : len = len' := by omega
    subst hll'
    clear hll
    go_enter Tryz.func28, Tryz.ntmps28
    go_wp2_with fail
    go_loopw [5, 13] (fun _ i wr => ∃ k : Nat, k ≤ len ∧ i = .int .i64 k ∧ (∀ j (hj : j < ps.length) (hj' : j < qs.length), j < k → ps[j] = qs[j]) ∧ Chg NoB w wr) (fun _ i _ => len - (intOf i).toNat)
    case atStart => exact ⟨0, Nat.zero_le _, rfl, fun j _ _ hj => absurd hj (Nat.not_lt_zero _), Chg.refl _ _⟩
    case round =>
      obtain ⟨k, hk, rfl, hno, hch⟩ := hrel
      have Hno := Lib.hid hno
      have Hch := Lib.hid hch
      clear hno hch
      by_cases hlt : k < len
      · have hp : k < ps.length := by rw [← Hlen.out]; exact hlt
        have hq : k < qs.length := by rw [← Hlen'.out]; exact hlt
        obtain ⟨rfl, -⟩ := H3.out (by rintro rfl; simp at hp)
        obtain ⟨rfl, -⟩ := H3'.out (by rintro rfl; simp at hq)
        obtain ⟨-, c0, c1, c2⟩ := Hat.out k hp
        obtain ⟨-, d0, d1, d2⟩ := Hat'.out k hq
        have c0 := Hch.out.keep c0
        have c1 := Hch.out.keep c1
        have c2 := Hch.out.keep c2
        have d0 := Hch.out.keep d0
        have d1 := Hch.out.keep d1
        have d2 := Hch.out.keep d2
        have Hgo : Hid (ps[k] = qs[k] → ∀ j (hj : j < ps.length) (hj' : j < qs.length), j < k + 1 → ps[j] = qs[j]) := Lib.hid fun h j hj hj' hjk => by
          by_cases e : j = k
          · subst e; exact h
          · exact Hno.out j hj hj' (by omega)
        have Hne : Hid (ps[k] ≠ qs[k] → ps ≠ qs) := Lib.hid fun h e => by subst e; exact h rfl
        generalize ps[k] = x at *
        generalize qs[k] = y at *
        have hA := And.intro c0 (And.intro c1 (And.intro c2 (And.intro d0 (And.intro d1 d2))))
        have hsb := tx_beq x.s y.s
        have hxy : x = y ↔ (x.op == y.op) = true ∧ (x.n == y.n) = true ∧ decide (x.s = y.s) = true := by
          obtain ⟨o1, n1, s1⟩ := x
          obtain ⟨o2, n2, s2⟩ := y
          simp
        have Hxy := Lib.hid hxy
        obtain ⟨b1, hb1⟩ : ∃ b, b = (x.op == y.op) := ⟨_, rfl⟩
        obtain ⟨b2, hb2⟩ : ∃ b, b = (x.n == y.n) := ⟨_, rfl⟩
        obtain ⟨b3, hb3⟩ : ∃ b, b = decide (x.s = y.s) := ⟨_, rfl⟩
        rw [← hb3] at hsb
        rw [← hb1, ← hb2, ← hb3] at Hxy
        replace hb1 := hb1.symm
        replace hb2 := hb2.symm
        clear hxy hb3
        go_upto_region 6 with fail
        cases b1 <;> cases b2 <;> cases b3
        all_goals
          go_region_held3 (fun w' => w'.cell? ⟨kb, ko + k * 3, none⟩ = some (.int .i64 x.op) ∧ w'.cell? ⟨kb, ko + k * 3 + 1, none⟩ = some (.int .i64 x.n) ∧ w'.cell? ⟨kb, ko + k * 3 + 2, none⟩ = some (.string (tx x.s)) ∧ w'.cell? ⟨jb, jo + k * 3, none⟩ = some (.int .i64 y.op) ∧ w'.cell? ⟨jb, jo + k * 3 + 1, none⟩ = some (.int .i64 y.n) ∧ w'.cell? ⟨jb, jo + k * 3 + 2, none⟩ = some (.string (tx y.s)))
            (exact hA)
            (fail)
        all_goals
          first
            | (have Heq := Lib.hid (Hgo.out (Hxy.out.2 ⟨rfl, rfl, rfl⟩))
               clear Hgo Hne Hxy
               go_wp2_with fail
               go_roundw
               case rel => exact ⟨k + 1, by omega, by go_num, Heq.out, Hch.out.drew⟩
               case measure => simp [intOf]; omega)
            | (have hn1 : x ≠ y := fun e => by have := Hxy.out.1 e; simp at this
               have Hpq := Lib.hid (Hne.out hn1)
               clear hn1 Hgo Hne Hxy
               go_wp2_with fail
               go_ret
               exact ⟨⟨false, rfl, by simp [Hpq.out]⟩, Hch.out.drew⟩)
      · obtain rfl : k = len := by omega
        have heq : ps = qs := List.ext_getElem (by rw [← Hlen.out, Hlen'.out]) fun j hj hj' => Hno.out j hj hj' (by rw [Hlen.out]; exact hj)
        have Heq := Lib.hid heq
        clear heq
        go_wp2_with fail
        go_ret
        exact ⟨⟨true, rfl, by simp [Heq.out]⟩, Hch.out⟩
  · have hne : ((len : Int) == (len' : Int)) = false := by rw [beq_eq_false_iff_ne]; exact hll
    have Hpq : Hid (ps ≠ qs) := Lib.hid fun e => hll (by rw [Hlen.out, Hlen'.out, e])
    clear hll
    go_enter Tryz.func28, Tryz.ntmps28
    go_wp2_with fail
    go_ret
    exact ⟨⟨false, rfl, by simp [Hpq.out]⟩, Chg.refl _ _⟩
end Go.Proofs.YthehpmffkkogpaaGreatDoor
namespace Go.Proofs.YthehpmffkkogpaaGreatDoor
set_option linter.unusedVariables false
open Go.ChangeShapes Go.WideShapes Go.ChangeAt Go.RowKit
theorem cell_set_ne {w : World} {b i j : Nat} (u : Value) (h : i ≠ j) : (w.setCell ⟨b, i, none⟩ u).cell? ⟨b, j, none⟩ = w.cell? ⟨b, j, none⟩ := by
  rw [World.cell?_setCell_other]
  intro e
  have h2 : i = j := congrArg Addr.off e
  exact h h2
set_option maxHeartbeats 8000000 in
set_option maxRecDepth 20000 in
theorem rstep_any {lo sb : Nat} {w : World} {s : RS} {F : Value × Value × Value} {ps : List InsL} {view : List FileL} {pq vq : Option Addr} {pc vc pb po kb ko : Nat} (hm : RefM w lo sb s F) (wf : WfR ps.length s)
    (hview : InpS w (fun k => k < lo) (.slice vq view.length vc) view kb ko) (hgv : goodF view = true) (base : Nat) (hlb : Lb base w) (hbase : base ≤ lo)
    (hps : InsS w (fun k => k < lo) (.slice pq ps.length pc) ps pb po) (hpw : ∀ x ∈ ps, WfI ps.length x) (hpl : ps.length ≤ 256) (hst : s.steps ≤ 1048576) (a : Nat) (ea : s.at' = a) (ha : a < ps.length) :
    Calls Tryz.prog 33 #[.pointer (some ⟨sb, 0, none⟩), .slice pq ps.length pc, .agg #[.slice vq view.length vc]] w (ROut lo sb F (doS view ps[a] (ticS s)) w) := by
  have hlo0 := hm.lo
  have hlow0 := hm.low.1
  have HLB := Lib.hid (fun w' (F' : RF) (h : RStep sb F F' w w') => hlb.rstep h (Nat.le_trans hbase hm.lo.1.1) (fun k hk => by have := (hm.low.1 k hk).1; have := hm.lo.1; omega))
  have HV := Lib.hid (fun w' (F' : RF) (h : RStep sb F F' w w') => hview.keep h.chg (fun k hk e => by rcases e with e | e; (have := hm.lo; omega); have := (hm.low.1 k e).1; omega))
  have Hgv := Lib.hid hgv
  have Hbase := Lib.hid hbase
  obtain ⟨r, hr⟩ : ∃ z, z = doS view ps[a] (ticS s) := ⟨_, rfl⟩
  rw [← hr]
  obtain ⟨vn, hvn⟩ : ∃ z, z = view.length := ⟨_, rfl⟩
  rw [← hvn]
  have hal_ := (Chg.refl NoB w).alloc (.cells #[.slice vq vn vc] 25)
  have hb_ := heap_alloc_new w (.cells #[.slice vq vn vc] 25)
  obtain ⟨vb, hxb_⟩ : ∃ b, b = w.heap.size := ⟨_, rfl⟩
  obtain ⟨w1, hw_⟩ : ∃ w_, w.alloc (.cells #[.slice vq vn vc] 25) = w_ := ⟨_, rfl⟩
  have hz_ : w1.heap.size = vb + 1 := by rw [← hw_, hxb_]; exact alloc_size _ _
  rw [hw_] at hal_ hb_
  rw [← hxb_] at hb_
  have Hw1 := Lib.hid hw_
  have Hx1 := Lib.hid hxb_
  have Ha1 := Lib.hid hal_
  have Hb1 := Lib.hid hb_
  have Hz1 := Lib.hid hz_
  clear hal_ hb_ hxb_ hw_ hz_
  obtain ⟨⟨q', c', e', hnc, hcm, hq⟩, hat'⟩ := hps
  simp only [Value.slice.injEq] at e'
  obtain ⟨rfl, -, rfl⟩ := e'
  obtain ⟨rfl, hpb⟩ := hq (by intro e; rw [e] at ha; simp at ha)
  obtain ⟨hxw, i0, i1, i2⟩ := hat' a ha
  have hpa := hpw ps[a] (List.getElem_mem ha)
  obtain ⟨pn, hpn⟩ : ∃ z, z = ps.length := ⟨_, rfl⟩
  rw [← hpn] at ha hnc ⊢
  generalize ps[a] = x at *
  obtain ⟨op, n, t⟩ := x
  simp only at i0 i1 i2
  unfold maxLen at hcm
  replace i0 := Ha1.out.keep i0
  replace i1 := Ha1.out.keep i1
  replace i2 := Ha1.out.keep i2
  replace hm := hm.keep Ha1.out
  have Hs1 := Lib.hid (RStep.of_chg (sb := sb) (F := F) Ha1.out)
  have Hnv := Lib.hid (show ¬ (vb = sb ∨ Foot3 F vb) from fun e => by
    have h0 := Hx1.out
    rcases e with e | e
    · have := hlo0; omega
    · have := (hlow0 vb e).2; omega)
  have v0 : w1.cell? ⟨vb, 0, none⟩ = some (.slice vq vn vc) := by have h := cell_of_row w1 vb 0 _ _ (0, 0) Hb1.out; rw [h]; rfl
  have hal_ := (Chg.refl NoB w1).alloc (.cells #[.int .i64 op, .int .i64 n, .string (tx t)] 46)
  have hb_ := heap_alloc_new w1 (.cells #[.int .i64 op, .int .i64 n, .string (tx t)] 46)
  obtain ⟨xb, hxb_⟩ : ∃ b, b = w1.heap.size := ⟨_, rfl⟩
  obtain ⟨w2, hw_⟩ : ∃ w_, w1.alloc (.cells #[.int .i64 op, .int .i64 n, .string (tx t)] 46) = w_ := ⟨_, rfl⟩
  have hz_ : w2.heap.size = xb + 1 := by rw [← hw_, hxb_]; exact alloc_size _ _
  rw [hw_] at hal_ hb_
  rw [← hxb_] at hb_
  have Hw2 := Lib.hid hw_
  have Hx2 := Lib.hid hxb_
  have Ha2 := Lib.hid hal_
  have Hb2 := Lib.hid hb_
  have Hz2 := Lib.hid hz_
  clear hal_ hb_ hxb_ hw_ hz_
  have Hnx := Lib.hid (show ¬ (xb = sb ∨ Foot3 F xb) from fun e => by
    have h0 := Hx2.out
    rcases e with e | e
    · have := hm.lo; omega
    · have := (hm.low.1 xb e).2; omega)
  have y41 : w1.cell? ⟨sb, 4, none⟩ = some (.int .i64 (a : Int)) := by obtain ⟨_, _, _, _, _, _, h, _⟩ := hm.cells; rw [← ea]; exact h
  replace hm := hm.keep Ha2.out
  replace Hs1 := Lib.hid (Hs1.out.trans (RStep.of_chg Ha2.out))
  have hF4 := hm.field 4 (.int .i64 ((a : Int) + 1)) { s with at' := (a : Int) + 1 } rfl rfl rfl rfl fun ov => rfl
  have hF5 := hF4.1.field 5 (.int .i64 ((s.steps : Int) + 1)) { s with at' := (a : Int) + 1, steps := s.steps + 1 } rfl rfl rfl rfl fun ov => rfl
  have htic : ({ s with at' := (a : Int) + 1, steps := s.steps + 1 } : RS) = ticS s := by unfold ticS; rw [ea]
  rw [htic] at hF5
  have HF4 := Lib.hid hF4
  have HF5 := Lib.hid hF5
  obtain ⟨x0, x1, x2⟩ := var3 Hb2.out
  replace v0 := Ha2.out.keep v0
  obtain ⟨oq, oc, y0, y1, y2, y3, y4, y5, y6, y7⟩ := hm.cells
  have yf := hm.free
  rw [ea] at y4
  have Hvn := Lib.hid hvn
  have Hpa := Lib.hid hpa
  have Hxw := Lib.hid hxw
  have Hwf := Lib.hid (show WfR ps.length (ticS s) from ⟨wf.stack, wf.depth, wf.loc, wf.size, wf.calls, wf.many, wf.out, by show 0 ≤ s.at' + 1 ∧ s.at' + 1 ≤ (ps.length : Int); omega⟩)
  have Hr := Lib.hid hr
  obtain ⟨st, hst2⟩ : ∃ z, z = s.steps := ⟨_, rfl⟩
  rw [← hst2] at y5 hst HF4 HF5
  clear hvn hpn ea hr hF4 hF5 htic hat' hview hgv hlb hbase hpw hpa hxw wf hst2 hq hpb y0 y1 y2 y3 y6 y7 hm
  go_enter Tryz.func33, Tryz.ntmps33
  go_upto_region 1 with fail
  rw [Hw1.out, ← Hx1.out]
  go_upto_region 2 with fail
  rw [Hw2.out, ← Hx2.out]
  clear y41 i0 i1 i2
  go_upto_region 3 with fail
  obtain ⟨w3, hw3⟩ : ∃ z, z = w2.setCell ⟨sb, 4, none⟩ (.int .i64 ((a : Int) + 1)) := ⟨_, rfl⟩
  rw [← hw3] at HF4 HF5 ⊢
  have y5b : w3.cell? ⟨sb, 5, none⟩ = some (.int .i64 (st : Int)) := by obtain ⟨_, _, _, _, _, _, _, h, _, _⟩ := HF4.out.1.cells; exact h
  have yf5 := HF4.out.1.free 5
  clear y4 y5 yf hw3
  go_upto_region 4 with fail
  have hst3 := HF4.out.2.trans HF5.out.2
  have x0b := hst3.chg.cell x0 Hnx.out
  have x1b := hst3.chg.cell x1 Hnx.out
  have x2b := hst3.chg.cell x2 Hnx.out
  have v0b := hst3.chg.cell v0 Hnv.out
  have Hs4 := Lib.hid (Hs1.out.trans hst3)
  have Hm4 := Lib.hid HF5.out.1
  clear y5b yf5 x0 x1 x2 v0 hst3 HF4 HF5
  generalize w3.setCell ⟨sb, 5, none⟩ (.int .i64 ((st : Int) + 1)) = w4 at *
  have HW := Lib.hid (refWord_any op Hxw.out.1.1 Hxw.out.1.2 w4)
  go_wp2_with fail
  refine HW.out.mono ?_
  rintro e w5 ⟨rfl, hc5⟩
  have z0 := hc5.keep x0b
  have z1 := hc5.keep x1b
  have z2 := hc5.keep x2b
  have v5 := hc5.keep v0b
  have Hs5 := Lib.hid (Hs4.out.trans (RStep.of_chg hc5))
  have Hm5 := Lib.hid (Hm4.out.keep hc5)
  clear x0b x1b x2b v0b hc5 HW
  have Hd := Lib.hid Hwf.out.depth
  have hop := Hpa.out.op
  simp only at hop
  generalize ticS s = u at *
  have h30 : op = 1 ∨ op = 2 ∨ op = 3 ∨ op = 4 ∨ op = 5 ∨ op = 6 ∨ op = 7 ∨ op = 8 ∨ op = 9 ∨ op = 10 ∨ op = 11 ∨ op = 12 ∨ op = 13 ∨ op = 14 ∨ op = 15 ∨ op = 16 ∨ op = 17 ∨ op = 18 ∨ op = 19 ∨ op = 20 ∨ op = 21 ∨ op = 22 ∨ op = 23 ∨ op = 24 ∨ op = 25 ∨ op = 26 ∨ op = 27 ∨ op = 28 ∨ op = 29 ∨ op = 30 := by omega
  clear hop
  rcases h30 with rfl | rfl | rfl | rfl | rfl | rfl | rfl | rfl | rfl | rfl | rfl | rfl | rfl | rfl | rfl | rfl | rfl | rfl | rfl | rfl | rfl | rfl | rfl | rfl | rfl | rfl | rfl | rfl | rfl | rfl
  · have hw : tx (wordL 1) = ⟨#[104, 97, 108, 116]⟩ := rfl
    replace Hr := Lib.hid (show r = goesS 1 n u from Hr.out)
    have HX := rgoes_any 1 n t (by decide) Hm5.out Hd.out Hwf.out.many
    rw [hw] at HX
    have HX' := Lib.hid HX
    clear HX
    go_wp2_with fail
    refine (HX'.out).mono ?_
    rintro e w6 ⟨rfl, F6, hs6, hm6⟩
    have Hs6 := Lib.hid (Hs5.out.trans hs6)
    have Hm6 := Lib.hid hm6
    clear hs6 hm6
    go_wp2_with fail
    first | go_end0 | refine bodyPost_ret (results_none rfl _ _ _) rfl ?_
    exact ⟨rfl, _, Hs6.out, by rw [Hr.out]; exact Hm6.out⟩
  · have hw : tx (wordL 2) = ⟨#[112, 117, 115, 104]⟩ := rfl
    replace Hr := Lib.hid (show r = putS (numV n) u from Hr.out)
    go_wp2_with fail
    refine (rnum_any n Hm5.out Hd.out).mono ?_
    rintro e w6 ⟨rfl, F6, hs6, hm6⟩
    have Hs6 := Lib.hid (Hs5.out.trans hs6)
    have Hm6 := Lib.hid hm6
    clear hs6 hm6
    go_wp2_with fail
    first | go_end0 | refine bodyPost_ret (results_none rfl _ _ _) rfl ?_
    exact ⟨rfl, _, Hs6.out, by rw [Hr.out]; exact Hm6.out⟩
  · have hw : tx (wordL 3) = ⟨#[116, 101, 120, 116]⟩ := rfl
    replace Hr := Lib.hid (show r = putS (txtV t) u from Hr.out)
    go_wp2_with fail
    refine (rtext_any t Hm5.out Hd.out).mono ?_
    rintro e w6 ⟨rfl, F6, hs6, hm6⟩
    have Hs6 := Lib.hid (Hs5.out.trans hs6)
    have Hm6 := Lib.hid hm6
    clear hs6 hm6
    go_wp2_with fail
    first | go_end0 | refine bodyPost_ret (results_none rfl _ _ _) rfl ?_
    exact ⟨rfl, _, Hs6.out, by rw [Hr.out]; exact Hm6.out⟩
  · have hw : tx (wordL 4) = ⟨#[112, 111, 112]⟩ := rfl
    replace Hr := Lib.hid (show r = takeS [97] u from Hr.out)
    have HT := Lib.hid (rtake_any [97] (by decide) (by decide) Hm5.out Hd.out)
    go_wp2_with fail
    refine HT.out.mono ?_
    rintro e w6 ⟨q6, c6, rfl, hr6, F6, hs6, hm6, hn6⟩
    have Hs6 := Lib.hid (Hs5.out.trans hs6)
    have Hm6 := Lib.hid hm6
    clear hr6 hs6 hm6 hn6
    go_wp2_with fail
    first | go_end0 | refine bodyPost_ret (results_none rfl _ _ _) rfl ?_
    exact ⟨rfl, _, Hs6.out, by rw [Hr.out]; exact Hm6.out⟩
  · have hw : tx (wordL 5) = ⟨#[100, 117, 112]⟩ := rfl
    have HT := rtake_any [97] (by decide) (by decide) Hm5.out Hd.out
    obtain ⟨⟨a0, a1, a2⟩, hl⟩ := takeL_one 97 u
    have hr := (show r = (let v := (takeL [97] u).getD 0 (numV 0); putS v (putS v (takeS [97] u))) from Hr.out)
    rw [hl] at hr
    replace Hr := Lib.hid (show r = putS (a0, a1, a2) (putS (a0, a1, a2) (takeS [97] u)) from hr)
    have Hwt := Lib.hid (take_wfr Hwf.out [97])
    unfold TakeP at HT
    rw [hl] at HT
    generalize takeS [97] u = t6 at *
    have HT' := Lib.hid HT
    clear HT hr hl
    go_wp2_with fail
    refine HT'.out.mono ?_
    rintro e w6 ⟨q6, c6, rfl, hr6, F6, hs6, hm6, hn6⟩
    obtain ⟨h3, h4, g, rfl, hcl⟩ := vals_cells hr6 (by decide) rfl
    unfold maxLen at h4
    have Hgn := Lib.hid (show ¬ (g = sb ∨ Foot3 F6 g) from fun e => by
      rcases e with e | e
      · have h1 := (World.ownsRow.lt hr6 g rfl).1; have h2 := Hm5.out.lo; omega
      · exact hn6 g rfl e)
    have Hk6 := Lib.hid hs6.chg
    have Hs6 := Lib.hid (Hs5.out.trans hs6)
    have Hm6 := Lib.hid hm6
    obtain ⟨d0, d1, d2⟩ := hcl 0 (by show 0 < 1; decide)
    clear hr6 hs6 hm6 hn6 HT'
    change w6.cell? ⟨g, 0, none⟩ = some (.bool a0) at d0
    change w6.cell? ⟨g, 1, none⟩ = some (.int .i64 a1) at d1
    change w6.cell? ⟨g, 2, none⟩ = some (.string (tx a2)) at d2
    clear hcl
    go_wp2_with fail
    refine (rput_one (a0, a1, a2) Hm6.out Hwt.out.depth).mono ?_
    rintro e w7 ⟨rfl, F7, hs7, hm7⟩
    have Hs7 := Lib.hid (Hs6.out.trans hs7)
    have Hm7 := Lib.hid hm7
    replace d0 := hs7.chg.cell d0 Hgn.out
    replace d1 := hs7.chg.cell d1 Hgn.out
    replace d2 := hs7.chg.cell d2 Hgn.out
    clear hs7 hm7
    go_wp2_with fail
    refine (rput_one (a0, a1, a2) Hm7.out (put_depth Hwt.out.depth _)).mono ?_
    rintro e w8 ⟨rfl, F8, hs8, hm8⟩
    have Hs8 := Lib.hid (Hs7.out.trans hs8)
    have Hm8 := Lib.hid hm8
    clear hs8 hm8
    go_wp2_with fail
    first | go_end0 | refine bodyPost_ret (results_none rfl _ _ _) rfl ?_
    exact ⟨rfl, _, Hs8.out, by rw [Hr.out]; exact Hm8.out⟩
  · have hw : tx (wordL 6) = ⟨#[115, 119, 97, 112]⟩ := rfl
    have HT := rtake_any [97, 97] (by decide) (by decide) Hm5.out Hd.out
    obtain ⟨⟨a0, a1, a2⟩, ⟨b0, b1, b2⟩, hl⟩ := takeL_two 97 97 u
    have hr := (show r = putS ((takeL [97, 97] u).getD 0 (numV 0)) (putS ((takeL [97, 97] u).getD 1 (numV 0)) (takeS [97, 97] u)) from Hr.out)
    rw [hl] at hr
    replace Hr := Lib.hid (show r = putS (a0, a1, a2) (putS (b0, b1, b2) (takeS [97, 97] u)) from hr)
    have Hwt := Lib.hid (take_wfr Hwf.out [97, 97])
    unfold TakeP at HT
    rw [hl] at HT
    generalize takeS [97, 97] u = t6 at *
    have HT' := Lib.hid HT
    clear HT hr hl
    go_wp2_with fail
    refine HT'.out.mono ?_
    rintro e w6 ⟨q6, c6, rfl, hr6, F6, hs6, hm6, hn6⟩
    obtain ⟨h3, h4, g, rfl, hcl⟩ := vals_cells hr6 (by decide) rfl
    unfold maxLen at h4
    have Hgn := Lib.hid (show ¬ (g = sb ∨ Foot3 F6 g) from fun e => by
      rcases e with e | e
      · have h1 := (World.ownsRow.lt hr6 g rfl).1; have h2 := Hm5.out.lo; omega
      · exact hn6 g rfl e)
    have Hk6 := Lib.hid hs6.chg
    have Hs6 := Lib.hid (Hs5.out.trans hs6)
    have Hm6 := Lib.hid hm6
    obtain ⟨d0, d1, d2⟩ := hcl 0 (by show 0 < 2; decide)
    clear hr6 hs6 hm6 hn6 HT'
    change w6.cell? ⟨g, 0, none⟩ = some (.bool a0) at d0
    change w6.cell? ⟨g, 1, none⟩ = some (.int .i64 a1) at d1
    change w6.cell? ⟨g, 2, none⟩ = some (.string (tx a2)) at d2
    obtain ⟨d3, d4, d5⟩ := hcl 1 (by show 1 < 2; decide)
    change w6.cell? ⟨g, 3, none⟩ = some (.bool b0) at d3
    change w6.cell? ⟨g, 4, none⟩ = some (.int .i64 b1) at d4
    change w6.cell? ⟨g, 5, none⟩ = some (.string (tx b2)) at d5
    clear hcl
    go_wp2_with fail
    refine (rput_one (b0, b1, b2) Hm6.out Hwt.out.depth).mono ?_
    rintro e w7 ⟨rfl, F7, hs7, hm7⟩
    have Hs7 := Lib.hid (Hs6.out.trans hs7)
    have Hm7 := Lib.hid hm7
    replace d0 := hs7.chg.cell d0 Hgn.out
    replace d1 := hs7.chg.cell d1 Hgn.out
    replace d2 := hs7.chg.cell d2 Hgn.out
    clear hs7 hm7 d3 d4 d5
    go_wp2_with fail
    refine (rput_one (a0, a1, a2) Hm7.out (put_depth Hwt.out.depth _)).mono ?_
    rintro e w8 ⟨rfl, F8, hs8, hm8⟩
    have Hs8 := Lib.hid (Hs7.out.trans hs8)
    have Hm8 := Lib.hid hm8
    clear hs8 hm8
    go_wp2_with fail
    first | go_end0 | refine bodyPost_ret (results_none rfl _ _ _) rfl ?_
    exact ⟨rfl, _, Hs8.out, by rw [Hr.out]; exact Hm8.out⟩
  · have hw : tx (wordL 7) = ⟨#[108, 111, 97, 100]⟩ := rfl
    have hr := (show r = putS (u.loc.getD n.toNat (numV 0)) u from Hr.out)
    have hn := Hpa.out.cell (.inl rfl)
    simp only at hn
    obtain ⟨m, rfl⟩ : ∃ m : Nat, n = m := ⟨n.toNat, by omega⟩
    have hm16 : m < 16 := by omega
    have hml : m < u.loc.length := by rw [Hm5.out.loc]; exact hm16
    rw [Int.toNat_natCast, List.getD_eq_getElem?_getD, List.getElem?_eq_getElem hml, Option.getD_some] at hr
    obtain ⟨q, c, e, h1, h2⟩ := row_shape Hm5.out.ce
    have hce : w5.ownsRow lo 68 3 (.slice q 16 c) 16 (valsV u.loc) := by rw [← e]; exact Hm5.out.ce
    obtain ⟨h3, h4, g, rfl, hcl⟩ := vals_cells hce (by decide) Hm5.out.loc
    obtain ⟨d0, d1, d2⟩ := hcl m hml
    obtain ⟨v, hv⟩ : ∃ z, z = u.loc[m] := ⟨_, rfl⟩
    rw [← hv] at d0 d1 d2 hr
    clear hv
    obtain ⟨a0, a1, a2⟩ := v
    try simp only at d0 d1 d2
    replace Hr := Lib.hid hr
    have y1 : w5.cell? ⟨sb, 1, none⟩ = some (.slice (some ⟨g, 0, none⟩) 16 c) := by obtain ⟨_, _, _, h, _⟩ := Hm5.out.cells; rw [← e]; exact h
    unfold maxLen at h4
    have hm0 : (0 : Int) ≤ (m : Int) := Int.natCast_nonneg _
    have hm1 : (m : Int) < 16 := by omega
    clear hr hn hml e h1 h2 hce hcl
    go_upto_region 22 with fail
    go_still_tail 9, (by kernel_rfl)
    change wpList _ _ _ _ _ w5.drew
    have Hs6 := Lib.hid (Hs5.out.trans (RStep.of_chg (Chg.refl NoB w5).drew))
    have Hm6 := Lib.hid (Hm5.out.keep (Chg.refl NoB w5).drew)
    generalize w5.drew = w6 at *
    go_wp2_with fail
    refine (rput_one (a0, a1, a2) Hm6.out Hd.out).mono ?_
    rintro e w7 ⟨rfl, F7, hs7, hm7⟩
    have Hs7 := Lib.hid (Hs6.out.trans hs7)
    have Hm7 := Lib.hid hm7
    clear hs7 hm7
    go_wp2_with fail
    first | go_end0 | refine bodyPost_ret (results_none rfl _ _ _) rfl ?_
    exact ⟨rfl, _, Hs7.out, by rw [Hr.out]; exact Hm7.out⟩
  · have hw : tx (wordL 8) = ⟨#[115, 116, 111, 114, 101]⟩ := rfl
    have HT := rtake_any [97] (by decide) (by decide) Hm5.out Hd.out
    obtain ⟨⟨a0, a1, a2⟩, hl⟩ := takeL_one 97 u
    have hr := (show r = (let v := (takeL [97] u).getD 0 (numV 0); let t := takeS [97] u; if t.fault = 0 then { t with loc := t.loc.set n.toNat v } else t) from Hr.out)
    rw [hl] at hr
    replace Hr := Lib.hid (show r = (if (takeS [97] u).fault = 0 then { takeS [97] u with loc := (takeS [97] u).loc.set n.toNat (a0, a1, a2) } else takeS [97] u) from hr)
    have hn := Hpa.out.cell (.inr rfl)
    simp only at hn
    obtain ⟨m, rfl⟩ : ∃ m : Nat, n = m := ⟨n.toNat, by omega⟩
    have hm16 : m < 16 := by omega
    rw [Int.toNat_natCast] at Hr
    have Hwt := Lib.hid (take_wfr Hwf.out [97])
    unfold TakeP at HT
    rw [hl] at HT
    generalize takeS [97] u = t6 at *
    have HT' := Lib.hid HT
    clear HT hr hl
    go_wp2_with fail
    refine HT'.out.mono ?_
    rintro e w6 ⟨q6, c6, rfl, hr6, F6, hs6, hm6, hn6⟩
    obtain ⟨h3, h4, g, rfl, hcl⟩ := vals_cells hr6 (by decide) rfl
    unfold maxLen at h4
    have Hgn := Lib.hid (show ¬ (g = sb ∨ Foot3 F6 g) from fun e => by
      rcases e with e | e
      · have h1 := (World.ownsRow.lt hr6 g rfl).1; have h2 := Hm5.out.lo; omega
      · exact hn6 g rfl e)
    have Hk6 := Lib.hid hs6.chg
    have Hs6 := Lib.hid (Hs5.out.trans hs6)
    have Hm6 := Lib.hid hm6
    obtain ⟨d0, d1, d2⟩ := hcl 0 (by show 0 < 1; decide)
    clear hr6 hs6 hm6 hn6 HT'
    change w6.cell? ⟨g, 0, none⟩ = some (.bool a0) at d0
    change w6.cell? ⟨g, 1, none⟩ = some (.int .i64 a1) at d1
    change w6.cell? ⟨g, 2, none⟩ = some (.string (tx a2)) at d2
    have y7 : w6.cell? ⟨sb, 7, none⟩ = some (.int .i64 t6.fault) := by obtain ⟨_, _, _, _, _, _, _, _, _, h⟩ := Hm6.out.cells; exact h
    clear hcl
    have z1b := Hk6.out.cell z1 Hnx.out
    by_cases hf : t6.fault = 0
    case neg =>
      have Hr := Lib.hid (show r = t6 by rw [Hr.out, if_neg hf])
      have hf2 : (t6.fault == 0) = false := by rw [beq_eq_false_iff_ne]; exact hf
      obtain ⟨ft, hft⟩ : ∃ z, z = t6.fault := ⟨_, rfl⟩
      rw [← hft] at hf2 y7
      clear hf hft
      go_wp2_with fail
      first | go_end0 | refine bodyPost_ret (results_none rfl _ _ _) rfl ?_
      exact ⟨rfl, _, Hs6.out, by rw [Hr.out]; exact Hm6.out⟩
    replace Hr := Lib.hid (show r = { t6 with loc := t6.loc.set m (a0, a1, a2) } by rw [Hr.out, if_pos hf])
    rw [hf] at y7
    obtain ⟨q, c, hF, k1, k2⟩ := row_shape Hm6.out.ce
    have hce : w6.ownsRow lo 68 3 (.slice q 16 c) 16 (valsV t6.loc) := by rw [← hF]; exact Hm6.out.ce
    obtain ⟨k3, k4, g2, rfl, hcl2⟩ := vals_cells hce (by decide) Hm6.out.loc
    have y1 : w6.cell? ⟨sb, 1, none⟩ = some (.slice (some ⟨g2, 0, none⟩) 16 c) := by obtain ⟨_, _, _, h, _⟩ := Hm6.out.cells; rw [← hF]; exact h
    obtain ⟨e0, e1, e2⟩ := hcl2 m (by rw [Hm6.out.loc]; exact hm16)
    have HL := Lib.hid (Hm6.out.locS hF m hm16 (a0, a1, a2))
    have hfr := Hm6.out.cellFree hF rfl
    unfold maxLen at k4
    have hm0 : (0 : Int) ≤ (m : Int) := Int.natCast_nonneg _
    have hm1 : (m : Int) < 16 := by omega
    clear hf hn k1 k2 hce hcl2
    go_upto_region 26 with fail
    go_still_tail 10, (by kernel_rfl)
    change wpList _ _ _ _ _ w6.drew
    have Hs7 := Lib.hid ((Hs6.out.trans HL.out.2).trans (RStep.of_chg (Chg.refl NoB _).drew))
    have Hm7 := Lib.hid (HL.out.1.keep (Chg.refl NoB _).drew)
    clear HL
    go_wp2_with fail
    first | go_end0 | refine bodyPost_ret (results_none rfl _ _ _) rfl ?_
    exact ⟨rfl, _, Hs7.out, by rw [Hr.out]; exact Hm7.out⟩
  · have hw : tx (wordL 9) = ⟨#[97, 100, 100]⟩ := rfl
    replace Hr := Lib.hid (show r = reckS 9 u from Hr.out)
    have HX := rreck_any 9 (by decide) Hm5.out Hd.out (fun v hv => ⟨(Hwf.out.stack v hv).lo, (Hwf.out.stack v hv).hi⟩)
    rw [hw] at HX
    have HX' := Lib.hid HX
    clear HX
    go_wp2_with fail
    refine (HX'.out).mono ?_
    rintro e w6 ⟨rfl, F6, hs6, hm6⟩
    have Hs6 := Lib.hid (Hs5.out.trans hs6)
    have Hm6 := Lib.hid hm6
    clear hs6 hm6
    go_wp2_with fail
    first | go_end0 | refine bodyPost_ret (results_none rfl _ _ _) rfl ?_
    exact ⟨rfl, _, Hs6.out, by rw [Hr.out]; exact Hm6.out⟩
  · have hw : tx (wordL 10) = ⟨#[115, 117, 98]⟩ := rfl
    replace Hr := Lib.hid (show r = reckS 10 u from Hr.out)
    have HX := rreck_any 10 (by decide) Hm5.out Hd.out (fun v hv => ⟨(Hwf.out.stack v hv).lo, (Hwf.out.stack v hv).hi⟩)
    rw [hw] at HX
    have HX' := Lib.hid HX
    clear HX
    go_wp2_with fail
    refine (HX'.out).mono ?_
    rintro e w6 ⟨rfl, F6, hs6, hm6⟩
    have Hs6 := Lib.hid (Hs5.out.trans hs6)
    have Hm6 := Lib.hid hm6
    clear hs6 hm6
    go_wp2_with fail
    first | go_end0 | refine bodyPost_ret (results_none rfl _ _ _) rfl ?_
    exact ⟨rfl, _, Hs6.out, by rw [Hr.out]; exact Hm6.out⟩
  · have hw : tx (wordL 11) = ⟨#[109, 117, 108]⟩ := rfl
    replace Hr := Lib.hid (show r = reckS 11 u from Hr.out)
    have HX := rreck_any 11 (by decide) Hm5.out Hd.out (fun v hv => ⟨(Hwf.out.stack v hv).lo, (Hwf.out.stack v hv).hi⟩)
    rw [hw] at HX
    have HX' := Lib.hid HX
    clear HX
    go_wp2_with fail
    refine (HX'.out).mono ?_
    rintro e w6 ⟨rfl, F6, hs6, hm6⟩
    have Hs6 := Lib.hid (Hs5.out.trans hs6)
    have Hm6 := Lib.hid hm6
    clear hs6 hm6
    go_wp2_with fail
    first | go_end0 | refine bodyPost_ret (results_none rfl _ _ _) rfl ?_
    exact ⟨rfl, _, Hs6.out, by rw [Hr.out]; exact Hm6.out⟩
  · have hw : tx (wordL 12) = ⟨#[100, 105, 118]⟩ := rfl
    replace Hr := Lib.hid (show r = reckS 12 u from Hr.out)
    have HX := rreck_any 12 (by decide) Hm5.out Hd.out (fun v hv => ⟨(Hwf.out.stack v hv).lo, (Hwf.out.stack v hv).hi⟩)
    rw [hw] at HX
    have HX' := Lib.hid HX
    clear HX
    go_wp2_with fail
    refine (HX'.out).mono ?_
    rintro e w6 ⟨rfl, F6, hs6, hm6⟩
    have Hs6 := Lib.hid (Hs5.out.trans hs6)
    have Hm6 := Lib.hid hm6
    clear hs6 hm6
    go_wp2_with fail
    first | go_end0 | refine bodyPost_ret (results_none rfl _ _ _) rfl ?_
    exact ⟨rfl, _, Hs6.out, by rw [Hr.out]; exact Hm6.out⟩
  · have hw : tx (wordL 13) = ⟨#[109, 111, 100]⟩ := rfl
    replace Hr := Lib.hid (show r = reckS 13 u from Hr.out)
    have HX := rreck_any 13 (by decide) Hm5.out Hd.out (fun v hv => ⟨(Hwf.out.stack v hv).lo, (Hwf.out.stack v hv).hi⟩)
    rw [hw] at HX
    have HX' := Lib.hid HX
    clear HX
    go_wp2_with fail
    refine (HX'.out).mono ?_
    rintro e w6 ⟨rfl, F6, hs6, hm6⟩
    have Hs6 := Lib.hid (Hs5.out.trans hs6)
    have Hm6 := Lib.hid hm6
    clear hs6 hm6
    go_wp2_with fail
    first | go_end0 | refine bodyPost_ret (results_none rfl _ _ _) rfl ?_
    exact ⟨rfl, _, Hs6.out, by rw [Hr.out]; exact Hm6.out⟩
  · have hw : tx (wordL 14) = ⟨#[108, 101, 115, 115]⟩ := rfl
    have HT := rtake_any [97, 97] (by decide) (by decide) Hm5.out Hd.out
    obtain ⟨⟨a0, a1, a2⟩, ⟨b0, b1, b2⟩, hl⟩ := takeL_two 97 97 u
    have hr := (show r = (let a := (takeL [97, 97] u).getD 0 (numV 0); let b := (takeL [97, 97] u).getD 1 (numV 0); let t := takeS [97, 97] u; let t := if t.fault = 0 ∧ a.1 ≠ b.1 then failS 41 t else t; if a.1 = true then putS (boolV (bl a.2.2 b.2.2)) t else putS (boolV (decide (a.2.1 < b.2.1))) t) from Hr.out)
    rw [hl] at hr
    replace Hr := Lib.hid (show r = (let t := if (takeS [97, 97] u).fault = 0 ∧ a0 ≠ b0 then failS 41 (takeS [97, 97] u) else takeS [97, 97] u; if a0 = true then putS (boolV (bl a2 b2)) t else putS (boolV (decide (a1 < b1))) t) from hr)
    have Hwt := Lib.hid (take_wfr Hwf.out [97, 97])
    unfold TakeP at HT
    rw [hl] at HT
    generalize takeS [97, 97] u = t6 at *
    have HT' := Lib.hid HT
    clear HT hr hl
    go_wp2_with fail
    refine HT'.out.mono ?_
    rintro e w6 ⟨q6, c6, rfl, hr6, F6, hs6, hm6, hn6⟩
    obtain ⟨h3, h4, g, rfl, hcl⟩ := vals_cells hr6 (by decide) rfl
    unfold maxLen at h4
    have Hgn := Lib.hid (show ¬ (g = sb ∨ Foot3 F6 g) from fun e => by
      rcases e with e | e
      · have h1 := (World.ownsRow.lt hr6 g rfl).1; have h2 := Hm5.out.lo; omega
      · exact hn6 g rfl e)
    have Hk6 := Lib.hid hs6.chg
    have Hs6 := Lib.hid (Hs5.out.trans hs6)
    have Hm6 := Lib.hid hm6
    obtain ⟨d0, d1, d2⟩ := hcl 0 (by show 0 < 2; decide)
    clear hr6 hs6 hm6 hn6 HT'
    change w6.cell? ⟨g, 0, none⟩ = some (.bool a0) at d0
    change w6.cell? ⟨g, 1, none⟩ = some (.int .i64 a1) at d1
    change w6.cell? ⟨g, 2, none⟩ = some (.string (tx a2)) at d2
    obtain ⟨d3, d4, d5⟩ := hcl 1 (by show 1 < 2; decide)
    change w6.cell? ⟨g, 3, none⟩ = some (.bool b0) at d3
    change w6.cell? ⟨g, 4, none⟩ = some (.int .i64 b1) at d4
    change w6.cell? ⟨g, 5, none⟩ = some (.string (tx b2)) at d5
    have y7 : w6.cell? ⟨sb, 7, none⟩ = some (.int .i64 t6.fault) := by obtain ⟨_, _, _, _, _, _, _, _, _, h⟩ := Hm6.out.cells; exact h
    clear hcl
    have hls : Op.bytesLess (tx a2).toList (tx b2).toList = bl a2 b2 := by rw [Lib.toList_data, Lib.toList_data, tx_list, tx_list]; rfl
    obtain ⟨ft, hft⟩ : ∃ z, z = t6.fault := ⟨_, rfl⟩
    have Hft := Lib.hid hft
    rw [← hft] at y7
    clear hft
    go_upto_region 29 with fail
    have hd41 : (failS 41 t6).stack.length ≤ 64 := (fail_wfr Hwt.out 41).depth
    have Hd41 := Lib.hid hd41
    clear hd41
    by_cases hf : ft = 0
    · subst hf
      have Ht0 := Lib.hid (show t6.fault = 0 from Hft.out.symm)
      cases a0 <;> cases b0
      · skip
        have q7 : ∀ n, (w6.drewN n).cell? ⟨sb, 7, none⟩ = some (.int .i64 0) := fun n => y7
        have q0 : ∀ n, (w6.drewN n).cell? ⟨g, 0, none⟩ = some (.bool false) := fun n => d0
        have q3 : ∀ n, (w6.drewN n).cell? ⟨g, 3, none⟩ = some (.bool false) := fun n => d3
        go_quiet (fail)
        have hch := (Chg.refl NoB w6).drewN nq
        have Hs7 := Lib.hid (Hs6.out.trans (RStep.of_chg hch))
        have Hm7 := Lib.hid (Hm6.out.keep hch)
        replace d0 := hch.keep d0
        replace d1 := hch.keep d1
        replace d2 := hch.keep d2
        replace d3 := hch.keep d3
        replace d4 := hch.keep d4
        replace d5 := hch.keep d5
        clear q7 q0 q3 y7 hch
        generalize w6.drewN nq = w7 at *
        replace Hr := Lib.hid (show r = putS (boolV (decide (a1 < b1))) t6 by rw [Hr.out]; simp)
        have Hd9 := Lib.hid Hwt.out.depth
        go_upto_region 33 with fail
        have hA : w7.cell? ⟨g, 1, none⟩ = some (.int .i64 a1) ∧ w7.cell? ⟨g, 4, none⟩ = some (.int .i64 b1) := ⟨d1, d4⟩
        have hB : w7.drew.cell? ⟨g, 1, none⟩ = some (.int .i64 a1) ∧ w7.drew.cell? ⟨g, 4, none⟩ = some (.int .i64 b1) := ⟨d1, d4⟩
        have HX := Lib.hid (rtruth_any (decide (a1 < b1)) (Hm7.out.keep (Chg.refl NoB w7).drew) Hd9.out)
        go_region_held3 (fun w' => w'.cell? ⟨g, 1, none⟩ = some (.int .i64 a1) ∧ w'.cell? ⟨g, 4, none⟩ = some (.int .i64 b1)) (first | with_reducible exact hA | with_reducible exact hB | with_reducible exact hC) ((go_at_call 54; go_must (refine HX.out.mono ?_); rintro e w9 ⟨rfl, F9, hs9, hm9⟩; have hC : w9.cell? ⟨g, 1, none⟩ = some (.int .i64 a1) ∧ w9.cell? ⟨g, 4, none⟩ = some (.int .i64 b1) := ⟨hs9.chg.cell hB.1 Hgn.out, hs9.chg.cell hB.2 Hgn.out⟩; have Hs9 := Lib.hid ((Hs7.out.trans (RStep.of_chg (Chg.refl NoB w7).drew)).trans hs9); have Hm9 := Lib.hid hm9; clear hs9 hm9))
        go_wp2_with fail
        first | go_end0 | refine bodyPost_ret (results_none rfl _ _ _) rfl ?_
        exact ⟨rfl, _, Hs9.out, by rw [Hr.out]; exact Hm9.out⟩
      · skip
        have q7 : ∀ n, (w6.drewN n).cell? ⟨sb, 7, none⟩ = some (.int .i64 0) := fun n => y7
        have q0 : ∀ n, (w6.drewN n).cell? ⟨g, 0, none⟩ = some (.bool false) := fun n => d0
        have q3 : ∀ n, (w6.drewN n).cell? ⟨g, 3, none⟩ = some (.bool true) := fun n => d3
        go_quiet (fail)
        have hch := (Chg.refl NoB w6).drewN nq
        have Hs7 := Lib.hid (Hs6.out.trans (RStep.of_chg hch))
        have Hm7 := Lib.hid (Hm6.out.keep hch)
        replace d0 := hch.keep d0
        replace d1 := hch.keep d1
        replace d2 := hch.keep d2
        replace d3 := hch.keep d3
        replace d4 := hch.keep d4
        replace d5 := hch.keep d5
        clear q7 q0 q3 y7 hch
        generalize w6.drewN nq = w7 at *
        replace Hr := Lib.hid (show r = putS (boolV (decide (a1 < b1))) (failS 41 t6) by rw [Hr.out]; simp [Ht0.out])
        go_wp2_with fail
        refine (rfail_same 41 Hm7.out).mono ?_
        rintro e w8 ⟨rfl, hs8, hm8⟩
        replace d0 := hs8.chg.cell d0 Hgn.out
        replace d1 := hs8.chg.cell d1 Hgn.out
        replace d2 := hs8.chg.cell d2 Hgn.out
        replace d3 := hs8.chg.cell d3 Hgn.out
        replace d4 := hs8.chg.cell d4 Hgn.out
        replace d5 := hs8.chg.cell d5 Hgn.out
        have Hs8 := Lib.hid (Hs7.out.trans hs8)
        have Hm8 := Lib.hid hm8
        clear hs8 hm8
        have Hd9 := Lib.hid Hd41.out
        go_upto_region 33 with fail
        have hA : w8.cell? ⟨g, 1, none⟩ = some (.int .i64 a1) ∧ w8.cell? ⟨g, 4, none⟩ = some (.int .i64 b1) := ⟨d1, d4⟩
        have hB : w8.drew.cell? ⟨g, 1, none⟩ = some (.int .i64 a1) ∧ w8.drew.cell? ⟨g, 4, none⟩ = some (.int .i64 b1) := ⟨d1, d4⟩
        have HX := Lib.hid (rtruth_any (decide (a1 < b1)) (Hm8.out.keep (Chg.refl NoB w8).drew) Hd9.out)
        go_region_held3 (fun w' => w'.cell? ⟨g, 1, none⟩ = some (.int .i64 a1) ∧ w'.cell? ⟨g, 4, none⟩ = some (.int .i64 b1)) (first | with_reducible exact hA | with_reducible exact hB | with_reducible exact hC) ((go_at_call 54; go_must (refine HX.out.mono ?_); rintro e w9 ⟨rfl, F9, hs9, hm9⟩; have hC : w9.cell? ⟨g, 1, none⟩ = some (.int .i64 a1) ∧ w9.cell? ⟨g, 4, none⟩ = some (.int .i64 b1) := ⟨hs9.chg.cell hB.1 Hgn.out, hs9.chg.cell hB.2 Hgn.out⟩; have Hs9 := Lib.hid ((Hs8.out.trans (RStep.of_chg (Chg.refl NoB w8).drew)).trans hs9); have Hm9 := Lib.hid hm9; clear hs9 hm9))
        go_wp2_with fail
        first | go_end0 | refine bodyPost_ret (results_none rfl _ _ _) rfl ?_
        exact ⟨rfl, _, Hs9.out, by rw [Hr.out]; exact Hm9.out⟩
      · skip
        have q7 : ∀ n, (w6.drewN n).cell? ⟨sb, 7, none⟩ = some (.int .i64 0) := fun n => y7
        have q0 : ∀ n, (w6.drewN n).cell? ⟨g, 0, none⟩ = some (.bool true) := fun n => d0
        have q3 : ∀ n, (w6.drewN n).cell? ⟨g, 3, none⟩ = some (.bool false) := fun n => d3
        go_quiet (fail)
        have hch := (Chg.refl NoB w6).drewN nq
        have Hs7 := Lib.hid (Hs6.out.trans (RStep.of_chg hch))
        have Hm7 := Lib.hid (Hm6.out.keep hch)
        replace d0 := hch.keep d0
        replace d1 := hch.keep d1
        replace d2 := hch.keep d2
        replace d3 := hch.keep d3
        replace d4 := hch.keep d4
        replace d5 := hch.keep d5
        clear q7 q0 q3 y7 hch
        generalize w6.drewN nq = w7 at *
        replace Hr := Lib.hid (show r = putS (boolV (bl a2 b2)) (failS 41 t6) by rw [Hr.out]; simp [Ht0.out])
        go_wp2_with fail
        refine (rfail_same 41 Hm7.out).mono ?_
        rintro e w8 ⟨rfl, hs8, hm8⟩
        replace d0 := hs8.chg.cell d0 Hgn.out
        replace d1 := hs8.chg.cell d1 Hgn.out
        replace d2 := hs8.chg.cell d2 Hgn.out
        replace d3 := hs8.chg.cell d3 Hgn.out
        replace d4 := hs8.chg.cell d4 Hgn.out
        replace d5 := hs8.chg.cell d5 Hgn.out
        have Hs8 := Lib.hid (Hs7.out.trans hs8)
        have Hm8 := Lib.hid hm8
        clear hs8 hm8
        have Hd9 := Lib.hid Hd41.out
        go_upto_region 32 with fail
        have hA : w8.cell? ⟨g, 2, none⟩ = some (.string (tx a2)) ∧ w8.cell? ⟨g, 5, none⟩ = some (.string (tx b2)) := ⟨d2, d5⟩
        have hB : w8.drew.cell? ⟨g, 2, none⟩ = some (.string (tx a2)) ∧ w8.drew.cell? ⟨g, 5, none⟩ = some (.string (tx b2)) := ⟨d2, d5⟩
        have HX := Lib.hid (rtruth_any (bl a2 b2) (Hm8.out.keep (Chg.refl NoB w8).drew) Hd9.out)
        go_region_held3 (fun w' => w'.cell? ⟨g, 2, none⟩ = some (.string (tx a2)) ∧ w'.cell? ⟨g, 5, none⟩ = some (.string (tx b2))) (first | with_reducible exact hA | with_reducible exact hB | with_reducible exact hC) ((go_at_call 54; go_must (refine HX.out.mono ?_); rintro e w9 ⟨rfl, F9, hs9, hm9⟩; have hC : w9.cell? ⟨g, 2, none⟩ = some (.string (tx a2)) ∧ w9.cell? ⟨g, 5, none⟩ = some (.string (tx b2)) := ⟨hs9.chg.cell hB.1 Hgn.out, hs9.chg.cell hB.2 Hgn.out⟩; have Hs9 := Lib.hid ((Hs8.out.trans (RStep.of_chg (Chg.refl NoB w8).drew)).trans hs9); have Hm9 := Lib.hid hm9; clear hs9 hm9))
        go_wp2_with fail
        first | go_end0 | refine bodyPost_ret (results_none rfl _ _ _) rfl ?_
        exact ⟨rfl, _, Hs9.out, by rw [Hr.out]; exact Hm9.out⟩
      · skip
        have q7 : ∀ n, (w6.drewN n).cell? ⟨sb, 7, none⟩ = some (.int .i64 0) := fun n => y7
        have q0 : ∀ n, (w6.drewN n).cell? ⟨g, 0, none⟩ = some (.bool true) := fun n => d0
        have q3 : ∀ n, (w6.drewN n).cell? ⟨g, 3, none⟩ = some (.bool true) := fun n => d3
        go_quiet (fail)
        have hch := (Chg.refl NoB w6).drewN nq
        have Hs7 := Lib.hid (Hs6.out.trans (RStep.of_chg hch))
        have Hm7 := Lib.hid (Hm6.out.keep hch)
        replace d0 := hch.keep d0
        replace d1 := hch.keep d1
        replace d2 := hch.keep d2
        replace d3 := hch.keep d3
        replace d4 := hch.keep d4
        replace d5 := hch.keep d5
        clear q7 q0 q3 y7 hch
        generalize w6.drewN nq = w7 at *
        replace Hr := Lib.hid (show r = putS (boolV (bl a2 b2)) t6 by rw [Hr.out]; simp)
        have Hd9 := Lib.hid Hwt.out.depth
        go_upto_region 32 with fail
        have hA : w7.cell? ⟨g, 2, none⟩ = some (.string (tx a2)) ∧ w7.cell? ⟨g, 5, none⟩ = some (.string (tx b2)) := ⟨d2, d5⟩
        have hB : w7.drew.cell? ⟨g, 2, none⟩ = some (.string (tx a2)) ∧ w7.drew.cell? ⟨g, 5, none⟩ = some (.string (tx b2)) := ⟨d2, d5⟩
        have HX := Lib.hid (rtruth_any (bl a2 b2) (Hm7.out.keep (Chg.refl NoB w7).drew) Hd9.out)
        go_region_held3 (fun w' => w'.cell? ⟨g, 2, none⟩ = some (.string (tx a2)) ∧ w'.cell? ⟨g, 5, none⟩ = some (.string (tx b2))) (first | with_reducible exact hA | with_reducible exact hB | with_reducible exact hC) ((go_at_call 54; go_must (refine HX.out.mono ?_); rintro e w9 ⟨rfl, F9, hs9, hm9⟩; have hC : w9.cell? ⟨g, 2, none⟩ = some (.string (tx a2)) ∧ w9.cell? ⟨g, 5, none⟩ = some (.string (tx b2)) := ⟨hs9.chg.cell hB.1 Hgn.out, hs9.chg.cell hB.2 Hgn.out⟩; have Hs9 := Lib.hid ((Hs7.out.trans (RStep.of_chg (Chg.refl NoB w7).drew)).trans hs9); have Hm9 := Lib.hid hm9; clear hs9 hm9))
        go_wp2_with fail
        first | go_end0 | refine bodyPost_ret (results_none rfl _ _ _) rfl ?_
        exact ⟨rfl, _, Hs9.out, by rw [Hr.out]; exact Hm9.out⟩
    · have hf2 : (ft == 0) = false := by rw [beq_eq_false_iff_ne]; exact hf
      have Ht0 := Lib.hid (show ¬ t6.fault = 0 by rw [← Hft.out]; exact hf)
      clear hf
      have q7 : ∀ n, (w6.drewN n).cell? ⟨sb, 7, none⟩ = some (.int .i64 ft) := fun n => y7
      have q0 : ∀ n, (w6.drewN n).cell? ⟨g, 0, none⟩ = some (.bool a0) := fun n => d0
      have q3 : ∀ n, (w6.drewN n).cell? ⟨g, 3, none⟩ = some (.bool b0) := fun n => d3
      go_quiet (fail)
      have hch := (Chg.refl NoB w6).drewN nq
      have Hs7 := Lib.hid (Hs6.out.trans (RStep.of_chg hch))
      have Hm7 := Lib.hid (Hm6.out.keep hch)
      replace d0 := hch.keep d0
      replace d1 := hch.keep d1
      replace d2 := hch.keep d2
      replace d3 := hch.keep d3
      replace d4 := hch.keep d4
      replace d5 := hch.keep d5
      clear q7 q0 q3 y7 hch
      generalize w6.drewN nq = w7 at *
      cases a0
      · replace Hr := Lib.hid (show r = putS (boolV (decide (a1 < b1))) t6 by rw [Hr.out]; simp [Ht0.out])
        have Hd9 := Lib.hid Hwt.out.depth
        go_upto_region 33 with fail
        have hA : w7.cell? ⟨g, 1, none⟩ = some (.int .i64 a1) ∧ w7.cell? ⟨g, 4, none⟩ = some (.int .i64 b1) := ⟨d1, d4⟩
        have hB : w7.drew.cell? ⟨g, 1, none⟩ = some (.int .i64 a1) ∧ w7.drew.cell? ⟨g, 4, none⟩ = some (.int .i64 b1) := ⟨d1, d4⟩
        have HX := Lib.hid (rtruth_any (decide (a1 < b1)) (Hm7.out.keep (Chg.refl NoB w7).drew) Hd9.out)
        go_region_held3 (fun w' => w'.cell? ⟨g, 1, none⟩ = some (.int .i64 a1) ∧ w'.cell? ⟨g, 4, none⟩ = some (.int .i64 b1)) (first | with_reducible exact hA | with_reducible exact hB | with_reducible exact hC) ((go_at_call 54; go_must (refine HX.out.mono ?_); rintro e w9 ⟨rfl, F9, hs9, hm9⟩; have hC : w9.cell? ⟨g, 1, none⟩ = some (.int .i64 a1) ∧ w9.cell? ⟨g, 4, none⟩ = some (.int .i64 b1) := ⟨hs9.chg.cell hB.1 Hgn.out, hs9.chg.cell hB.2 Hgn.out⟩; have Hs9 := Lib.hid ((Hs7.out.trans (RStep.of_chg (Chg.refl NoB w7).drew)).trans hs9); have Hm9 := Lib.hid hm9; clear hs9 hm9))
        go_wp2_with fail
        first | go_end0 | refine bodyPost_ret (results_none rfl _ _ _) rfl ?_
        exact ⟨rfl, _, Hs9.out, by rw [Hr.out]; exact Hm9.out⟩
      · replace Hr := Lib.hid (show r = putS (boolV (bl a2 b2)) t6 by rw [Hr.out]; simp [Ht0.out])
        have Hd9 := Lib.hid Hwt.out.depth
        go_upto_region 32 with fail
        have hA : w7.cell? ⟨g, 2, none⟩ = some (.string (tx a2)) ∧ w7.cell? ⟨g, 5, none⟩ = some (.string (tx b2)) := ⟨d2, d5⟩
        have hB : w7.drew.cell? ⟨g, 2, none⟩ = some (.string (tx a2)) ∧ w7.drew.cell? ⟨g, 5, none⟩ = some (.string (tx b2)) := ⟨d2, d5⟩
        have HX := Lib.hid (rtruth_any (bl a2 b2) (Hm7.out.keep (Chg.refl NoB w7).drew) Hd9.out)
        go_region_held3 (fun w' => w'.cell? ⟨g, 2, none⟩ = some (.string (tx a2)) ∧ w'.cell? ⟨g, 5, none⟩ = some (.string (tx b2))) (first | with_reducible exact hA | with_reducible exact hB | with_reducible exact hC) ((go_at_call 54; go_must (refine HX.out.mono ?_); rintro e w9 ⟨rfl, F9, hs9, hm9⟩; have hC : w9.cell? ⟨g, 2, none⟩ = some (.string (tx a2)) ∧ w9.cell? ⟨g, 5, none⟩ = some (.string (tx b2)) := ⟨hs9.chg.cell hB.1 Hgn.out, hs9.chg.cell hB.2 Hgn.out⟩; have Hs9 := Lib.hid ((Hs7.out.trans (RStep.of_chg (Chg.refl NoB w7).drew)).trans hs9); have Hm9 := Lib.hid hm9; clear hs9 hm9))
        go_wp2_with fail
        first | go_end0 | refine bodyPost_ret (results_none rfl _ _ _) rfl ?_
        exact ⟨rfl, _, Hs9.out, by rw [Hr.out]; exact Hm9.out⟩
  · have hw : tx (wordL 15) = ⟨#[101, 113]⟩ := rfl
    have HT := rtake_any [97, 97] (by decide) (by decide) Hm5.out Hd.out
    obtain ⟨⟨a0, a1, a2⟩, ⟨b0, b1, b2⟩, hl⟩ := takeL_two 97 97 u
    have hr := (show r = putS (boolV (decide ((takeL [97, 97] u).getD 0 (numV 0) = (takeL [97, 97] u).getD 1 (numV 0)))) (takeS [97, 97] u) from Hr.out)
    rw [hl] at hr
    replace Hr := Lib.hid (show r = putS (boolV (decide (((a0, a1, a2) : ValL) = (b0, b1, b2)))) (takeS [97, 97] u) from hr)
    have Hwt := Lib.hid (take_wfr Hwf.out [97, 97])
    unfold TakeP at HT
    rw [hl] at HT
    generalize takeS [97, 97] u = t6 at *
    have HT' := Lib.hid HT
    clear HT hr hl
    go_wp2_with fail
    refine HT'.out.mono ?_
    rintro e w6 ⟨q6, c6, rfl, hr6, F6, hs6, hm6, hn6⟩
    obtain ⟨h3, h4, g, rfl, hcl⟩ := vals_cells hr6 (by decide) rfl
    unfold maxLen at h4
    have Hgn := Lib.hid (show ¬ (g = sb ∨ Foot3 F6 g) from fun e => by
      rcases e with e | e
      · have h1 := (World.ownsRow.lt hr6 g rfl).1; have h2 := Hm5.out.lo; omega
      · exact hn6 g rfl e)
    have Hk6 := Lib.hid hs6.chg
    have Hs6 := Lib.hid (Hs5.out.trans hs6)
    have Hm6 := Lib.hid hm6
    obtain ⟨d0, d1, d2⟩ := hcl 0 (by show 0 < 2; decide)
    clear hr6 hs6 hm6 hn6 HT'
    change w6.cell? ⟨g, 0, none⟩ = some (.bool a0) at d0
    change w6.cell? ⟨g, 1, none⟩ = some (.int .i64 a1) at d1
    change w6.cell? ⟨g, 2, none⟩ = some (.string (tx a2)) at d2
    obtain ⟨d3, d4, d5⟩ := hcl 1 (by show 1 < 2; decide)
    change w6.cell? ⟨g, 3, none⟩ = some (.bool b0) at d3
    change w6.cell? ⟨g, 4, none⟩ = some (.int .i64 b1) at d4
    change w6.cell? ⟨g, 5, none⟩ = some (.string (tx b2)) at d5
    clear hcl
    have hA : w6.cell? ⟨g, 0, none⟩ = some (.bool a0) ∧ w6.cell? ⟨g, 1, none⟩ = some (.int .i64 a1) ∧ w6.cell? ⟨g, 2, none⟩ = some (.string (tx a2)) ∧ w6.cell? ⟨g, 3, none⟩ = some (.bool b0) ∧ w6.cell? ⟨g, 4, none⟩ = some (.int .i64 b1) ∧ w6.cell? ⟨g, 5, none⟩ = some (.string (tx b2)) := ⟨d0, d1, d2, d3, d4, d5⟩
    have hB : w6.drew.cell? ⟨g, 0, none⟩ = some (.bool a0) ∧ w6.drew.cell? ⟨g, 1, none⟩ = some (.int .i64 a1) ∧ w6.drew.cell? ⟨g, 2, none⟩ = some (.string (tx a2)) ∧ w6.drew.cell? ⟨g, 3, none⟩ = some (.bool b0) ∧ w6.drew.cell? ⟨g, 4, none⟩ = some (.int .i64 b1) ∧ w6.drew.cell? ⟨g, 5, none⟩ = some (.string (tx b2)) := hA
    have hdr := (Chg.refl NoB w6).drew
    have heq := fun w => eqV (a0, a1, a2) (b0, b1, b2) w
    unfold valA at heq
    simp only at heq
    generalize decide (((a0, a1, a2) : ValL) = (b0, b1, b2)) = bb at *
    have HX := Lib.hid (rtruth_any bb (Hm6.out.keep hdr) Hwt.out.depth)
    clear hdr
    go_upto_region 36 with fail
    go_region_held3 (fun w' => w'.cell? ⟨g, 0, none⟩ = some (.bool a0) ∧ w'.cell? ⟨g, 1, none⟩ = some (.int .i64 a1) ∧ w'.cell? ⟨g, 2, none⟩ = some (.string (tx a2)) ∧ w'.cell? ⟨g, 3, none⟩ = some (.bool b0) ∧ w'.cell? ⟨g, 4, none⟩ = some (.int .i64 b1) ∧ w'.cell? ⟨g, 5, none⟩ = some (.string (tx b2))) (first | with_reducible exact hA | with_reducible exact hB | with_reducible exact hC) ((go_at_call 54; go_must (refine HX.out.mono ?_); rintro e w7 ⟨rfl, F7, hs7, hm7⟩; have hC : w7.cell? ⟨g, 0, none⟩ = some (.bool a0) ∧ w7.cell? ⟨g, 1, none⟩ = some (.int .i64 a1) ∧ w7.cell? ⟨g, 2, none⟩ = some (.string (tx a2)) ∧ w7.cell? ⟨g, 3, none⟩ = some (.bool b0) ∧ w7.cell? ⟨g, 4, none⟩ = some (.int .i64 b1) ∧ w7.cell? ⟨g, 5, none⟩ = some (.string (tx b2)) := ⟨hs7.chg.cell hB.1 Hgn.out, hs7.chg.cell hB.2.1 Hgn.out, hs7.chg.cell hB.2.2.1 Hgn.out, hs7.chg.cell hB.2.2.2.1 Hgn.out, hs7.chg.cell hB.2.2.2.2.1 Hgn.out, hs7.chg.cell hB.2.2.2.2.2 Hgn.out⟩; have Hs7 := Lib.hid ((Hs6.out.trans (RStep.of_chg (Chg.refl NoB w6).drew)).trans hs7); have Hm7 := Lib.hid hm7; clear hs7 hm7))
    go_wp2_with fail
    first | go_end0 | refine bodyPost_ret (results_none rfl _ _ _) rfl ?_
    exact ⟨rfl, _, Hs7.out, by rw [Hr.out]; exact Hm7.out⟩
  · have hw : tx (wordL 16) = ⟨#[110, 111, 116]⟩ := rfl
    have HT := rtake_any [110] (by decide) (by decide) Hm5.out Hd.out
    obtain ⟨⟨a0, a1, a2⟩, hl⟩ := takeL_one 110 u
    have hr := (show r = putS (boolV (((takeL [110] u).getD 0 (numV 0)).2.1 == 0)) (takeS [110] u) from Hr.out)
    rw [hl] at hr
    replace Hr := Lib.hid (show r = putS (boolV (a1 == 0)) (takeS [110] u) from hr)
    have Hwt := Lib.hid (take_wfr Hwf.out [110])
    unfold TakeP at HT
    rw [hl] at HT
    generalize takeS [110] u = t6 at *
    have HT' := Lib.hid HT
    clear HT hr hl
    go_wp2_with fail
    refine HT'.out.mono ?_
    rintro e w6 ⟨q6, c6, rfl, hr6, F6, hs6, hm6, hn6⟩
    obtain ⟨h3, h4, g, rfl, hcl⟩ := vals_cells hr6 (by decide) rfl
    unfold maxLen at h4
    have Hgn := Lib.hid (show ¬ (g = sb ∨ Foot3 F6 g) from fun e => by
      rcases e with e | e
      · have h1 := (World.ownsRow.lt hr6 g rfl).1; have h2 := Hm5.out.lo; omega
      · exact hn6 g rfl e)
    have Hk6 := Lib.hid hs6.chg
    have Hs6 := Lib.hid (Hs5.out.trans hs6)
    have Hm6 := Lib.hid hm6
    obtain ⟨d0, d1, d2⟩ := hcl 0 (by show 0 < 1; decide)
    clear hr6 hs6 hm6 hn6 HT'
    change w6.cell? ⟨g, 0, none⟩ = some (.bool a0) at d0
    change w6.cell? ⟨g, 1, none⟩ = some (.int .i64 a1) at d1
    change w6.cell? ⟨g, 2, none⟩ = some (.string (tx a2)) at d2
    clear hcl
    go_wp2_with fail
    refine (rtruth_any (a1 == 0) Hm6.out Hwt.out.depth).mono ?_
    rintro e w7 ⟨rfl, F7, hs7, hm7⟩
    have Hs7 := Lib.hid (Hs6.out.trans hs7)
    have Hm7 := Lib.hid hm7
    clear hs7 hm7
    go_wp2_with fail
    first | go_end0 | refine bodyPost_ret (results_none rfl _ _ _) rfl ?_
    exact ⟨rfl, _, Hs7.out, by rw [Hr.out]; exact Hm7.out⟩
  · have hw : tx (wordL 17) = ⟨#[106, 117, 109, 112]⟩ := rfl
    replace Hr := Lib.hid (show r = goesS 17 n u from Hr.out)
    have HX := rgoes_any 17 n t (by decide) Hm5.out Hd.out Hwf.out.many
    rw [hw] at HX
    have HX' := Lib.hid HX
    clear HX
    go_wp2_with fail
    refine (HX'.out).mono ?_
    rintro e w6 ⟨rfl, F6, hs6, hm6⟩
    have Hs6 := Lib.hid (Hs5.out.trans hs6)
    have Hm6 := Lib.hid hm6
    clear hs6 hm6
    go_wp2_with fail
    first | go_end0 | refine bodyPost_ret (results_none rfl _ _ _) rfl ?_
    exact ⟨rfl, _, Hs6.out, by rw [Hr.out]; exact Hm6.out⟩
  · have hw : tx (wordL 18) = ⟨#[122, 101, 114, 111]⟩ := rfl
    replace Hr := Lib.hid (show r = goesS 18 n u from Hr.out)
    have HX := rgoes_any 18 n t (by decide) Hm5.out Hd.out Hwf.out.many
    rw [hw] at HX
    have HX' := Lib.hid HX
    clear HX
    go_wp2_with fail
    refine (HX'.out).mono ?_
    rintro e w6 ⟨rfl, F6, hs6, hm6⟩
    have Hs6 := Lib.hid (Hs5.out.trans hs6)
    have Hm6 := Lib.hid hm6
    clear hs6 hm6
    go_wp2_with fail
    first | go_end0 | refine bodyPost_ret (results_none rfl _ _ _) rfl ?_
    exact ⟨rfl, _, Hs6.out, by rw [Hr.out]; exact Hm6.out⟩
  · have hw : tx (wordL 19) = ⟨#[99, 97, 108, 108]⟩ := rfl
    replace Hr := Lib.hid (show r = goesS 19 n u from Hr.out)
    have HX := rgoes_any 19 n t (by decide) Hm5.out Hd.out Hwf.out.many
    rw [hw] at HX
    have HX' := Lib.hid HX
    clear HX
    go_wp2_with fail
    refine (HX'.out).mono ?_
    rintro e w6 ⟨rfl, F6, hs6, hm6⟩
    have Hs6 := Lib.hid (Hs5.out.trans hs6)
    have Hm6 := Lib.hid hm6
    clear hs6 hm6
    go_wp2_with fail
    first | go_end0 | refine bodyPost_ret (results_none rfl _ _ _) rfl ?_
    exact ⟨rfl, _, Hs6.out, by rw [Hr.out]; exact Hm6.out⟩
  · have hw : tx (wordL 20) = ⟨#[114, 101, 116]⟩ := rfl
    replace Hr := Lib.hid (show r = goesS 20 n u from Hr.out)
    have HX := rgoes_any 20 n t (by decide) Hm5.out Hd.out Hwf.out.many
    rw [hw] at HX
    have HX' := Lib.hid HX
    clear HX
    go_wp2_with fail
    refine (HX'.out).mono ?_
    rintro e w6 ⟨rfl, F6, hs6, hm6⟩
    have Hs6 := Lib.hid (Hs5.out.trans hs6)
    have Hm6 := Lib.hid hm6
    clear hs6 hm6
    go_wp2_with fail
    first | go_end0 | refine bodyPost_ret (results_none rfl _ _ _) rfl ?_
    exact ⟨rfl, _, Hs6.out, by rw [Hr.out]; exact Hm6.out⟩
  · have hw : tx (wordL 21) = ⟨#[99, 97, 116]⟩ := rfl
    replace Hr := Lib.hid (show r = textsS view 21 u from Hr.out)
    have HX := rtexts21 view Hm5.out Hwf.out vq vc
    rw [hw, ← Hvn.out] at HX
    have HX' := Lib.hid HX
    clear HX
    go_wp2_with fail
    refine (HX'.out).mono ?_
    rintro e w6 ⟨rfl, F6, hs6, hm6⟩
    have Hs6 := Lib.hid (Hs5.out.trans hs6)
    have Hm6 := Lib.hid hm6
    clear hs6 hm6
    go_wp2_with fail
    first | go_end0 | refine bodyPost_ret (results_none rfl _ _ _) rfl ?_
    exact ⟨rfl, _, Hs6.out, by rw [Hr.out]; exact Hm6.out⟩
  · have hw : tx (wordL 22) = ⟨#[108, 101, 110]⟩ := rfl
    replace Hr := Lib.hid (show r = textsS view 22 u from Hr.out)
    have HX := rtexts22 view Hm5.out Hwf.out vq vc
    rw [hw, ← Hvn.out] at HX
    have HX' := Lib.hid HX
    clear HX
    go_wp2_with fail
    refine (HX'.out).mono ?_
    rintro e w6 ⟨rfl, F6, hs6, hm6⟩
    have Hs6 := Lib.hid (Hs5.out.trans hs6)
    have Hm6 := Lib.hid hm6
    clear hs6 hm6
    go_wp2_with fail
    first | go_end0 | refine bodyPost_ret (results_none rfl _ _ _) rfl ?_
    exact ⟨rfl, _, Hs6.out, by rw [Hr.out]; exact Hm6.out⟩
  · have hw : tx (wordL 23) = ⟨#[99, 117, 116]⟩ := rfl
    replace Hr := Lib.hid (show r = textsS view 23 u from Hr.out)
    have HX := rtexts23 view Hm5.out Hwf.out vq vc
    rw [hw, ← Hvn.out] at HX
    have HX' := Lib.hid HX
    clear HX
    go_wp2_with fail
    refine (HX'.out).mono ?_
    rintro e w6 ⟨rfl, F6, hs6, hm6⟩
    have Hs6 := Lib.hid (Hs5.out.trans hs6)
    have Hm6 := Lib.hid hm6
    clear hs6 hm6
    go_wp2_with fail
    first | go_end0 | refine bodyPost_ret (results_none rfl _ _ _) rfl ?_
    exact ⟨rfl, _, Hs6.out, by rw [Hr.out]; exact Hm6.out⟩
  · have hw : tx (wordL 24) = ⟨#[115, 116, 114]⟩ := rfl
    replace Hr := Lib.hid (show r = textsS view 24 u from Hr.out)
    have HX := rtexts24 view Hm5.out Hwf.out vq vc base (HLB.out _ _ Hs5.out) Hbase.out
    rw [hw, ← Hvn.out] at HX
    have HX' := Lib.hid HX
    clear HX
    go_wp2_with fail
    refine (HX'.out).mono ?_
    rintro e w6 ⟨rfl, F6, hs6, hm6⟩
    have Hs6 := Lib.hid (Hs5.out.trans hs6)
    have Hm6 := Lib.hid hm6
    clear hs6 hm6
    go_wp2_with fail
    first | go_end0 | refine bodyPost_ret (results_none rfl _ _ _) rfl ?_
    exact ⟨rfl, _, Hs6.out, by rw [Hr.out]; exact Hm6.out⟩
  · have hw : tx (wordL 25) = ⟨#[110, 117, 109]⟩ := rfl
    replace Hr := Lib.hid (show r = textsS view 25 u from Hr.out)
    have HX := rtexts25 view Hm5.out Hwf.out vq vc base (HLB.out _ _ Hs5.out) Hbase.out
    rw [hw, ← Hvn.out] at HX
    have HX' := Lib.hid HX
    clear HX
    go_wp2_with fail
    refine (HX'.out).mono ?_
    rintro e w6 ⟨rfl, F6, hs6, hm6⟩
    have Hs6 := Lib.hid (Hs5.out.trans hs6)
    have Hm6 := Lib.hid hm6
    clear hs6 hm6
    go_wp2_with fail
    first | go_end0 | refine bodyPost_ret (results_none rfl _ _ _) rfl ?_
    exact ⟨rfl, _, Hs6.out, by rw [Hr.out]; exact Hm6.out⟩
  · have hw : tx (wordL 26) = ⟨#[114, 101, 97, 100]⟩ := rfl
    replace Hr := Lib.hid (show r = textsS view 26 u from Hr.out)
    have HX := rtexts26 view Hm5.out Hwf.out vq vc (HV.out _ _ Hs5.out) Hgv.out
    rw [hw, ← Hvn.out] at HX
    have HX' := Lib.hid HX
    clear HX
    go_wp2_with fail
    refine (HX'.out).mono ?_
    rintro e w6 ⟨rfl, F6, hs6, hm6⟩
    have Hs6 := Lib.hid (Hs5.out.trans hs6)
    have Hm6 := Lib.hid hm6
    clear hs6 hm6
    go_wp2_with fail
    first | go_end0 | refine bodyPost_ret (results_none rfl _ _ _) rfl ?_
    exact ⟨rfl, _, Hs6.out, by rw [Hr.out]; exact Hm6.out⟩
  · have hw : tx (wordL 27) = ⟨#[99, 111, 117, 110, 116]⟩ := rfl
    replace Hr := Lib.hid (show r = textsS view 27 u from Hr.out)
    have HX := rtexts27 view Hm5.out Hwf.out vq vc (by have := (good_sizes Hgv.out).1; omega)
    rw [hw, ← Hvn.out] at HX
    have HX' := Lib.hid HX
    clear HX
    go_wp2_with fail
    refine (HX'.out).mono ?_
    rintro e w6 ⟨rfl, F6, hs6, hm6⟩
    have Hs6 := Lib.hid (Hs5.out.trans hs6)
    have Hm6 := Lib.hid hm6
    clear hs6 hm6
    go_wp2_with fail
    first | go_end0 | refine bodyPost_ret (results_none rfl _ _ _) rfl ?_
    exact ⟨rfl, _, Hs6.out, by rw [Hr.out]; exact Hm6.out⟩
  · have hw : tx (wordL 28) = ⟨#[112, 97, 116, 104]⟩ := rfl
    replace Hr := Lib.hid (show r = textsS view 28 u from Hr.out)
    have HX := rtexts28 view Hm5.out Hwf.out vq vc (HV.out _ _ Hs5.out) Hgv.out
    rw [hw, ← Hvn.out] at HX
    have HX' := Lib.hid HX
    clear HX
    go_wp2_with fail
    refine (HX'.out).mono ?_
    rintro e w6 ⟨rfl, F6, hs6, hm6⟩
    have Hs6 := Lib.hid (Hs5.out.trans hs6)
    have Hm6 := Lib.hid hm6
    clear hs6 hm6
    go_wp2_with fail
    first | go_end0 | refine bodyPost_ret (results_none rfl _ _ _) rfl ?_
    exact ⟨rfl, _, Hs6.out, by rw [Hr.out]; exact Hm6.out⟩
  · have hw : tx (wordL 29) = ⟨#[119, 114, 105, 116, 101]⟩ := rfl
    replace Hr := Lib.hid (show r = textsS view 29 u from Hr.out)
    have HX := rtexts29 view Hm5.out Hwf.out vq vc base (HLB.out _ _ Hs5.out) Hbase.out
    rw [hw, ← Hvn.out] at HX
    have HX' := Lib.hid HX
    clear HX
    go_wp2_with fail
    refine (HX'.out).mono ?_
    rintro e w6 ⟨rfl, F6, hs6, hm6⟩
    have Hs6 := Lib.hid (Hs5.out.trans hs6)
    have Hm6 := Lib.hid hm6
    clear hs6 hm6
    go_wp2_with fail
    first | go_end0 | refine bodyPost_ret (results_none rfl _ _ _) rfl ?_
    exact ⟨rfl, _, Hs6.out, by rw [Hr.out]; exact Hm6.out⟩
  · have hw : tx (wordL 30) = ⟨#[102, 97, 105, 108]⟩ := rfl
    replace Hr := Lib.hid (show r = goesS 30 n u from Hr.out)
    have HX := rgoes_any 30 n t (by decide) Hm5.out Hd.out Hwf.out.many
    rw [hw] at HX
    have HX' := Lib.hid HX
    clear HX
    go_wp2_with fail
    refine (HX'.out).mono ?_
    rintro e w6 ⟨rfl, F6, hs6, hm6⟩
    have Hs6 := Lib.hid (Hs5.out.trans hs6)
    have Hm6 := Lib.hid hm6
    clear hs6 hm6
    go_wp2_with fail
    first | go_end0 | refine bodyPost_ret (results_none rfl _ _ _) rfl ?_
    exact ⟨rfl, _, Hs6.out, by rw [Hr.out]; exact Hm6.out⟩
end Go.Proofs.YthehpmffkkogpaaGreatDoor
namespace Go.Proofs.YthehpmffkkogpaaGreatDoor
set_option linter.unusedVariables false
open Go.ChangeShapes Go.WideShapes Go.ChangeAt Go.RowKit
theorem made16 : (madeCells #[.bool false, .int .i64 0, .string ⟨#[]⟩] (16 * 3)) = (valsV rs0.loc).toArray := by kernel_rfl
theorem InsS.move {w w' : World} {S S' : Nat → Prop} {v : Value} {l : List InsL} {kb ko : Nat} (h : InsS w S v l kb ko) {T : Nat → Prop} (hc : Chg T w w') (hST : ∀ k, k < w.heap.size → S k → ¬ T k ∧ S' k) : InsS w' S' v l kb ko := by
  obtain ⟨q, c, e, h1, h2, h3⟩ := h.sh
  have hlow : l ≠ [] → kb < w.heap.size := fun hn => by
    have h0 : 0 < l.length := by cases l with | nil => exact absurd rfl hn | cons a r => simp
    exact World.block_lt_of_cell? w _ (h.at' 0 h0).2.1
  refine ⟨⟨q, c, e, h1, h2, fun hn => ⟨(h3 hn).1, (hST kb (hlow hn) (h3 hn).2).2⟩⟩, fun i hi => ?_⟩
  have hne : l ≠ [] := by rintro rfl; simp at hi
  have hT := (hST kb (hlow hne) (h3 hne).2).1
  obtain ⟨a0, a1, a2, a3⟩ := h.at' i hi
  exact ⟨a0, hc.cell a1 hT, hc.cell a2 hT, hc.cell a3 hT⟩
/- a new machine of the document -/
theorem ref_new {w w1 w2 : World} {cb sb : Nat} (hcb : cb = w.heap.size) (hw1 : w.alloc (.cells (madeCells #[.bool false, .int .i64 0, .string ⟨#[]⟩] (16 * 3)) 68) = w1) (hsb : sb = w1.heap.size)
    (hw2 : w1.alloc (.cells #[.slice none 0 0, .slice (some ⟨cb, 0, none⟩) 16 16, .slice none 0 0, .slice none 0 0, .int .i64 0, .int .i64 0, .bool false, .int .i64 0] 63) = w2) : RefM w2 cb sb rs0 (.slice none 0 0, .slice (some ⟨cb, 0, none⟩) 16 16, .slice none 0 0) := by
  have hs1 : w1.heap.size = w.heap.size + 1 := by rw [← hw1]; exact alloc_size _ _
  have hs2 : w2.heap.size = w1.heap.size + 1 := by rw [← hw2]; exact alloc_size _ _
  have hc : Chg NoB w1 w2 := by rw [← hw2]; exact (Chg.refl NoB w1).alloc _
  have h1 : w1.heap[cb]? = some (.cells (madeCells #[.bool false, .int .i64 0, .string ⟨#[]⟩] (16 * 3)) 68) := by rw [hcb, ← hw1]; exact heap_alloc_new w _
  have h2 := row_kept hc h1 id
  rw [made16] at h2
  refine ⟨⟨none, 0, 0, 0, by rw [hsb, ← hw2]; exact heap_alloc_new w1 _, InpS.nil _ _⟩, ⟨rfl, .inl ⟨rfl, rfl⟩⟩, ⟨by kernel_rfl, .inr ⟨cb, 16, _, rfl, Nat.le_refl _, h2, Nat.le_refl _, by decide, by simp [valsV_len, rs0], ?_⟩⟩, ⟨rfl, .inl ⟨rfl, rfl⟩⟩, ⟨fun k h => by simp [Value.ownBlock] at h, fun k h e => by simp [Value.ownBlock] at e⟩, ⟨⟨by omega, by omega⟩, by omega⟩, rfl, fun e => ?_⟩
  · rw [List.toList_toArray]
    exact List.take_of_length_le (by rw [valsV_len]; simp [rs0])
  · rcases e with e | e | e
    · simp [Value.ownBlock] at e
    · have e2 : cb = sb := Option.some.inj e
      omega
    · simp [Value.ownBlock] at e
theorem RunP.of_eq {ps : List InsL} {view : List FileL} {d : List FileL} {n : Nat} {y : Int} {w : World} {e : Ending} {w' : World} (h1 : runL ps view = d) (h2 : runN ps view = n) (h3 : runE ps view = y) (h : Run3 d n y w e w') : RunP ps view w e w' := by
  unfold RunP; rw [h1, h2, h3]; exact h
def stepsAt (sb : Nat) (w : World) : Nat := match w.cell? ⟨sb, 5, none⟩ with | some (.int _ k) => k.toNat | _ => 0
theorem RefM.stepsAt {w : World} {lo sb : Nat} {s : RS} {F : Value × Value × Value} (hm : RefM w lo sb s F) : stepsAt sb w = s.steps := by
  obtain ⟨_, _, _, _, _, _, _, h, _, _⟩ := hm.cells
  unfold Go.Proofs.YthehpmffkkogpaaGreatDoor.stepsAt
  rw [h]
  rfl
set_option maxHeartbeats 8000000 in
set_option maxRecDepth 20000 in
theorem rrun_any (ps : List InsL) (view : List FileL) (S T : Nat → Prop) (v u : Value) (pb po kb ko base : Nat) (w : World) (hlb : Lb base w) (hvl : view.length ≤ 1048576) (hvw : ∀ x ∈ view, x.1.length ≤ 1048576 ∧ x.2.length ≤ 1048576) (hp : InsS w S v ps pb po) (hv : InpS w T u view kb ko) :
    Calls Tryz.prog 16 #[v, .agg #[u]] w (RunP ps view w) := by
  have hv0 := hv
  have hp0 := hp
  obtain ⟨⟨q, c, rfl, h1, h2, h3⟩, hat⟩ := hv
  obtain ⟨⟨pq, pc, rfl, g1, g2, g3⟩, gat⟩ := hp
  have Hp := Lib.hid hp0
  have Hv := Lib.hid hv0
  obtain ⟨n, hn⟩ : ∃ n, n = view.length := ⟨_, rfl⟩
  obtain ⟨pn, hpn⟩ : ∃ n, n = ps.length := ⟨_, rfl⟩
  rw [← hn, ← hpn]
  have Hn := Lib.hid hn
  have Hpn := Lib.hid hpn
  have hal_ := (Chg.refl NoB w).alloc (.cells #[.slice q n c] 25)
  have hb_ := heap_alloc_new w (.cells #[.slice q n c] 25)
  obtain ⟨vb, hxb_⟩ : ∃ b, b = w.heap.size := ⟨_, rfl⟩
  obtain ⟨w1, hw_⟩ : ∃ w_, w.alloc (.cells #[.slice q n c] 25) = w_ := ⟨_, rfl⟩
  have hz_ : w1.heap.size = vb + 1 := by rw [← hw_, hxb_]; exact alloc_size _ _
  rw [hw_] at hal_ hb_
  rw [← hxb_] at hb_
  have Hw1 := Lib.hid hw_
  have Hx1 := Lib.hid hxb_
  have Ha1 := Lib.hid hal_
  have Hb1 := Lib.hid hb_
  have Hz1 := Lib.hid hz_
  clear hal_ hb_ hxb_ hw_ hz_
  have hal_ := (Chg.refl NoB w1).alloc (.cells #[.slice none 0 0] 25)
  have hb_ := heap_alloc_new w1 (.cells #[.slice none 0 0] 25)
  obtain ⟨rb, hxb_⟩ : ∃ b, b = w1.heap.size := ⟨_, rfl⟩
  obtain ⟨w2, hw_⟩ : ∃ w_, w1.alloc (.cells #[.slice none 0 0] 25) = w_ := ⟨_, rfl⟩
  have hz_ : w2.heap.size = rb + 1 := by rw [← hw_, hxb_]; exact alloc_size _ _
  rw [hw_] at hal_ hb_
  rw [← hxb_] at hb_
  have Hw2 := Lib.hid hw_
  have Hx2 := Lib.hid hxb_
  have Ha2 := Lib.hid hal_
  have Hb2 := Lib.hid hb_
  have Hz2 := Lib.hid hz_
  clear hal_ hb_ hxb_ hw_ hz_
  have Hc2 := Lib.hid ((Ha1.out.trans Ha2.out).mono fun _ _ h => h.elim : Chg NoB w w2)
  have HC := Lib.hid (refCheck_any ps S _ pb po w2 (hp0.keep Hc2.out fun _ _ => id))
  have HG := Lib.hid (fun w' (h : Chg NoB w2 w') => rgood_any view hvl hvw T _ kb ko w' (hv0.keep (Hc2.out.trans h) fun _ _ => id))
  have HW := Lib.hid hp0.wfs
  have Hlb := Lib.hid (hlb.keep Hc2.out)
  have Hb12 := Lib.hid (row_kept Ha2.out Hb1.out id)
  have p0 := var1 Hb12.out
  have Hrb := Lib.hid (show w.heap.size ≤ rb ∧ rb < w2.heap.size by have := Hx1.out; have := Hx2.out; have := Hz1.out; have := Hz2.out; omega)
  obtain ⟨ck, hck⟩ : ∃ z, z = (checkF ps).1 := ⟨_, rfl⟩
  obtain ⟨y, hy⟩ : ∃ z, z = (checkF ps).2 := ⟨_, rfl⟩
  obtain ⟨g, hg⟩ : ∃ z, z = goodF view := ⟨_, rfl⟩
  rw [← hck, ← hy] at HC
  rw [← hg] at HG
  rw [← hn] at HG
  rw [← hpn] at HC
  have Hy := Lib.hid hy
  have Hg := Lib.hid hg
  clear hv0 hp0 hlb hvl hvw h1 h2 h3 hat g1 g2 g3 gat hn hpn hck hy hg
  go_enter Tryz.func16, Tryz.ntmps16
  go_upto_region 1 with fail
  rw [Hw1.out, ← Hx1.out]
  rw [Hw2.out, ← Hz1.out, ← Hx2.out]
  go_wp2_with fail
  refine HC.out.mono ?_
  rintro e w3 ⟨rfl, hc3⟩
  have Hc3 := Lib.hid hc3
  have p3 := var1 (row_kept hc3 Hb12.out id)
  clear hc3 p0 HC
  by_cases hz : y = 0
  case neg =>
    have hz2 : (y != 0) = true := by rw [bne_iff_ne]; exact hz
    have hnew : newF ps view = y := by unfold newF; rw [← Hy.out, if_neg hz]
    have HN : Hid (runL ps view = [] ∧ runN ps view = 0 ∧ runE ps view = y) := Lib.hid (by unfold runL runE runN; rw [hnew, if_neg hz, if_neg hz, if_neg hz]; exact ⟨rfl, rfl, rfl⟩)
    clear hz hnew p3
    have hb_ := row_kept Hc3.out Hb2.out id
    have f0 := row_free hb_ 0
    have r0 := var1 hb_
    have Hbz := Lib.hid hb_
    have Hcz := Lib.hid (Hc2.out.trans Hc3.out)
    clear hb_
    go_wp2_with fail
    have hR := heap_set Hbz.out (i := 0) (.slice none 0 0)
    refine bodyPost_ret (results_cellTT rfl _ rfl (run_loadVar_row _ _ _ _ _ _ _ hR (Tryz.underlying25) rfl rfl)) rfl ?_
    refine RunP.of_eq HN.out.1 HN.out.2.1 HN.out.2.2 ?_
    exact ⟨Hcz.out.transR ((Chg.refl (fun k => k = rb) _).setCell (p := ⟨rb, 0, none⟩) (.inl rfl) _) fun k hk e => by have := Hrb.out.1; omega, none, 0, 0, 0, 0, rfl, rfl, InpS.nil _ _⟩
  subst hz
  have HG3 := Lib.hid (HG.out w3 Hc3.out)
  clear HG
  go_wp2_with fail
  refine HG3.out.mono ?_
  rintro e w4 ⟨rfl, hc4⟩
  have Hc4 := Lib.hid (Hc3.out.trans hc4)
  have Hb4 := Lib.hid (row_kept (Hc3.out.trans hc4) Hb12.out id)
  have Hr4 := Lib.hid (row_kept (Hc3.out.trans hc4) Hb2.out id)
  clear hc4 p3 HG3
  cases g
  · have hnew : newF ps view = 1 := by unfold newF; rw [← Hy.out, if_pos rfl, ← Hg.out]; rfl
    have HN : Hid (runL ps view = [] ∧ runN ps view = 0 ∧ runE ps view = 1) := Lib.hid (by unfold runL runE runN; rw [hnew]; exact ⟨rfl, rfl, rfl⟩)
    clear hnew
    have hb_ := row_kept Hc4.out Hb2.out id
    have f0 := row_free hb_ 0
    have r0 := var1 hb_
    have Hbz := Lib.hid hb_
    have Hcz := Lib.hid (Hc2.out.trans Hc4.out)
    clear hb_
    go_wp2_with fail
    have hR := heap_set Hbz.out (i := 0) (.slice none 0 0)
    refine bodyPost_ret (results_cellTT rfl _ rfl (run_loadVar_row _ _ _ _ _ _ _ hR (Tryz.underlying25) rfl rfl)) rfl ?_
    refine RunP.of_eq HN.out.1 HN.out.2.1 HN.out.2.2 ?_
    exact ⟨Hcz.out.transR ((Chg.refl (fun k => k = rb) _).setCell (p := ⟨rb, 0, none⟩) (.inl rfl) _) fun k hk e => by have := Hrb.out.1; omega, none, 0, 0, 0, 0, rfl, rfl, InpS.nil _ _⟩
  have hnew : newF ps view = 0 := by unfold newF; rw [← Hy.out, if_pos rfl, ← Hg.out]; rfl
  have hr := run_ran HW.out hnew
  obtain ⟨hck, hgv⟩ := newF_ok hnew
  obtain ⟨hp1, hp2, hpw⟩ := check_wfi HW.out hck
  obtain ⟨cb, hcb⟩ : ∃ z, z = w4.heap.size := ⟨_, rfl⟩
  obtain ⟨w5, hw5⟩ : ∃ z, w4.alloc (.cells (madeCells #[.bool false, .int .i64 0, .string ⟨#[]⟩] (16 * 3)) 68) = z := ⟨_, rfl⟩
  obtain ⟨sb, hsb⟩ : ∃ z, z = w5.heap.size := ⟨_, rfl⟩
  obtain ⟨w6, hw6⟩ : ∃ z, w5.alloc (.cells #[.slice none 0 0, .slice (some ⟨cb, 0, none⟩) 16 16, .slice none 0 0, .slice none 0 0, .int .i64 0, .int .i64 0, .bool false, .int .i64 0] 63) = z := ⟨_, rfl⟩
  have HM6 := Lib.hid (ref_new hcb hw5 hsb hw6)
  have hmk : (Instr.makeSlice 61 (.int .i64 16) (.int .i64 16)).run Tryz.prog w4 = .ok (.slice (some ⟨cb, 0, none⟩) 16 16) w5 := by rw [hcb, ← hw5]; exact make_vals 16 (by decide) w4
  have hc46 : Chg NoB w4 w6 := by rw [← hw6, ← hw5]; exact ((Chg.refl NoB w4).alloc _).alloc _
  have Hlo := Lib.hid (show w2.heap.size ≤ cb ∧ cb < sb by
    have h1 := Hc4.out.size
    have h2 : w5.heap.size = w4.heap.size + 1 := by rw [← hw5]; exact alloc_size _ _
    omega)
  have Hc6 := Lib.hid (Hc4.out.trans hc46)
  have Hb6 := Lib.hid (row_kept hc46 Hb4.out id)
  have Hr6 := Lib.hid (row_kept hc46 Hr4.out id)
  have Hno := Lib.hid (show ∀ k, k < cb → ¬ (k = sb ∨ Foot3 (.slice none 0 0, .slice (some ⟨cb, 0, none⟩) 16 16, .slice none 0 0) k) from fun k hk e => by
    rcases e with e | e | e | e
    · have := Hlo.out; omega
    · simp [Value.ownBlock] at e
    · have e2 : cb = k := Option.some.inj e
      omega
    · simp [Value.ownBlock] at e)
  have Hvb := Lib.hid (show vb < cb ∧ rb < cb by have h1 := Hx1.out; have h2 := Hz1.out; have h3 := Hx2.out; have h4 := Hlo.out; have h5 := Hrb.out; have h6 := Ha2.out.size; omega)
  have HK := Lib.hid (show ∀ (w' : World) (F : RF), RStep sb (.slice none 0 0, .slice (some ⟨cb, 0, none⟩) 16 16, .slice none 0 0) F w6 w' → Chg (fun k => cb ≤ k) w w' from fun w' F h => ((Hc2.out.trans Hc6.out).mono fun _ _ e => e.elim).trans (h.chg.mono fun k _ e => Classical.byContradiction fun hk => Hno.out k (by omega) e))
  have HS := Lib.hid (show ∀ (wr : World) (s : RS) (F : RF) (k : Nat), RStep sb (.slice none 0 0, .slice (some ⟨cb, 0, none⟩) 16 16, .slice none 0 0) F w6 wr → RefM wr cb sb s F → RelS ps.length (goF ps view k mm0) s → (hd : (goF ps view k mm0).s.done = false) → ∀ (a : Nat), s.at' = a → (ha : a < ps.length) →
      Calls Tryz.prog 33 #[.pointer (some ⟨sb, 0, none⟩), .slice pq ps.length pc, .agg #[.slice q view.length c]] wr (ROut cb sb F (stepS ps view s) wr) from fun wr s F k hs hm hrl hd a ea ha => by
    obtain ⟨he, hin, hst⟩ := hrl.on hd
    have hlow := fun k (h : k < cb) => Nat.lt_of_lt_of_le h (Nat.le_refl cb)
    have hcw : w.heap.size ≤ cb := by have := Hlo.out.1; have := Hc2.out.size; omega
    have hst2 : stepS ps view s = doS view ps[a] (ticS s) := by
      unfold stepS
      rw [ea, Int.toNat_natCast, List.getElem?_eq_getElem ha]
    rw [hst2]
    refine rstep_any hm (by rw [he]; exact emb_wf (go_wf hpw hgv k mm0 (mm0_wf hp1)).s _ _) (Hv.out.move (HK.out wr F hs) fun j hj _ => ⟨by omega, by omega⟩) hgv base ((Hlb.out.keep Hc6.out).chg hs.chg fun j e => ?_) ?_ (Hp.out.move (HK.out wr F hs) fun j hj _ => ⟨by omega, by omega⟩) hpw hp2 (by rw [hrl.steps]; omega) a ea ha
    · exact Classical.byContradiction fun hj => Hno.out j (by have := Hlb.out.le; have := Hlo.out.1; omega) e
    · have := Hlb.out.le; have := Hlo.out.1; omega)
  have HR := Lib.hid (show ∀ (k : Nat) (s : RS), RelS ps.length (goF ps view k mm0) s → (goF ps view k mm0).s.done = false → RelS ps.length (goF ps view (k + 1) mm0) (stepS ps view s) ∧ k < 4096 ∧ s.steps = k ∧ (stepS ps view s).steps = k + 1 ∧ 0 ≤ s.at' from fun k s hrl hd => by
    have h1 := rel_step (go_wf hpw hgv k mm0 (mm0_wf hp1)) hpw (by rw [← go_succ hd]; exact go_wf hpw hgv (k + 1) mm0 (mm0_wf hp1)) hrl hd
    rw [← go_succ hd] at h1
    have h2 := (not_done_steps k mm0 hd).1
    have h3 := (hrl.on hd).2.2
    have h4 := h1.steps
    rw [go_succ hd, step_steps] at h4
    have e0 : mm0.steps = 0 := rfl
    have h5 := hrl.steps
    exact ⟨h1, by omega, by omega, by omega, by rw [(hrl.on hd).1]; exact (go_wf hpw hgv k mm0 (mm0_wf hp1)).s.next.1⟩)
  have HE := Lib.hid (show ∀ (k : Nat) (s : RS), k ≤ 4096 → RelS ps.length (goF ps view k mm0) s → ¬ condS ps.length s → _ from fun k s hk hrl hc => ref_end hr hnew hk hrl hc)
  have HN0 := Lib.hid (show Hid (RelS ps.length (goF ps view 0 mm0) rs0) from Lib.hid (rel0 hp1))
  have Hpc := Lib.hid (show ps.length ≤ 256 from hp2)
  rw [← Hn.out, ← Hpn.out] at HS
  rw [← Hpn.out] at HR HE HN0 Hpc
  have Hw6 := Lib.hid hw6
  have Hsb := Lib.hid hsb
  clear hr hck hgv hp1 hp2 hpw hnew hc46 hcb hw5 hsb hw6
  go_wp2_with fail
  rw [Hw6.out, ← Hsb.out]
  go_loopw [] (fun wr => ∃ (k : Nat) (s : RS) (F : RF), k ≤ 4096 ∧ RelS pn (goF ps view k mm0) s ∧ RStep sb (.slice none 0 0, .slice (some ⟨cb, 0, none⟩) 16 16, .slice none 0 0) F w6 wr ∧ RefM wr cb sb s F) (fun wr => 4096 - stepsAt sb wr)
  case atStart => exact ⟨0, rs0, _, Nat.zero_le _, HN0.out.out, RStep.refl _ _ _, HM6.out⟩
  case round =>
    obtain ⟨k, s, F, hk, hrl, hs, hm⟩ := hrel
    have Hk := Lib.hid hk
    have Hrl := Lib.hid hrl
    have Hs := Lib.hid hs
    have Hm := Lib.hid hm
    obtain ⟨_, _, y0, y1, y2, -, y4, y5, y6, y7⟩ := hm.cells
    have yf7 := hm.free 7
    obtain ⟨oq, oc, ob, oo, hrow, hout⟩ := hm.row
    have y3 : wr.cell? ⟨sb, 3, none⟩ = some (.slice oq s.out.length oc) := by have h := cell_of_row wr sb 3 _ _ (0, 0) hrow; rw [h]; rfl
    have hrr := row_kept hs.chg Hr6.out (Hno.out rb Hvb.out.2)
    have f0 := row_free hrr 0
    have r0 := var1 hrr
    have Hrr := Lib.hid hrr
    have p0 := var1 (row_kept hs.chg Hb6.out (Hno.out vb Hvb.out.1))
    have Hcr := Lib.hid (show Chg NoB w wr from (HK.out wr F hs).mono fun k hk e => by show False; have := Hlo.out.1; have := Hc2.out.size; omega)
    have Hsr := Lib.hid (show ¬ sb = rb by have := Hlo.out; have := Hvb.out; omega)
    clear y0 y1 y2 hrow hrr
    by_cases hc : condS pn s
    · have hd := hrl.cond hc
      obtain ⟨c1, c2, c3, c4⟩ := hc
      obtain ⟨r1, r2, r3, r4, r5⟩ := HR.out k s hrl hd
      obtain ⟨a, ea⟩ : ∃ a : Nat, s.at' = a := ⟨s.at'.toNat, by omega⟩
      have ha : a < pn := by omega
      have HSk := Lib.hid (HS.out wr s F k hs hm hrl hd a ea ha)
      have hms := hm.stepsAt
      rw [r3] at hms y5 c1
      rw [ea] at y4
      rw [c2] at y6
      rw [c3] at y7
      have e5 := decide_eq_true (show (k : Int) < 4096 by omega)
      have e4 := decide_eq_true (show (a : Int) < pn by omega)
      generalize stepS ps view s = s2 at *
      have Hr1 := Lib.hid r1
      have Hr4 := Lib.hid r4
      have Hms := Lib.hid hms
      clear hrl hs hm hd c2 c3 c4 r1 r3 r4 r5 ea hms hout y3 hk
      go_wp2_with fail
      refine HSk.out.mono ?_
      rintro e w8 ⟨rfl, F8, hs8, hm8⟩
      have Hf := Lib.hid (And.intro (Hs.out.trans hs8) hm8)
      clear hs8 hm8
      go_wp2_with fail
      go_roundw
      case rel => exact ⟨k + 1, s2, F8, by omega, Hr1.out, Hf.out.1, Hf.out.2⟩
      case measure =>
        rw [Hf.out.2.stepsAt, Hr4.out, Hms.out]
        omega
    · have hE := HE.out k s hk hrl hc
      obtain ⟨Y, hY⟩ : ∃ z, z = endY pn s := ⟨_, rfl⟩
      rw [← hY] at hE
      unfold endY at hY
      unfold condS at hc
      obtain ⟨st, hst⟩ : ∃ z, z = s.steps := ⟨_, rfl⟩
      obtain ⟨ft, hft⟩ : ∃ z, z = s.fault := ⟨_, rfl⟩
      obtain ⟨hl, hhl⟩ : ∃ z, z = s.halted := ⟨_, rfl⟩
      obtain ⟨p4, hp4⟩ : ∃ z, z = s.at' := ⟨_, rfl⟩
      obtain ⟨d, hd⟩ : ∃ z, z = s.out := ⟨_, rfl⟩
      obtain ⟨on, hon⟩ : ∃ z, z = d.length := ⟨_, rfl⟩
      rw [← hst, ← hft, ← hhl, ← hp4] at hc
      rw [← hft, ← hhl, ← hp4] at hY
      rw [← hst] at hE
      rw [← hst] at y5
      rw [← hft] at y7
      rw [← hhl] at y6
      rw [← hp4] at y4
      rw [← hd] at hE y3 hout
      rw [← hon] at y3 hout
      have Hon := Lib.hid hon
      have Hout := Lib.hid hout
      have HF7 := Lib.hid (hm.field 7 (.int .i64 45) { s with fault := 45 } rfl rfl rfl rfl fun ov => rfl)
      have Hst := Lib.hid hst
      clear hst hft hhl hp4 hd hon hout hm hs hrl hk p0
      by_cases f0 : ft = 0
      · subst f0
        cases hl
        · by_cases h4 : p4 < pn
          · have h5 : ¬ st < 4096 := fun h => hc ⟨h, rfl, rfl, h4⟩
            rw [if_pos ⟨rfl, rfl, h4⟩] at hY
            subst hY
            rw [if_neg (by decide)] at hE
            have HN := Lib.hid hE
            have e5 := decide_eq_false (show ¬ (st : Int) < 4096 by omega)
            have e4 := decide_eq_true h4
            clear hc hE h4 h5
            obtain ⟨w7, hw7⟩ : ∃ z, z = wr.setCell ⟨sb, 7, none⟩ (.int .i64 45) := ⟨_, rfl⟩
            have Hw7 := Lib.hid hw7
            clear hw7
            go_upto_region 11 with fail
            rw [← Hw7.out]
            have hc7 : Chg (fun k => k = sb) wr w7 := by rw [Hw7.out]; exact (Chg.refl (fun k => k = sb) wr).setCell (p := ⟨sb, 7, none⟩) (.inl rfl) _
            rw [← Hw7.out] at HF7
            obtain ⟨_, _, -, -, -, -, -, y5b, -, y7b⟩ := HF7.out.1.cells
            change w7.cell? ⟨sb, 5, none⟩ = some (.int .i64 (s.steps : Int)) at y5b
            change w7.cell? ⟨sb, 7, none⟩ = some (.int .i64 45) at y7b
            rw [← Hst.out] at y5b
            have hrr7 := row_kept hc7 Hrr.out fun e => Hsr.out e.symm
            clear y3 y4 y5 y6 y7 yf7 f0 r0
            have f0 := row_free hrr7 0
            have r0 := var1 hrr7
            replace Hrr := Lib.hid hrr7
            replace Hcr := Lib.hid (Hcr.out.transR hc7 fun k hk e => by show False; have := Hlo.out; have := Hc2.out.size; omega)
            have y5 := y5b
            have y7 := y7b
            clear hrr7 hc7 y5b y7b
            have hA : w7.cell? ⟨sb, 5, none⟩ = some (.int .i64 (st : Int)) ∧ w7.cell? ⟨sb, 7, none⟩ = some (.int .i64 45) := ⟨y5, y7⟩
            have hB : w7.drew.cell? ⟨sb, 5, none⟩ = some (.int .i64 (st : Int)) ∧ w7.drew.cell? ⟨sb, 7, none⟩ = some (.int .i64 45) := ⟨y5, y7⟩
            have hst_ := ((Chg.refl (fun k => k = rb) w7).setCell (p := ⟨rb, 0, none⟩) (.inl rfl) (.slice none 0 0)).drew
            have hC : (w7.setCell ⟨rb, 0, none⟩ (.slice none 0 0)).drew.cell? ⟨sb, 5, none⟩ = some (.int .i64 (st : Int)) ∧ (w7.setCell ⟨rb, 0, none⟩ (.slice none 0 0)).drew.cell? ⟨sb, 7, none⟩ = some (.int .i64 45) := ⟨hst_.cell y5 Hsr.out, hst_.cell y7 Hsr.out⟩
            go_wp2_with fail
            go_region_held3 (fun w' => w'.cell? ⟨sb, 5, none⟩ = some (.int .i64 (st : Int)) ∧ w'.cell? ⟨sb, 7, none⟩ = some (.int .i64 45)) (first | with_reducible exact hA | with_reducible exact hB | with_reducible exact hC) (fail)
            clear hA hB hC
            go_wp2_with fail
            have hR := row_kept (Chg.refl NoB (w7.setCell ⟨rb, 0, none⟩ (.slice none 0 0))).drew (heap_set Hrr.out (i := 0) (.slice none 0 0)) id
            refine bodyPost_ret (results_cellTT rfl _ rfl (run_loadVar_row _ _ _ _ _ _ _ hR (Tryz.underlying25) rfl rfl)) rfl ?_
            refine RunP.of_eq HN.out.1 HN.out.2.1 HN.out.2.2 ?_
            exact ⟨Hcr.out.transR hst_ fun k hk e => by have := Hrb.out.1; omega, none, 0, 0, 0, 0, rfl, rfl, InpS.nil _ _⟩
          · rw [if_neg (fun h => h4 h.2.2)] at hY
            subst hY
            rw [if_pos rfl] at hE
            have HN := Lib.hid hE
            have e4 := decide_eq_false h4
            by_cases h5 : st < 4096
            · have e5 := decide_eq_true (show (st : Int) < 4096 by omega)
              clear hc hE h4 h5
              have hA : wr.cell? ⟨sb, 3, none⟩ = some (.slice oq on oc) ∧ wr.cell? ⟨sb, 5, none⟩ = some (.int .i64 (st : Int)) := ⟨y3, y5⟩
              have hB : wr.drew.cell? ⟨sb, 3, none⟩ = some (.slice oq on oc) ∧ wr.drew.cell? ⟨sb, 5, none⟩ = some (.int .i64 (st : Int)) := ⟨y3, y5⟩
              have hst_ := ((Chg.refl (fun k => k = rb) wr).setCell (p := ⟨rb, 0, none⟩) (.inl rfl) (.slice oq on oc)).drew
              have hC : (wr.setCell ⟨rb, 0, none⟩ (.slice oq on oc)).drew.cell? ⟨sb, 3, none⟩ = some (.slice oq on oc) ∧ (wr.setCell ⟨rb, 0, none⟩ (.slice oq on oc)).drew.cell? ⟨sb, 5, none⟩ = some (.int .i64 (st : Int)) := ⟨hst_.cell y3 Hsr.out, hst_.cell y5 Hsr.out⟩
              go_wp2_with fail
              go_region_held3 (fun w' => w'.cell? ⟨sb, 3, none⟩ = some (.slice oq on oc) ∧ w'.cell? ⟨sb, 5, none⟩ = some (.int .i64 (st : Int))) (first | with_reducible exact hA | with_reducible exact hB | with_reducible exact hC) (fail)
              clear hA hB hC
              go_wp2_with fail
              have hR := row_kept (Chg.refl NoB (wr.setCell ⟨rb, 0, none⟩ (.slice oq on oc))).drew (heap_set Hrr.out (i := 0) (.slice oq on oc)) id
              refine bodyPost_ret (results_cellTT rfl _ rfl (run_loadVar_row _ _ _ _ _ _ _ hR (Tryz.underlying25) rfl rfl)) rfl ?_
              refine RunP.of_eq HN.out.1 HN.out.2.1 HN.out.2.2 ?_
              refine ⟨Hcr.out.transR hst_ fun k hk e => by have := Hrb.out.1; omega, oq, on, oc, ob, oo, Hon.out, rfl, ?_⟩
              exact (Hout.out.move hst_ (S' := NewB w _) fun k hk hs => ⟨by have := hs.1; have := Hrb.out.2; have := Hlo.out; omega, by have := hs.1; have := Hlo.out; have := Hc2.out.size; omega, by have := hst_.size; omega⟩)
            · have e5 := decide_eq_false (show ¬ (st : Int) < 4096 by omega)
              clear hc hE h4 h5
              have hA : wr.cell? ⟨sb, 3, none⟩ = some (.slice oq on oc) ∧ wr.cell? ⟨sb, 5, none⟩ = some (.int .i64 (st : Int)) := ⟨y3, y5⟩
              have hB : wr.drew.cell? ⟨sb, 3, none⟩ = some (.slice oq on oc) ∧ wr.drew.cell? ⟨sb, 5, none⟩ = some (.int .i64 (st : Int)) := ⟨y3, y5⟩
              have hst_ := ((Chg.refl (fun k => k = rb) wr).setCell (p := ⟨rb, 0, none⟩) (.inl rfl) (.slice oq on oc)).drew
              have hC : (wr.setCell ⟨rb, 0, none⟩ (.slice oq on oc)).drew.cell? ⟨sb, 3, none⟩ = some (.slice oq on oc) ∧ (wr.setCell ⟨rb, 0, none⟩ (.slice oq on oc)).drew.cell? ⟨sb, 5, none⟩ = some (.int .i64 (st : Int)) := ⟨hst_.cell y3 Hsr.out, hst_.cell y5 Hsr.out⟩
              go_wp2_with fail
              go_region_held3 (fun w' => w'.cell? ⟨sb, 3, none⟩ = some (.slice oq on oc) ∧ w'.cell? ⟨sb, 5, none⟩ = some (.int .i64 (st : Int))) (first | with_reducible exact hA | with_reducible exact hB | with_reducible exact hC) (fail)
              clear hA hB hC
              go_wp2_with fail
              have hR := row_kept (Chg.refl NoB (wr.setCell ⟨rb, 0, none⟩ (.slice oq on oc))).drew (heap_set Hrr.out (i := 0) (.slice oq on oc)) id
              refine bodyPost_ret (results_cellTT rfl _ rfl (run_loadVar_row _ _ _ _ _ _ _ hR (Tryz.underlying25) rfl rfl)) rfl ?_
              refine RunP.of_eq HN.out.1 HN.out.2.1 HN.out.2.2 ?_
              refine ⟨Hcr.out.transR hst_ fun k hk e => by have := Hrb.out.1; omega, oq, on, oc, ob, oo, Hon.out, rfl, ?_⟩
              exact (Hout.out.move hst_ (S' := NewB w _) fun k hk hs => ⟨by have := hs.1; have := Hrb.out.2; have := Hlo.out; omega, by have := hs.1; have := Hlo.out; have := Hc2.out.size; omega, by have := hst_.size; omega⟩)
        · rw [if_neg (fun h => by cases h.2.1)] at hY
          subst hY
          rw [if_pos rfl] at hE
          have HN := Lib.hid hE
          by_cases h5 : st < 4096
          · have e5 := decide_eq_true (show (st : Int) < 4096 by omega)
            clear hc hE h5
            have hA : wr.cell? ⟨sb, 3, none⟩ = some (.slice oq on oc) ∧ wr.cell? ⟨sb, 5, none⟩ = some (.int .i64 (st : Int)) := ⟨y3, y5⟩
            have hB : wr.drew.cell? ⟨sb, 3, none⟩ = some (.slice oq on oc) ∧ wr.drew.cell? ⟨sb, 5, none⟩ = some (.int .i64 (st : Int)) := ⟨y3, y5⟩
            have hst_ := ((Chg.refl (fun k => k = rb) wr).setCell (p := ⟨rb, 0, none⟩) (.inl rfl) (.slice oq on oc)).drew
            have hC : (wr.setCell ⟨rb, 0, none⟩ (.slice oq on oc)).drew.cell? ⟨sb, 3, none⟩ = some (.slice oq on oc) ∧ (wr.setCell ⟨rb, 0, none⟩ (.slice oq on oc)).drew.cell? ⟨sb, 5, none⟩ = some (.int .i64 (st : Int)) := ⟨hst_.cell y3 Hsr.out, hst_.cell y5 Hsr.out⟩
            go_wp2_with fail
            go_region_held3 (fun w' => w'.cell? ⟨sb, 3, none⟩ = some (.slice oq on oc) ∧ w'.cell? ⟨sb, 5, none⟩ = some (.int .i64 (st : Int))) (first | with_reducible exact hA | with_reducible exact hB | with_reducible exact hC) (fail)
            clear hA hB hC
            go_wp2_with fail
            have hR := row_kept (Chg.refl NoB (wr.setCell ⟨rb, 0, none⟩ (.slice oq on oc))).drew (heap_set Hrr.out (i := 0) (.slice oq on oc)) id
            refine bodyPost_ret (results_cellTT rfl _ rfl (run_loadVar_row _ _ _ _ _ _ _ hR (Tryz.underlying25) rfl rfl)) rfl ?_
            refine RunP.of_eq HN.out.1 HN.out.2.1 HN.out.2.2 ?_
            refine ⟨Hcr.out.transR hst_ fun k hk e => by have := Hrb.out.1; omega, oq, on, oc, ob, oo, Hon.out, rfl, ?_⟩
            exact (Hout.out.move hst_ (S' := NewB w _) fun k hk hs => ⟨by have := hs.1; have := Hrb.out.2; have := Hlo.out; omega, by have := hs.1; have := Hlo.out; have := Hc2.out.size; omega, by have := hst_.size; omega⟩)
          · have e5 := decide_eq_false (show ¬ (st : Int) < 4096 by omega)
            clear hc hE h5
            have hA : wr.cell? ⟨sb, 3, none⟩ = some (.slice oq on oc) ∧ wr.cell? ⟨sb, 5, none⟩ = some (.int .i64 (st : Int)) := ⟨y3, y5⟩
            have hB : wr.drew.cell? ⟨sb, 3, none⟩ = some (.slice oq on oc) ∧ wr.drew.cell? ⟨sb, 5, none⟩ = some (.int .i64 (st : Int)) := ⟨y3, y5⟩
            have hst_ := ((Chg.refl (fun k => k = rb) wr).setCell (p := ⟨rb, 0, none⟩) (.inl rfl) (.slice oq on oc)).drew
            have hC : (wr.setCell ⟨rb, 0, none⟩ (.slice oq on oc)).drew.cell? ⟨sb, 3, none⟩ = some (.slice oq on oc) ∧ (wr.setCell ⟨rb, 0, none⟩ (.slice oq on oc)).drew.cell? ⟨sb, 5, none⟩ = some (.int .i64 (st : Int)) := ⟨hst_.cell y3 Hsr.out, hst_.cell y5 Hsr.out⟩
            go_wp2_with fail
            go_region_held3 (fun w' => w'.cell? ⟨sb, 3, none⟩ = some (.slice oq on oc) ∧ w'.cell? ⟨sb, 5, none⟩ = some (.int .i64 (st : Int))) (first | with_reducible exact hA | with_reducible exact hB | with_reducible exact hC) (fail)
            clear hA hB hC
            go_wp2_with fail
            have hR := row_kept (Chg.refl NoB (wr.setCell ⟨rb, 0, none⟩ (.slice oq on oc))).drew (heap_set Hrr.out (i := 0) (.slice oq on oc)) id
            refine bodyPost_ret (results_cellTT rfl _ rfl (run_loadVar_row _ _ _ _ _ _ _ hR (Tryz.underlying25) rfl rfl)) rfl ?_
            refine RunP.of_eq HN.out.1 HN.out.2.1 HN.out.2.2 ?_
            refine ⟨Hcr.out.transR hst_ fun k hk e => by have := Hrb.out.1; omega, oq, on, oc, ob, oo, Hon.out, rfl, ?_⟩
            exact (Hout.out.move hst_ (S' := NewB w _) fun k hk hs => ⟨by have := hs.1; have := Hrb.out.2; have := Hlo.out; omega, by have := hs.1; have := Hlo.out; have := Hc2.out.size; omega, by have := hst_.size; omega⟩)
      · rw [if_neg (fun h => f0 h.1)] at hY
        rw [hY, if_neg f0] at hE
        clear hY
        have HN := Lib.hid hE
        have f1 : (ft == 0) = false := by rw [beq_eq_false_iff_ne]; exact f0
        have f2 : (ft != 0) = true := by rw [bne_iff_ne]; exact f0
        by_cases h5 : st < 4096
        · have e5 := decide_eq_true (show (st : Int) < 4096 by omega)
          clear hc hE h5 f0
          cases hl
          · skip
            have hA : wr.cell? ⟨sb, 5, none⟩ = some (.int .i64 (st : Int)) ∧ wr.cell? ⟨sb, 7, none⟩ = some (.int .i64 ft) := ⟨y5, y7⟩
            have hB : wr.drew.cell? ⟨sb, 5, none⟩ = some (.int .i64 (st : Int)) ∧ wr.drew.cell? ⟨sb, 7, none⟩ = some (.int .i64 ft) := ⟨y5, y7⟩
            have hst_ := ((Chg.refl (fun k => k = rb) wr).setCell (p := ⟨rb, 0, none⟩) (.inl rfl) (.slice none 0 0)).drew
            have hC : (wr.setCell ⟨rb, 0, none⟩ (.slice none 0 0)).drew.cell? ⟨sb, 5, none⟩ = some (.int .i64 (st : Int)) ∧ (wr.setCell ⟨rb, 0, none⟩ (.slice none 0 0)).drew.cell? ⟨sb, 7, none⟩ = some (.int .i64 ft) := ⟨hst_.cell y5 Hsr.out, hst_.cell y7 Hsr.out⟩
            go_wp2_with fail
            go_region_held3 (fun w' => w'.cell? ⟨sb, 5, none⟩ = some (.int .i64 (st : Int)) ∧ w'.cell? ⟨sb, 7, none⟩ = some (.int .i64 ft)) (first | with_reducible exact hA | with_reducible exact hB | with_reducible exact hC) (fail)
            clear hA hB hC
            go_wp2_with fail
            have hR := row_kept (Chg.refl NoB (wr.setCell ⟨rb, 0, none⟩ (.slice none 0 0))).drew (heap_set Hrr.out (i := 0) (.slice none 0 0)) id
            refine bodyPost_ret (results_cellTT rfl _ rfl (run_loadVar_row _ _ _ _ _ _ _ hR (Tryz.underlying25) rfl rfl)) rfl ?_
            refine RunP.of_eq HN.out.1 HN.out.2.1 HN.out.2.2 ?_
            exact ⟨Hcr.out.transR hst_ fun k hk e => by have := Hrb.out.1; omega, none, 0, 0, 0, 0, rfl, rfl, InpS.nil _ _⟩
          · skip
            have hA : wr.cell? ⟨sb, 5, none⟩ = some (.int .i64 (st : Int)) ∧ wr.cell? ⟨sb, 7, none⟩ = some (.int .i64 ft) := ⟨y5, y7⟩
            have hB : wr.drew.cell? ⟨sb, 5, none⟩ = some (.int .i64 (st : Int)) ∧ wr.drew.cell? ⟨sb, 7, none⟩ = some (.int .i64 ft) := ⟨y5, y7⟩
            have hst_ := ((Chg.refl (fun k => k = rb) wr).setCell (p := ⟨rb, 0, none⟩) (.inl rfl) (.slice none 0 0)).drew
            have hC : (wr.setCell ⟨rb, 0, none⟩ (.slice none 0 0)).drew.cell? ⟨sb, 5, none⟩ = some (.int .i64 (st : Int)) ∧ (wr.setCell ⟨rb, 0, none⟩ (.slice none 0 0)).drew.cell? ⟨sb, 7, none⟩ = some (.int .i64 ft) := ⟨hst_.cell y5 Hsr.out, hst_.cell y7 Hsr.out⟩
            go_wp2_with fail
            go_region_held3 (fun w' => w'.cell? ⟨sb, 5, none⟩ = some (.int .i64 (st : Int)) ∧ w'.cell? ⟨sb, 7, none⟩ = some (.int .i64 ft)) (first | with_reducible exact hA | with_reducible exact hB | with_reducible exact hC) (fail)
            clear hA hB hC
            go_wp2_with fail
            have hR := row_kept (Chg.refl NoB (wr.setCell ⟨rb, 0, none⟩ (.slice none 0 0))).drew (heap_set Hrr.out (i := 0) (.slice none 0 0)) id
            refine bodyPost_ret (results_cellTT rfl _ rfl (run_loadVar_row _ _ _ _ _ _ _ hR (Tryz.underlying25) rfl rfl)) rfl ?_
            refine RunP.of_eq HN.out.1 HN.out.2.1 HN.out.2.2 ?_
            exact ⟨Hcr.out.transR hst_ fun k hk e => by have := Hrb.out.1; omega, none, 0, 0, 0, 0, rfl, rfl, InpS.nil _ _⟩
        · have e5 := decide_eq_false (show ¬ (st : Int) < 4096 by omega)
          clear hc hE h5 f0
          have hA : wr.cell? ⟨sb, 5, none⟩ = some (.int .i64 (st : Int)) ∧ wr.cell? ⟨sb, 7, none⟩ = some (.int .i64 ft) := ⟨y5, y7⟩
          have hB : wr.drew.cell? ⟨sb, 5, none⟩ = some (.int .i64 (st : Int)) ∧ wr.drew.cell? ⟨sb, 7, none⟩ = some (.int .i64 ft) := ⟨y5, y7⟩
          have hst_ := ((Chg.refl (fun k => k = rb) wr).setCell (p := ⟨rb, 0, none⟩) (.inl rfl) (.slice none 0 0)).drew
          have hC : (wr.setCell ⟨rb, 0, none⟩ (.slice none 0 0)).drew.cell? ⟨sb, 5, none⟩ = some (.int .i64 (st : Int)) ∧ (wr.setCell ⟨rb, 0, none⟩ (.slice none 0 0)).drew.cell? ⟨sb, 7, none⟩ = some (.int .i64 ft) := ⟨hst_.cell y5 Hsr.out, hst_.cell y7 Hsr.out⟩
          go_wp2_with fail
          go_region_held3 (fun w' => w'.cell? ⟨sb, 5, none⟩ = some (.int .i64 (st : Int)) ∧ w'.cell? ⟨sb, 7, none⟩ = some (.int .i64 ft)) (first | with_reducible exact hA | with_reducible exact hB | with_reducible exact hC) (fail)
          clear hA hB hC
          go_wp2_with fail
          have hR := row_kept (Chg.refl NoB (wr.setCell ⟨rb, 0, none⟩ (.slice none 0 0))).drew (heap_set Hrr.out (i := 0) (.slice none 0 0)) id
          refine bodyPost_ret (results_cellTT rfl _ rfl (run_loadVar_row _ _ _ _ _ _ _ hR (Tryz.underlying25) rfl rfl)) rfl ?_
          refine RunP.of_eq HN.out.1 HN.out.2.1 HN.out.2.2 ?_
          exact ⟨Hcr.out.transR hst_ fun k hk e => by have := Hrb.out.1; omega, none, 0, 0, 0, 0, rfl, rfl, InpS.nil _ _⟩
end Go.Proofs.YthehpmffkkogpaaGreatDoor
