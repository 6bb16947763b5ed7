/- The document's side: Range. No condition. -/
import Derived.Test.YtaijhebjjbcdfaaGreatDoorSpREnds
import Derived.Test.YtaijhebjjbcdfaaGreatDoorSpTidy

namespace Go.Proofs.YtaijhebjjbcdfaaGreatDoor
set_option linter.unusedVariables false
open Go.ChangeShapes Go.WideShapes Go.ChangeAt Go.RowKit
def boolsV (l : List Bool) : List Value := l.map fun x => .bool x
theorem row_bool {w : World} {base g c n : Nat} {l : List Bool} (h : w.ownsRow base 4 1 (.slice (some ⟨g, 0, none⟩) n c) n (boolsV l)) (m : Nat) (hm : m < l.length) : w.cell? ⟨g, m, none⟩ = some (.bool l[m]) := by
  have b1 := World.ownsRow.cells (g := g) h rfl m (.bool l[m]) (by unfold boolsV; simp [hm])
  rw [add_zero_off] at b1
  exact b1
theorem row_two {w : World} {base g c : Nat} {l : List GapL} {n : Nat} (hn : n = l.length) (h : w.ownsRow base 37 2 (.slice (some ⟨g, 0, none⟩) n c) n (flatG l)) (m : Nat) (hm : m < l.length) (t u : Int) :
    ((w.setCell ⟨g, m * 2, none⟩ (.int .i64 t)).setCell ⟨g, m * 2 + 1, none⟩ (.int .i64 u)).ownsRow base 37 2 (.slice (some ⟨g, 0, none⟩) n c) n (flatG (l.set m (t, u))) := by
  rcases h.2 with ⟨e, h0⟩ | ⟨g', cap, cur, e, k2, k3, k4, k5, k6, k7⟩
  · omega
  · injection e with e1 e2 e3
    injection e1 with e1
    injection e1 with e1
    subst e1
    have hset := heap_set (heap_set k3 (i := m * 2) (.int .i64 t)) (i := m * 2 + 1) (.int .i64 u)
    refine ⟨by rw [flatG_len, List.length_set, hn], .inr ⟨g, cap, _, by rw [e3], k2, hset, k4, k5, by simpa using k6, ?_⟩⟩
    rw [flatG_set l m _ hm, ← k7]
    simp only [Array.toList_setIfInBounds, List.take_set]
def RangeP (d : List GapL) (w : World) (e : Ending) (w' : World) : Prop := Chg NoB w w' ∧ ((16 < d.length ∧ e = .returned (.tuple #[.slice none 0 0, .int .i64 13])) ∨ (d.length ≤ 16 ∧ ∃ q c, e = .returned (.tuple #[.slice q d.length c, .int .i64 0]) ∧ w'.ownsRow w.heap.size 37 2 (.slice q d.length c) d.length (flatG d)))
theorem rangeS_no {out : List GapL} {e e' : Int} : rangeS out e e' false = out := if_neg (by decide)
theorem rangeS_nil {e e' : Int} : rangeS [] e e' true = [(e, e')] := rfl
theorem rangeS_join {o : List GapL} {e e' : Int} {m : Nat} (hm : o.length = m + 1) (h : (o[m]'(by omega)).2 = e) : rangeS o e e' true = o.set m ((o[m]'(by omega)).1, e') := by
  unfold rangeS
  have hl : o.getLast? = some (o[m]'(by omega)) := by
    have e : o.length - 1 = m := by omega
    rw [List.getLast?_eq_getElem?, e]
    exact List.getElem?_eq_getElem _
  rw [if_pos rfl, hl]
  simp only
  rw [if_pos h]
  apply List.ext_getElem
  · simp; omega
  · intro i h1 h2
    rw [List.getElem_set]
    by_cases e : m = i
    · subst e
      rw [if_pos rfl, List.getElem_append_right (by simp; omega)]
      simp
    · rw [if_neg e]
      have : i < m := by simp at h1; omega
      rw [List.getElem_append_left (by simp; omega), List.getElem_dropLast]
theorem rangeS_new {o : List GapL} {e e' : Int} {m : Nat} (hm : o.length = m + 1) (h : ¬ (o[m]'(by omega)).2 = e) : rangeS o e e' true = o ++ [(e, e')] := by
  unfold rangeS
  have hl : o.getLast? = some (o[m]'(by omega)) := by
    have e : o.length - 1 = m := by omega
    rw [List.getLast?_eq_getElem?, e]
    exact List.getElem?_eq_getElem _
  rw [if_pos rfl, hl]
  simp only
  rw [if_neg h]
def bAt (l : List Bool) (i : Nat) : Bool := l.getD i false
theorem bAt_of {l : List Bool} {i : Nat} (h : i < l.length) : bAt l i = l[i] := by unfold bAt; simp [h]
theorem lit2g (w : World) (x y : Int) : ∀ j u, (flatG [(x, y)])[j]? = some u → (w.alloc (.cells #[.int .i64 x, .int .i64 y] 37)).drew.cell? ((⟨w.heap.size, 0, none⟩ : Addr).add j) = some u := fun j u hj => by
  rw [add_zero_off]
  show (w.alloc (.cells #[.int .i64 x, .int .i64 y] 37)).cell? ⟨w.heap.size, j, none⟩ = some u
  rw [cell_of_row _ w.heap.size j _ _ (0, 0) (heap_alloc_new w _)]
  show (flatG [(x, y)]).toArray[j]? = some u
  rw [List.getElem?_toArray]
  exact hj
set_option maxHeartbeats 4000000 in
set_option maxRecDepth 20000 in
theorem range_any (es : List Int) (bs : List Bool) (be bb : Nat) (ve vb : Value) (w : World) (hre : w.ownsRow be 3 1 ve es.length (numsV es)) (hrb : w.ownsRow bb 4 1 vb es.length (boolsV bs)) (hlb : bs.length = es.length) (hl : es.length ≤ 65536) (hpos : 0 < es.length) : Calls Tryz.prog 33 #[ve, vb] w (RangeP (rangeK es (bAt bs) (es.length - 1)) w) := by
  obtain ⟨qe, ce, rfl, h1, h2⟩ := row_shape hre
  obtain ⟨qb, cb, rfl, g1, g2⟩ := row_shape hrb
  obtain ⟨n, hn⟩ : ∃ n, n = es.length := ⟨_, rfl⟩
  rw [← hn] at h1 g1 hre hrb hl hlb hpos ⊢
  have Hre := Lib.hid hre
  have Hrb := Lib.hid hrb
  have Hn := Lib.hid hn
  have Hlb := Lib.hid hlb
  unfold maxLen at h2 g2
  obtain ⟨ge, rfl⟩ : ∃ g, qe = some ⟨g, 0, none⟩ := by
    rcases Hre.out.2 with ⟨e, h0⟩ | ⟨g', cap, cur, e, _⟩
    · omega
    · exact ⟨g', by injection e⟩
  obtain ⟨gb, rfl⟩ : ∃ g, qb = some ⟨g, 0, none⟩ := by
    rcases Hrb.out.2 with ⟨e, h0⟩ | ⟨g', cap, cur, e, _⟩
    · omega
    · exact ⟨g', by injection e⟩
  obtain ⟨r, hr⟩ : ∃ r, r = rangeK es (bAt bs) (n - 1) := ⟨_, rfl⟩
  rw [← hr]
  have Hr := Lib.hid hr
  clear hre hrb hn hlb hr
  go_enter Tryz.func33, Tryz.ntmps33
  go_wp2_with fail
  go_loopw [6, 7] (fun ov i wr => ∃ (k m c' : Nat) (q' : Option Addr) (o : List GapL), k + 1 ≤ n ∧ i = .int .i64 k ∧ ov = .slice q' m c' ∧ m = o.length ∧ m ≤ k ∧ o = rangeK es (bAt bs) k ∧ wr.ownsRow w.heap.size 37 2 (.slice q' m c') m (flatG o) ∧ Chg NoB w wr) (fun _ i _ => n - (intOf i).toNat)
  case atStart => exact ⟨0, 0, 0, none, [], by omega, rfl, rfl, rfl, Nat.le_refl _, rfl, World.ownsRow_nil _ _ _ _, Chg.refl _ _⟩
  case round =>
    obtain ⟨k, m, c', q', o, hk, rfl, rfl, hm, hmk, ho, hor, hch⟩ := hrel
    have Hm := Lib.hid hm
    have Ho := Lib.hid ho
    have Hor := Lib.hid hor
    have Hch := Lib.hid hch
    clear hm ho hor hch
    by_cases hlt : k + 1 < n
    · have f0 : decide ((k : Int) + 1 < (n : Int)) = true := decide_eq_true (by omega)
      have hk1 : k < n := by omega
      have hw1 : IntKind.i64.wrap ((k : Int) + 1) = (k : Int) + 1 := by rw [IntKind.wrap_i64]; omega
      have hk2 : (k : Int) < (n : Int) := by omega
      have hk3 : (k : Int) + 1 < (n : Int) := by omega
      have hk4 : (0 : Int) ≤ (k : Int) + 1 := by omega
      have hkb : k < bs.length := by rw [Hlb.out]; omega
      have c0 := Hch.out.keep (row_bool Hrb.out k hkb)
      rw [← bAt_of hkb] at c0
      have hks : k < es.length := by rw [← Hn.out]; omega
      have hks' : k + 1 < es.length := by rw [← Hn.out]; omega
      have c1 := Hch.out.keep (row_num Hre.out k hks)
      have c2 := Hch.out.keep (row_num Hre.out (k + 1) hks')
      rw [← eAt_of hks] at c1
      rw [← eAt_of hks'] at c2
      have Hsn := Lib.hid (show rangeK es (bAt bs) (k + 1) = rangeS o (eAt es k) (eAt es (k + 1)) (bAt bs k) by rw [Ho.out]; rfl)
      generalize eAt es k = x at *
      generalize eAt es (k + 1) = y at *
      obtain ⟨b, hb⟩ : ∃ b, bAt bs k = b := ⟨_, rfl⟩
      rw [hb] at c0 Hsn
      clear hkb hks hks' hb
      cases b with
      | false =>
        have Hst := Lib.hid (show o = rangeK es (bAt bs) (k + 1) by rw [Hsn.out, rangeS_no])
        clear c1 c2
        go_wp2_with fail
        go_roundw
        case rel => exact ⟨k + 1, m, c', q', o, by omega, by go_num, rfl, Hm.out, by omega, Hst.out, Hor.out, Hch.out⟩
        case measure => simp [intOf]; omega
      | true =>
      by_cases hm0 : m = 0
      · have ho0 : o = [] := List.eq_nil_of_length_eq_zero (by rw [← Hm.out]; exact hm0)
        have Hst := Lib.hid (show rangeK es (bAt bs) (k + 1) = o ++ [(x, y)] by rw [Hsn.out, ho0]; rfl)
        have el : decide ((1 : Int) ≤ (m : Int)) = false := decide_eq_false (by omega)
        clear ho0 hm0
        go_upto_region 7 with fail
        go_quiet (fail)
        have hch3 := (Chg.refl NoB wr).drewN nq
        replace c1 := hch3.keep c1
        replace c2 := hch3.keep c2
        have Hor3 := Lib.hid (ownsRow_chg Hor.out hch3 fun _ _ => id)
        have Hc3 := Lib.hid (Hch.out.trans hch3)
        clear hch3 el
        generalize wr.drewN nq = w3 at *
        go_upto_region 11 with fail
        have Hal := Lib.hid ((Chg.refl NoB w3).alloc (.cells #[.int .i64 x, .int .i64 y] 37))
        obtain ⟨i0, hi, hz0, hz1, hz2⟩ := info_parts gapInfo
        have Hi := Lib.hid hi
        have Zi0 := Lib.hid hz0
        have Zi1 := Lib.hid hz1
        have Zi2 := Lib.hid hz2
        have N1 := Lib.hid (show m + 1 ≤ maxLen by unfold maxLen; omega)
        have N2 := Lib.hid (show (m + 1) * 16 ≤ 140737488355328 by omega)
        have Hb := Lib.hid (show w.heap.size ≤ (w3.alloc (.cells #[.int .i64 x, .int .i64 y] 37)).drew.heap.size from Nat.le_trans Hc3.out.size Hal.out.size)
        have HO := Lib.hid (ownsRow_chg Hor3.out (Hal.out.drew) fun _ _ => id)
        have y1 := Hal.out.keep c1
        have y2 := Hal.out.keep c2
        clear hi hz0 hz1 hz2
        go_region_law (refine step_append_at (by rfl) _ (.tmp 53) (.tmp 64) 23 (by rfl) w.heap.size 37 i0 (.agg #[.int .i64 0, .int .i64 0]) 2 16 Tryz.underlying23 Hi.out Zi0.out Zi1.out Zi2.out rfl (by decide) _ m (flatG o) (by rfl) HO.out ⟨w3.heap.size, 0, none⟩ 1 1 (flatG [(x, y)]) (by rfl) rfl (lit2g w3 x y) (flatG_one [(x, y)]) N1.out N2.out Hb.out ?_; intro sv' w9 hown hgr hpl; obtain ⟨q9, c9, rfl, -, -⟩ := row_shape hown)
        all_goals
          have Hown9 := Lib.hid (show w9.ownsRow w.heap.size 37 2 (.slice q9 (m + 1) c9) (m + 1) (flatG (o ++ [(x, y)])) by rw [flatG_app]; exact hown)
          have Hc9 := Lib.hid ((Hc3.out.trans Hal.out.drew).above ((Chg.refl _ _).grown hgr (fun j hj => .inl hj)) fun j hj => (World.ownsRow.lt HO.out j hj).1)
          clear hown hgr hpl y1 y2 c1 c2
          go_wp2_with fail
          go_roundw
          case rel => exact ⟨k + 1, m + 1, c9, q9, o ++ [(x, y)], by omega, by go_num, rfl, by rw [List.length_append, ← Hm.out]; rfl, by omega, Hst.out.symm, Hown9.out, Hc9.out⟩
          case measure => simp [intOf]; omega
      · obtain ⟨p, rfl⟩ : ∃ p, m = p + 1 := ⟨m - 1, by omega⟩
        have hol : o.length = p + 1 := Hm.out.symm
        have hpo : p < o.length := by omega
        obtain ⟨og, rfl⟩ : ∃ og, q' = some ⟨og, 0, none⟩ := by
          rcases Hor.out.2 with ⟨e, h0⟩ | ⟨g', cap, cur, e, _⟩
          · omega
          · exact ⟨g', by injection e⟩
        obtain ⟨t1, t2⟩ := row_cellG Hor.out p hpo
        have Hjoin := Lib.hid (fun hj => rangeS_join (e := x) (e' := y) hol hj)
        have Hnew := Lib.hid (fun hj => rangeS_new (e := x) (e' := y) hol hj)
        have Htwo := Lib.hid (fun (w' : World) (h : w'.ownsRow w.heap.size 37 2 (.slice (some ⟨og, 0, none⟩) (p + 1) c') (p + 1) (flatG o)) (u v : Int) => row_two hol.symm h p hpo u v)
        have Hog := Lib.hid (World.ownsRow.lt Hor.out og rfl)
        obtain ⟨tg, htg⟩ : ∃ z, z = o[p] := ⟨_, rfl⟩
        rw [← htg] at t1 t2
        simp only [← htg] at Hjoin Hnew
        obtain ⟨x1, x2⟩ := tg
        simp only at t1 t2 Hjoin Hnew
        have hp0 : (0 : Int) ≤ (p : Int) := by omega
        have hp1 : (p : Int) < ((p + 1 : Nat) : Int) := by omega
        clear hol hpo htg hm0
        go_upto_region 7 with fail
        obtain ⟨bq, fq⟩ : ∃ b, (x2 == x) = b := ⟨_, rfl⟩
        have q1 : ∀ n, (wr.drewN n).cell? ⟨og, p * 2 + 1, none⟩ = some (.int .i64 x2) := fun n => t2
        have q2 : ∀ n, (wr.drewN n).cell? ⟨ge, k, none⟩ = some (.int .i64 x) := fun n => c1
        cases bq with
        | false =>
          have Hst := Lib.hid (show rangeK es (bAt bs) (k + 1) = o ++ [(x, y)] by rw [Hsn.out]; exact Hnew.out (by simpa using fq))
          go_quiet (fail)
          have hch3 := (Chg.refl NoB wr).drewN nq
          replace c1 := hch3.keep c1
          replace c2 := hch3.keep c2
          have Hor3 := Lib.hid (ownsRow_chg Hor.out hch3 fun _ _ => id)
          have Hc3 := Lib.hid (Hch.out.trans hch3)
          clear hch3 fq q1 q2 t1 t2 Hjoin Hnew Htwo
          generalize wr.drewN nq = w3 at *
          go_upto_region 11 with fail
          have Hal := Lib.hid ((Chg.refl NoB w3).alloc (.cells #[.int .i64 x, .int .i64 y] 37))
          obtain ⟨i0, hi, hz0, hz1, hz2⟩ := info_parts gapInfo
          have Hi := Lib.hid hi
          have Zi0 := Lib.hid hz0
          have Zi1 := Lib.hid hz1
          have Zi2 := Lib.hid hz2
          have N1 := Lib.hid (show (p + 1) + 1 ≤ maxLen by unfold maxLen; omega)
          have N2 := Lib.hid (show ((p + 1) + 1) * 16 ≤ 140737488355328 by omega)
          have Hb := Lib.hid (show w.heap.size ≤ (w3.alloc (.cells #[.int .i64 x, .int .i64 y] 37)).drew.heap.size from Nat.le_trans Hc3.out.size Hal.out.size)
          have HO := Lib.hid (ownsRow_chg Hor3.out (Hal.out.drew) fun _ _ => id)
          have y1 := Hal.out.keep c1
          have y2 := Hal.out.keep c2
          clear hi hz0 hz1 hz2
          go_region_law (refine step_append_at (by rfl) _ (.tmp 53) (.tmp 64) 23 (by rfl) w.heap.size 37 i0 (.agg #[.int .i64 0, .int .i64 0]) 2 16 Tryz.underlying23 Hi.out Zi0.out Zi1.out Zi2.out rfl (by decide) _ (p + 1) (flatG o) (by rfl) HO.out ⟨w3.heap.size, 0, none⟩ 1 1 (flatG [(x, y)]) (by rfl) rfl (lit2g w3 x y) (flatG_one [(x, y)]) N1.out N2.out Hb.out ?_; intro sv' w9 hown hgr hpl; obtain ⟨q9, c9, rfl, -, -⟩ := row_shape hown)
          all_goals
            have Hown9 := Lib.hid (show w9.ownsRow w.heap.size 37 2 (.slice q9 ((p + 1) + 1) c9) ((p + 1) + 1) (flatG (o ++ [(x, y)])) by rw [flatG_app]; exact hown)
            have Hc9 := Lib.hid ((Hc3.out.trans Hal.out.drew).above ((Chg.refl _ _).grown hgr (fun j hj => .inl hj)) fun j hj => (World.ownsRow.lt HO.out j hj).1)
            clear hown hgr hpl y1 y2 c1 c2
            go_wp2_with fail
            go_roundw
            case rel => exact ⟨k + 1, (p + 1) + 1, c9, q9, o ++ [(x, y)], by omega, by go_num, rfl, by rw [List.length_append, ← Hm.out]; rfl, by omega, Hst.out.symm, Hown9.out, Hc9.out⟩
            case measure => simp [intOf]; omega
        | true =>
          have Hst := Lib.hid (show rangeK es (bAt bs) (k + 1) = o.set p (x1, y) by rw [Hsn.out]; exact Hjoin.out (by simpa using fq))
          go_quiet (fail)
          have hch3 := (Chg.refl NoB wr).drewN nq
          replace c2 := hch3.keep c2
          replace t1 := hch3.keep t1
          replace t2 := hch3.keep t2
          have Hor3 := Lib.hid (ownsRow_chg Hor.out hch3 fun _ _ => id)
          have Hc3 := Lib.hid (Hch.out.trans hch3)
          clear hch3 fq q1 q2 c1 Hjoin Hnew
          generalize wr.drewN nq = w3 at *
          have hal_ := (Chg.refl NoB w3).alloc (.cells #[.int .i64 x1, .int .i64 x2] 37)
          have hb_ := heap_alloc_new w3 (.cells #[.int .i64 x1, .int .i64 x2] 37)
          obtain ⟨b9, hxb_⟩ : ∃ b, b = w3.heap.size := ⟨_, rfl⟩
          obtain ⟨w5, hw_⟩ : ∃ w_, w3.alloc (.cells #[.int .i64 x1, .int .i64 x2] 37) = w_ := ⟨_, rfl⟩
          have hz_ : w5.heap.size = b9 + 1 := by rw [← hw_, hxb_]; exact alloc_size _ _
          rw [hw_] at hal_ hb_
          rw [← hxb_] at hb_
          have Hw9 := Lib.hid hw_
          have Hx9 := Lib.hid hxb_
          have Ha9 := Lib.hid hal_
          have Hb9 := Lib.hid hb_
          have Hz9 := Lib.hid hz_
          clear hal_ hb_ hxb_ hw_ hz_
          obtain ⟨d0, d1⟩ := var2 Hb9.out
          have fr9 := row_free Hb9.out
          have hbl : ge < w3.heap.size := cell_lt c2
          have Hor5 := Lib.hid (ownsRow_chg Hor3.out Ha9.out fun _ _ => id)
          have Hc5 := Lib.hid (Hc3.out.trans Ha9.out)
          replace c2 := Ha9.out.keep c2
          have t1' := Ha9.out.keep t1
          have t2' := Ha9.out.keep t2
          have fr4 := row_freeG Hor5.out
          have hne : ¬ b9 = og := by have := (World.ownsRow.lt Hor3.out og rfl).2; have := Hx9.out; omega
          have hne' : ¬ og = b9 := fun e => hne e.symm
          have hne2 : ¬ b9 = ge := by have := Hx9.out; omega
          have hne2' : ¬ ge = b9 := fun e => hne2 e.symm
          go_upto_region 9 with fail
          rw [Hw9.out, ← Hx9.out]
          have Hst6 := Lib.hid (((Chg.refl (fun k => k = b9) w5).setCell (p := ⟨b9, 1, none⟩) (.inl rfl) (.int .i64 y)))
          have Hb9l := Lib.hid (show w.heap.size ≤ b9 by have := Hc3.out.size; have := Hx9.out; omega)
          have Hne' := Lib.hid hne'
          go_wp2_with fail
          go_roundw
          case rel => exact ⟨k + 1, p + 1, c', some ⟨og, 0, none⟩, o.set p (x1, y), by omega, by go_num, rfl, by rw [List.length_set]; exact Hm.out, by omega, Hst.out.symm, Htwo.out _ (ownsRow_chg Hor5.out Hst6.out fun j hj e => Hne'.out (by cases hj; exact e)) x1 y, ((Hc5.out.setCell (.inr Hb9l.out) _).setCell (.inr Hog.out.1) _).setCell (.inr Hog.out.1) _⟩
          case measure => simp [intOf]; omega
    · obtain rfl : k + 1 = n := by omega
      have f0 : decide ((k : Int) + 1 < ((k + 1 : Nat) : Int)) = false := decide_eq_false (by omega)
      have Hfin := Lib.hid (show o = r by rw [Ho.out, Hr.out]; rfl)
      obtain rfl := Hfin.out
      by_cases h16 : 16 < m
      · have f1 : decide ((16 : Int) < (m : Int)) = true := decide_eq_true (by omega)
        go_wp2_with fail
        go_ret2
        exact ⟨Hch.out, .inl ⟨by rw [← Hm.out]; exact h16, rfl⟩⟩
      · have f1 : decide ((16 : Int) < (m : Int)) = false := decide_eq_false (by omega)
        go_wp2_with fail
        go_ret2
        refine ⟨Hch.out, .inr ⟨by rw [← Hm.out]; omega, q', c', ?_, ?_⟩⟩
        · rw [← Hm.out]; rfl
        · rw [← Hm.out]; exact Hor.out
end Go.Proofs.YtaijhebjjbcdfaaGreatDoor
