/- The document's side: Parse. Condition: what bound answers (hB). -/
import Derived.Test.YtaijhebjjbcdfaaGreatDoorSpRTerms
import Derived.Test.YtaijhebjjbcdfaaGreatDoorSpRBoth
import Derived.Test.YtaijhebjjbcdfaaGreatDoorSpParse

namespace Go.Proofs.YtaijhebjjbcdfaaGreatDoor
set_option linter.unusedVariables false
open Go.ChangeShapes Go.WideShapes Go.ChangeAt Go.RowKit Go.Lib
/- the gaps that are not empty -/
def fullL (l : List GapL) : List GapL := l.filter fun g => decide (g.1 < g.2)
theorem full_in (l : List GapL) (n : Int) : inG (fullL l) n = inG l n := by
  induction l with
  | nil => rfl
  | cons g r ih =>
    unfold fullL at ih ⊢
    rw [List.filter_cons]
    by_cases h : g.1 < g.2
    · rw [if_pos (decide_eq_true h), inG_cons, inG_cons, ih]
    · rw [if_neg (fun e => h (of_decide_eq_true e)), inG_cons, ih, show inOne g n = false from decide_eq_false (by omega)]
      rfl
theorem full_snoc (l : List GapL) (g : GapL) : fullL (l ++ [g]) = fullL l ++ (if g.1 < g.2 then [g] else []) := by
  unfold fullL
  rw [List.filter_append]
  congr 1
  rw [List.filter_cons]
  simp
theorem full_len (l : List GapL) : (fullL l).length ≤ l.length := List.length_filter_le _ _
theorem pieces_row (t : List UInt8) (w : World) (hl : t.length ≤ 65536) : Calls Tryz.prog 29 #[.string (tx t), .int .u8 32] w fun e w' => ∃ (q : Option Addr) (n c : Nat), n = (Lib.split t [32]).length ∧ e = .returned (.slice q n c) ∧ w'.ownsRow w.heap.size 9 1 (.slice q n c) n (strsV (strL (Lib.split t [32]))) ∧ Chg NoB w w' :=
  (show Calls Tryz.prog 29 #[.string (tx t), .int .u8 32] w _ from Ver.pieces_any (tx t) 32 w (by rw [tx_size]; exact hl)).mono fun e w' h => by
    obtain ⟨v, rfl, h1, h2⟩ := h
    rw [tx_list, pcs_split t.length t (Nat.le_refl _)] at h1
    obtain ⟨q, c, rfl, -, -⟩ := row_shape h1
    refine ⟨q, _, c, rfl, rfl, ?_, chg_of_below h2⟩
    have e : Ver.strs (Lib.split t [32]) = strsV (strL (Lib.split t [32])) := by
      unfold Ver.strs strsV strL
      rw [List.map_map]
      rfl
    rw [← e]
    exact h1
theorem strL_at {l : List (List UInt8)} {k : Nat} (h : k < l.length) : (strL l)[k]? = some (tx l[k]) := by unfold strL; simp [h]
theorem foldT_at {l : List (List UInt8)} {k : Nat} (h : k < l.length) (g : GapL) (hg : (l.take k).foldl stepT (some (0, allG)) = some g) : (l.take (k + 1)).foldl stepT (some (0, allG)) = (compL l[k]).map (commonG g) := by
  rw [take_at h, List.foldl_append, hg]
  rfl
theorem foldP_at {l : List (List UInt8)} {k : Nat} (h : k < l.length) (gs : List GapL) (hg : (l.take k).foldl stepP (some []) = some gs) : (l.take (k + 1)).foldl stepP (some []) = (termL l[k]).map fun g => gs ++ [g] := by
  rw [take_at h, List.foldl_append, hg]
  rfl
theorem foldT_dead {l : List (List UInt8)} {k : Nat} (h : (l.take k).foldl stepT (some (0, allG)) = none) : l.foldl stepT (some (0, allG)) = none := by
  conv => lhs; rw [← List.take_append_drop k l]
  rw [List.foldl_append, h, stepT_none]
theorem foldP_dead {l : List (List UInt8)} {k : Nat} (h : (l.take k).foldl stepP (some []) = none) : l.foldl stepP (some []) = none := by
  conv => lhs; rw [← List.take_append_drop k l]
  rw [List.foldl_append, h, stepP_none]
def BndP (s : List UInt8) (w : World) (e : Ending) (w' : World) : Prop := e = .returned (.tuple #[.agg (encG ((compL s).getD (0, 0))).toArray, .bool (compL s).isSome]) ∧ Chg NoB w w'
set_option maxHeartbeats 8000000 in
set_option maxRecDepth 20000 in
theorem rparse_main (s : List UInt8) (w : World) (h1 : s.length ≤ 256) (h2 : s ≠ noneT) (hB : ∀ (t : List UInt8) (W : World), t.length ≤ 256 → Calls Tryz.prog 30 #[.string (tx t)] W (BndP t W)) : Calls Tryz.prog 10 #[.string (tx s)] w (PsP s w) := by
  have hss : (tx s).size = s.length := tx_size s
  have e0 : ((tx s).toList == [110, 111, 110, 101]) = false := by rw [txL]; simpa [noneT] using h2
  have f0 : decide ((256 : Int) < (s.length : Int)) = false := decide_eq_false (by omega)
  have H1 := Lib.hid h1
  have H2 := Lib.hid h2
  have HB := Lib.hid hB
  have HT := Lib.hid (terms_any s w (by omega))
  have Hps := Lib.hid (show ∀ p ∈ Lib.split s barT, p.length ≤ 256 from fun p hp => Nat.le_trans ((spl_len (sep := barT) (by decide) s.length s (Nat.le_refl _)).1 p hp) h1)
  have Hpn := Lib.hid (show (Lib.split s barT).length ≤ 257 from Nat.le_trans (spl_len (sep := barT) (by decide) s.length s (Nat.le_refl _)).2 (by omega))
  have Hgl := Lib.hid (show gapsL s = (Lib.split s barT).foldl stepP (some []) from rfl)
  clear h1 h2 hB
  go_enter Tryz.func10, Tryz.ntmps10
  go_wp2_with fail
  refine HT.out.mono ?_
  rintro e w1 ⟨q, n, c, hn, rfl, hrow, hc1⟩
  generalize Lib.split s barT = ps at *
  have Hn := Lib.hid hn
  have Hrow := Lib.hid hrow
  have Hc1 := Lib.hid hc1
  have hn257 : n ≤ 257 := by rw [hn]; exact Hpn.out
  clear hn hrow hc1 HT e0 f0
  go_wp2_with fail
  go_loopw [4, 24] (fun av i wr => ∃ (k m c' : Nat) (q' : Option Addr) (gs : List GapL), k ≤ n ∧ m ≤ k ∧ i = .int .i64 k ∧ av = .slice q' m c' ∧ m = (fullL gs).length ∧ (ps.take k).foldl stepP (some []) = some gs ∧ wr.ownsRow w1.heap.size 37 2 (.slice q' m c') m (flatG (fullL gs)) ∧ Chg NoB w1 wr) (fun _ i _ => n - (intOf i).toNat)
  case atStart => exact ⟨0, 0, 0, none, [], Nat.zero_le _, Nat.le_refl _, rfl, rfl, rfl, rfl, World.ownsRow_nil _ _ _ _, Chg.refl _ _⟩
  case round =>
    obtain ⟨k, m, c', q', gs, hk, hmk, rfl, rfl, hm, hgs, hor, hch⟩ := hrel
    have Hm := Lib.hid hm
    have Hgs := Lib.hid hgs
    have Hor := Lib.hid hor
    have Hch := Lib.hid hch
    clear hm hgs hor hch
    by_cases hlt : k < n
    · have hkl : k < ps.length := by rw [← Hn.out]; exact hlt
      obtain ⟨g, rfl⟩ : ∃ g, q = some ⟨g, 0, none⟩ := by
        rcases Hrow.out.2 with ⟨e, h0⟩ | ⟨g', cap, cur, e, _⟩
        · omega
        · exact ⟨g', by injection e⟩
      have c0 := Hch.out.keep (row_str Hrow.out k _ (strL_at hkl))
      have Hst := Lib.hid (foldP_at hkl gs Hgs.out)
      have hpl := Hps.out _ (List.getElem_mem hkl)
      generalize ps[k] = t at *
      clear hkl
      have hal_ := (Chg.refl NoB wr).alloc (.cells #[.int .i64 0, .int .i64 1000000000] 37)
      have hb_ := heap_alloc_new wr (.cells #[.int .i64 0, .int .i64 1000000000] 37)
      obtain ⟨b7, hxb_⟩ : ∃ b, b = wr.heap.size := ⟨_, rfl⟩
      obtain ⟨w2, hw_⟩ : ∃ w_, wr.alloc (.cells #[.int .i64 0, .int .i64 1000000000] 37) = w_ := ⟨_, rfl⟩
      have hz_ : w2.heap.size = b7 + 1 := by rw [← hw_, hxb_]; exact alloc_size _ _
      rw [hw_] at hal_ hb_
      rw [← hxb_] at hb_
      have Hw7 := Lib.hid hw_
      have Hx7 := Lib.hid hxb_
      have Ha7 := Lib.hid hal_
      have Hb7 := Lib.hid hb_
      have Hz7 := Lib.hid hz_
      clear hal_ hb_ hxb_ hw_ hz_
      have Hc2 := Lib.hid (Hch.out.trans Ha7.out)
      have HPc := Lib.hid (pieces_row t w2 (by omega))
      have Hpt := Lib.hid (show ∀ p ∈ Lib.split t [32], p.length ≤ 256 from fun p hp => Nat.le_trans ((spl_len (sep := [32]) (by decide) t.length t (Nat.le_refl _)).1 p hp) hpl)
      have Hptn := Lib.hid (show (Lib.split t [32]).length ≤ 257 from Nat.le_trans (spl_len (sep := [32]) (by decide) t.length t (Nat.le_refl _)).2 (by omega))
      have Htl := Lib.hid (show termL t = (Lib.split t [32]).foldl stepT (some (0, allG)) from rfl)
      go_upto_region 10 with fail
      rw [Hw7.out, ← Hx7.out]
      clear c0 hpl
      go_wp2_with fail
      refine HPc.out.mono ?_
      rintro e w3 ⟨qp, np, cp, hnp, rfl, hrp, hc3⟩
      generalize Lib.split t [32] = cs at *
      have Hnp := Lib.hid hnp
      have Hrp := Lib.hid hrp
      have Hc3 := Lib.hid (Hc2.out.trans hc3)
      have Hb73 := Lib.hid (row_kept hc3 Hb7.out id)
      have hnp257 : np ≤ 257 := by rw [hnp]; exact Hptn.out
      have Hb7w := Lib.hid (show w1.heap.size ≤ b7 ∧ b7 < w2.heap.size from by have := Hx7.out; have := Hch.out.size; have := Hz7.out; omega)
      have Hor3 := Lib.hid (ownsRow_chg Hor.out (Ha7.out.trans hc3) fun _ _ => id)
      have Hob := Lib.hid (show ∀ j, (Value.slice q' m c').ownBlock = some j → ¬ j = b7 from fun j e x => by have := (World.ownsRow.lt Hor.out j e).2; have := Hx7.out; omega)
      clear hnp hrp hc3 HPc
      go_wp2_with fail
      go_loopw [32] (fun i wq => ∃ (j : Nat) (gg : GapL), j ≤ np ∧ i = .int .i64 j ∧ (cs.take j).foldl stepT (some (0, allG)) = some gg ∧ wq.heap[b7]? = some (.cells #[.int .i64 gg.1, .int .i64 gg.2] 37 (0, 0)) ∧ Chg (fun k => k = b7) w3 wq) (fun i _ => np - (intOf i).toNat)
      case atStart => exact ⟨0, (0, allG), Nat.zero_le _, rfl, rfl, Hb73.out, Chg.refl _ _⟩
      case round =>
        obtain ⟨j, gg, hj, rfl, hgg, hb7, hch3⟩ := hrel
        have Hgg := Lib.hid hgg
        have Hb7q := Lib.hid hb7
        have Hch3 := Lib.hid hch3
        clear hgg hb7 hch3
        by_cases hlt2 : j < np
        · have hjl : j < cs.length := by rw [← Hnp.out]; exact hlt2
          obtain ⟨gp, rfl⟩ : ∃ g, qp = some ⟨g, 0, none⟩ := by
            rcases Hrp.out.2 with ⟨e, h0⟩ | ⟨g', cap, cur, e, _⟩
            · omega
            · exact ⟨g', by injection e⟩
          have hgpb : ¬ gp = b7 := by have := (World.ownsRow.lt Hrp.out gp rfl).1; have := Hb7w.out; omega
          have c0 := Hch3.out.keepO (show ¬ gp = b7 from hgpb) (row_str Hrp.out j _ (strL_at hjl))
          have Hst2 := Lib.hid (foldT_at hjl gg Hgg.out)
          have HBp := Lib.hid (HB.out _ wr (Hpt.out _ (List.getElem_mem hjl)))
          generalize cs[j] = p at *
          unfold BndP at HBp
          generalize compL p = cl at *
          clear hjl hgpb
          cases cl with
          | none =>
            have HB2 := Lib.hid (show Calls Tryz.prog 30 #[.string (tx p)] wr (fun e w' => e = .returned (.tuple #[.agg #[.int .i64 0, .int .i64 0], .bool false]) ∧ Chg NoB wr w') from HBp.out)
            clear HBp
            have Hno := Lib.hid (show gapsL s = none from by
              rw [Hgl.out]
              refine foldP_dead (k := k + 1) ?_
              rw [Hst.out, Htl.out, foldT_dead (k := j + 1) Hst2.out]
              rfl)
            go_wp2_with fail
            refine HB2.out.mono ?_
            rintro e w5 ⟨rfl, hc5⟩
            have Hc5 := Lib.hid (((Hc1.out.trans Hc3.out).above Hch3.out (fun x hx => by rw [hx]; have := Hb7w.out; have := Hc1.out.size; omega)).trans hc5)
            clear hc5
            have hal_ := (Chg.refl NoB w5).alloc (.cells #[.int .i64 0, .int .i64 0] 37)
            have hb_ := heap_alloc_new w5 (.cells #[.int .i64 0, .int .i64 0] 37)
            obtain ⟨b10, hxb_⟩ : ∃ b, b = w5.heap.size := ⟨_, rfl⟩
            obtain ⟨w6, hw_⟩ : ∃ w_, w5.alloc (.cells #[.int .i64 0, .int .i64 0] 37) = w_ := ⟨_, rfl⟩
            have hz_ : w6.heap.size = b10 + 1 := by rw [← hw_, hxb_]; exact alloc_size _ _
            rw [hw_] at hal_ hb_
            rw [← hxb_] at hb_
            have Hw10 := Lib.hid hw_
            have Hx10 := Lib.hid hxb_
            have Ha10 := Lib.hid hal_
            have Hb10 := Lib.hid hb_
            have Hz10 := Lib.hid hz_
            clear hal_ hb_ hxb_ hw_ hz_
            have Hc6 := Lib.hid (Hc5.out.trans Ha10.out)
            go_upto_region 14 with fail
            rw [Hw10.out, ← Hx10.out]
            go_wp2_with fail
            go_ret2
            exact ⟨Hc6.out, .inr (.inr (.inl ⟨H1.out, H2.out, Hno.out, rfl⟩))⟩
          | some d =>
            obtain ⟨d1, d2⟩ := d
            obtain ⟨g1, g2⟩ := gg
            have HB2 := Lib.hid (show Calls Tryz.prog 30 #[.string (tx p)] wr (fun e w' => e = .returned (.tuple #[.agg #[.int .i64 d1, .int .i64 d2], .bool true]) ∧ Chg NoB wr w') from HBp.out)
            clear HBp
            go_wp2_with fail
            refine HB2.out.mono ?_
            rintro e w5 ⟨rfl, hc5⟩
            have hal_ := (Chg.refl NoB w5).alloc (.cells #[.int .i64 d1, .int .i64 d2] 37)
            have hb_ := heap_alloc_new w5 (.cells #[.int .i64 d1, .int .i64 d2] 37)
            obtain ⟨b10, hxb_⟩ : ∃ b, b = w5.heap.size := ⟨_, rfl⟩
            obtain ⟨w6, hw_⟩ : ∃ w_, w5.alloc (.cells #[.int .i64 d1, .int .i64 d2] 37) = w_ := ⟨_, rfl⟩
            have hz_ : w6.heap.size = b10 + 1 := by rw [← hw_, hxb_]; exact alloc_size _ _
            rw [hw_] at hal_ hb_
            rw [← hxb_] at hb_
            have Hw10 := Lib.hid hw_
            have Hx10 := Lib.hid hxb_
            have Ha10 := Lib.hid hal_
            have Hb10 := Lib.hid hb_
            have Hz10 := Lib.hid hz_
            clear hal_ hb_ hxb_ hw_ hz_
            have Hb76 := Lib.hid (row_kept (hc5.trans Ha10.out) Hb7q.out id)
            have Hch6 := Lib.hid (Hch3.out.trans ((hc5.trans Ha10.out).mono fun _ _ x => x.elim))
            have hne : ¬ b10 = b7 := by have := lt_of_block Hb7q.out; have := Hx10.out; have := hc5.size; omega
            have hne' : ¬ b7 = b10 := fun e => hne e.symm
            obtain ⟨t0, t1⟩ := var2 Hb76.out
            obtain ⟨u0, u1⟩ := var2 Hb10.out
            have f7 := row_free Hb76.out
            clear hc5 HB2
            go_upto_region 14 with fail
            rw [Hw10.out, ← Hx10.out]
            by_cases l1 : g1 < d1
            · have x1 := decide_eq_true l1
              by_cases l2 : d2 < g2
              · have x2 := decide_eq_true l2
                have Hcm := Lib.hid (show commonG (g1, g2) (d1, d2) = (d1, d2) by unfold commonG; ext <;> simp only <;> omega)
                have Hnew := Lib.hid (show (cs.take (j + 1)).foldl stepT (some (0, allG)) = some (d1, d2) by rw [Hst2.out]; exact congrArg some Hcm.out)
                have Hrw := Lib.hid ((heap_set (heap_set Hb76.out (i := 0) (.int .i64 d1)) (i := 1) (.int .i64 d2)))
                have Hcg := Lib.hid ((Hch6.out.setCell (p := ⟨b7, 0, none⟩) (.inl rfl) (.int .i64 d1)).setCell (p := ⟨b7, 1, none⟩) (.inl rfl) (.int .i64 d2))
                clear l1 l2 Hcm
                go_wp2_with fail
                go_roundw
                case rel => exact ⟨j + 1, (d1, d2), by omega, by go_num, Hnew.out, Hrw.out, Hcg.out⟩
                case measure => simp [intOf]; omega
              · have x2 := decide_eq_false l2
                have Hcm := Lib.hid (show commonG (g1, g2) (d1, d2) = (d1, g2) by unfold commonG; ext <;> simp only <;> omega)
                have Hnew := Lib.hid (show (cs.take (j + 1)).foldl stepT (some (0, allG)) = some (d1, g2) by rw [Hst2.out]; exact congrArg some Hcm.out)
                have Hrw := Lib.hid ((heap_set Hb76.out (i := 0) (.int .i64 d1)))
                have Hcg := Lib.hid (Hch6.out.setCell (p := ⟨b7, 0, none⟩) (.inl rfl) (.int .i64 d1))
                clear l1 l2 Hcm
                go_wp2_with fail
                go_roundw
                case rel => exact ⟨j + 1, (d1, g2), by omega, by go_num, Hnew.out, Hrw.out, Hcg.out⟩
                case measure => simp [intOf]; omega
            · have x1 := decide_eq_false l1
              by_cases l2 : d2 < g2
              · have x2 := decide_eq_true l2
                have Hcm := Lib.hid (show commonG (g1, g2) (d1, d2) = (g1, d2) by unfold commonG; ext <;> simp only <;> omega)
                have Hnew := Lib.hid (show (cs.take (j + 1)).foldl stepT (some (0, allG)) = some (g1, d2) by rw [Hst2.out]; exact congrArg some Hcm.out)
                have Hrw := Lib.hid ((heap_set Hb76.out (i := 1) (.int .i64 d2)))
                have Hcg := Lib.hid (Hch6.out.setCell (p := ⟨b7, 1, none⟩) (.inl rfl) (.int .i64 d2))
                clear l1 l2 Hcm
                go_wp2_with fail
                go_roundw
                case rel => exact ⟨j + 1, (g1, d2), by omega, by go_num, Hnew.out, Hrw.out, Hcg.out⟩
                case measure => simp [intOf]; omega
              · have x2 := decide_eq_false l2
                have Hcm := Lib.hid (show commonG (g1, g2) (d1, d2) = (g1, g2) by unfold commonG; ext <;> simp only <;> omega)
                have Hnew := Lib.hid (show (cs.take (j + 1)).foldl stepT (some (0, allG)) = some (g1, g2) by rw [Hst2.out]; exact congrArg some Hcm.out)
                have Hrw := Lib.hid (Hb76.out)
                have Hcg := Lib.hid (Hch6.out)
                clear l1 l2 Hcm
                go_wp2_with fail
                go_roundw
                case rel => exact ⟨j + 1, (g1, g2), by omega, by go_num, Hnew.out, Hrw.out, Hcg.out⟩
                case measure => simp [intOf]; omega
        · have Hjt := Lib.hid (show termL t = some gg from by
            have e : cs.take j = cs := by rw [show j = cs.length by rw [← Hnp.out]; omega, List.take_length]
            have h := Hgg.out
            rw [e] at h
            rw [Htl.out]
            exact h)
          have Hsn := Lib.hid (show (ps.take (k + 1)).foldl stepP (some []) = some (gs ++ [gg]) by rw [Hst.out, Hjt.out]; rfl)
          have Hfu := Lib.hid (full_snoc gs gg)
          have HorI := Lib.hid (ownsRow_chg Hor3.out Hch3.out fun j e x => Hob.out j e x)
          have HcI := Lib.hid (Hc3.out.above Hch3.out fun x e => by rw [e]; exact Hb7w.out.1)
          obtain ⟨g1, g2⟩ := gg
          obtain ⟨t0, t1⟩ := var2 Hb7q.out
          by_cases hfull : g1 < g2
          · have x1 := decide_eq_true hfull
            have Hf2 := Lib.hid (show fullL gs ++ [(g1, g2)] = fullL (gs ++ [(g1, g2)]) by rw [Hfu.out, if_pos hfull])
            clear hfull
            have hal_ := (Chg.refl NoB wr).alloc (.cells #[.int .i64 g1, .int .i64 g2] 37)
            have hb_ := heap_alloc_new wr (.cells #[.int .i64 g1, .int .i64 g2] 37)
            obtain ⟨lb, hxb_⟩ : ∃ b, b = wr.heap.size := ⟨_, rfl⟩
            obtain ⟨w8, hw_⟩ : ∃ w_, wr.alloc (.cells #[.int .i64 g1, .int .i64 g2] 37) = w_ := ⟨_, rfl⟩
            have hz_ : w8.heap.size = lb + 1 := by rw [← hw_, hxb_]; exact alloc_size _ _
            rw [hw_] at hal_ hb_
            rw [← hxb_] at hb_
            have Hw8 := Lib.hid hw_
            have Hx8 := Lib.hid hxb_
            have Ha8 := Lib.hid hal_
            have Hb8 := Lib.hid hb_
            have Hz8 := Lib.hid hz_
            clear hal_ hb_ hxb_ hw_ hz_
            have Hc8 := Lib.hid (HcI.out.trans Ha8.out)
            have Hor8 := Lib.hid (ownsRow_chg HorI.out Ha8.out fun _ _ => id)
            go_wp2_with (at_builtin; go_loud (rw [← Hx8.out, Hw8.out]); go_loud (refine wpList_gap (v := .slice q' m c') (y := (g1, g2)) rfl _ _ rfl rfl rfl Hm.out rfl Hor8.out Hb8.out (by omega) Hc8.out.size ?_); intro v9 w9 hown9 hch9; go_loud (obtain ⟨q9, c9, rfl, -, -⟩ := row_shape hown9); have Hown9 := Lib.hid hown9; go_loud (have Hc9 := Lib.hid (Hc8.out.above hch9 fun j hj => (World.ownsRow.lt Hor8.out j hj).1)); clear hown9 hch9)
            have Hrow9 := Lib.hid (show w9.ownsRow w1.heap.size 37 2 (.slice q9 (m + 1) c9) (m + 1) (flatG (fullL (gs ++ [(g1, g2)]))) by rw [← Hf2.out]; exact Hown9.out)
            go_roundw
            case rel => exact ⟨k + 1, m + 1, c9, q9, gs ++ [(g1, g2)], by omega, by omega, by go_num, rfl, by rw [← Hf2.out, List.length_append, ← Hm.out]; rfl, Hsn.out, Hrow9.out, Hc9.out⟩
            case measure => simp [intOf]; omega
          · have x1 := decide_eq_false hfull
            have Hf2 := Lib.hid (show fullL gs = fullL (gs ++ [(g1, g2)]) by rw [Hfu.out, if_neg hfull, List.append_nil])
            clear hfull
            go_wp2_with fail
            go_roundw
            case rel => exact ⟨k + 1, m, c', q', gs ++ [(g1, g2)], by omega, by omega, by go_num, rfl, by rw [← Hf2.out]; exact Hm.out, Hsn.out, by rw [← Hf2.out]; exact HorI.out, HcI.out⟩
            case measure => simp [intOf]; omega
    · obtain rfl : k = n := by omega
      have Hgg := Lib.hid (show gapsL s = some gs from by
        have h := Hgs.out
        rw [Hn.out, List.take_length] at h
        rw [Hgl.out]
        exact h)
      have hbd := (gaps_bd Hgg.out).1
      have hwf : ∀ g ∈ fullL gs, In64 g.1 ∧ In64 g.2 := fun g hg => by
        have h1 := List.mem_filter.1 hg
        have h2 := hbd g h1.1
        have h3 := of_decide_eq_true h1.2
        unfold BdG allG at h2
        unfold In64
        omega
      obtain ⟨kb, hgp⟩ := GapS.of_row Hor.out Hm.out hwf
      have HI := Lib.hid (fun (W' : World) (h : Chg NoB wr W') (z : Int) => in_any (fullL gs) _ _ kb 0 z W' (hgp.keep h fun _ _ => id))
      have HE := Lib.hid (ends_any (fullL gs) _ _ kb 0 wr hgp (by rw [← Hm.out]; omega))
      obtain ⟨he1, he2, he3⟩ := ends_ok (fullL gs)
      have Hcw0 := Lib.hid (Hc1.out.trans Hch.out)
      rw [← Hm.out] at he2
      clear hbd hwf hgp
      go_wp2_with fail
      refine HE.out.mono ?_
      rintro e w10 ⟨q10, mm, c10, hmm, rfl, hrow10, hc10⟩
      generalize endsL (fullL gs) = es at *
      have hm0 : 0 < mm := by
        rw [hmm]
        exact List.length_pos_iff.2 fun e => by have := he1.lo; rw [e] at this; cases this
      have hm1 : mm ≤ 600 := by rw [hmm]; omega
      have He1 := Lib.hid he1
      have He3 := Lib.hid he3
      have Hmm := Lib.hid hmm
      have Hrow10 := Lib.hid hrow10
      have Hd10 := Lib.hid hc10
      have Hc10 := Lib.hid (Hcw0.out.trans hc10)
      have hcx : mm ≤ c10 ∧ c10 ≤ maxLen := by
        obtain ⟨qx, cx, ex, h1, h2⟩ := row_shape hrow10
        cases ex
        exact ⟨h1, h2⟩
      unfold maxLen at hcx
      clear he1 he2 he3 hmm hrow10 hc10 HE
      go_upto_region 25 with fail
      have hbi : (Tryz.prog.info? 4).map (fun i => (i.zero, i.size, i.bytes)) = some (some (.bool false), 1, 1) := by kernel_rfl
      obtain ⟨i0, hi, hz0, hz1, hz2⟩ := info_parts hbi
      have Hi := Lib.hid hi
      have Zi0 := Lib.hid hz0
      have Zi1 := Lib.hid hz1
      have Zi2 := Lib.hid hz2
      clear hi hz0 hz1 hz2 hbi
      go_upto_region 26 with (at_make; go_loud (refine wpList_make_full _ rfl _ _ 58 rfl w10.heap.size 4 i0 (.bool false) 1 Tryz.underlying58 Hi.out Zi0.out Zi1.out _ _ _ _ mm rfl rfl rfl rfl (by rw [Zi2.out]; omega) (by unfold maxLen; omega) (Nat.le_refl _) ?_); intro w11 hmk hgr11; have Hmk := Lib.hid hmk; have Hgr11 := Lib.hid hgr11; clear hmk hgr11)
      obtain ⟨bb, hgb⟩ : ∃ g, g = w10.heap.size := ⟨_, rfl⟩
      rw [← hgb] at Hmk ⊢
      have Hgb := Lib.hid hgb
      have Hd11 := Lib.hid (Hd10.out.trans ((Chg.refl NoB w10).grown Hgr11.out (fun j hj => by cases hj)))
      have Hc11 := Lib.hid (Hc10.out.trans ((Chg.refl NoB w10).grown Hgr11.out (fun j hj => by cases hj)))
      have Hrow11 := Lib.hid (ownsRow_chg Hrow10.out ((Chg.refl NoB w10).grown Hgr11.out (fun j hj => by cases hj)) fun _ _ => id)
      have HB0 := Lib.hid (show w11.ownsRow bb 4 1 (.slice (some ⟨bb, 0, none⟩) mm mm) mm (boolsV (List.replicate mm false)) from by
        have h := Hmk.out
        rw [show (madeCells (Value.bool false).cells (mm * 1)).toList = boolsV (List.replicate mm false) from made_bools mm] at h
        exact h)
      obtain ⟨ge, rfl⟩ : ∃ g, q10 = some ⟨g, 0, none⟩ := by
        rcases Hrow10.out.2 with ⟨e, h0⟩ | ⟨g', cap, cur, e, _⟩
        · omega
        · exact ⟨g', by injection e⟩
      have Hge := Lib.hid (show ge < bb by rw [hgb]; exact (World.ownsRow.lt Hrow10.out ge rfl).2)
      have Hgw := Lib.hid (show w.heap.size ≤ bb ∧ wr.heap.size ≤ bb by rw [hgb]; exact ⟨Hc10.out.size, Hd10.out.size⟩)
      clear hgb Hmk Hgr11 Hi Zi0 Zi1 Zi2 Hrow10
      go_wp2_with fail
      go_loopw [14, 15, 77] (fun _ _ i wv => ∃ (j : Nat) (bs : List Bool), j ≤ mm ∧ i = .int .i64 j ∧ bs.length = mm ∧ (∀ x, x < j → bAt bs x = inG gs (eAt es x)) ∧ wv.ownsRow bb 4 1 (.slice (some ⟨bb, 0, none⟩) mm mm) mm (boolsV bs) ∧ Chg (fun x => x = bb) w11 wv) (fun _ _ i _ => mm - (intOf i).toNat)
      case atStart => exact ⟨0, List.replicate mm false, Nat.zero_le _, rfl, List.length_replicate, fun j hj => absurd hj (Nat.not_lt_zero _), HB0.out, Chg.refl _ _⟩
      case round =>
        obtain ⟨j, bs, hj, rfl, hbl, hbs, hor2, hch2⟩ := hrel
        have Hbl := Lib.hid hbl
        have Hbs := Lib.hid hbs
        have Hor2 := Lib.hid hor2
        have Hch2 := Lib.hid hch2
        have Hcw := Lib.hid (Hc11.out.above hch2 fun j hj => by rw [hj]; exact Hgw.out.1)
        have Hdw := Lib.hid (Hd11.out.above hch2 fun j hj => by rw [hj]; exact Hgw.out.2)
        clear hbl hbs hor2 hch2
        by_cases hlt2 : j < mm
        · have hks : j < es.length := by rw [← Hmm.out]; exact hlt2
          have c0 := Hch2.out.keepO (by show ¬ ge = bb; have := Hge.out; omega) (row_num Hrow11.out j hks)
          rw [← eAt_of hks] at c0
          have Hst := Lib.hid (fun (b : Bool) (hb : b = inG gs (eAt es j)) => bools_set (es := es) (p := fun z => inG gs z) (by rw [Hbl.out]; exact hlt2) Hbs.out hb)
          generalize eAt es j = z at *
          have HI3 := Lib.hid (HI.out _ Hdw.out z)
          rw [full_in] at HI3
          obtain ⟨x, hx⟩ : ∃ x, x = inG gs z := ⟨_, rfl⟩
          rw [← hx] at Hst HI3
          clear hks hx
          go_wp2_with fail
          refine HI3.out.mono ?_
          rintro e w12 ⟨rfl, hc12⟩
          have Hc12 := Lib.hid hc12
          have Hor13 := Lib.hid (ownsRow_chg Hor2.out hc12 fun _ _ => id)
          have hkb : j < bs.length := by rw [Hbl.out]; exact hlt2
          have d0 := row_bool Hor13.out j hkb
          have fr := row_freeG Hor13.out
          have Hset := Lib.hid (fun b => row_setb Hor13.out j hkb b)
          clear hc12 c0
          go_wp2_with fail
          go_roundw
          case rel => exact ⟨j + 1, _, by omega, by go_num, by rw [List.length_set]; exact Hbl.out, Hst.out _ rfl, Hset.out _, (Hch2.out.trans (Hc12.out.mono fun _ _ h => h.elim)).setCell (p := ⟨bb, j, none⟩) (.inl rfl) _⟩
          case measure => simp [intOf]; omega
        · obtain rfl : j = mm := by omega
          have Hrow := Lib.hid (ownsRow_chg Hrow11.out Hch2.out fun x hx e => by cases hx; have := Hge.out; have h2 : ge = bb := e; omega)
          have HR := Lib.hid (range_any es bs _ bb (.slice (some ⟨ge, 0, none⟩) j c10) (.slice (some ⟨bb, 0, none⟩) j j) _ (by rw [← Hmm.out]; exact Hrow.out) (by rw [← Hmm.out]; exact Hor2.out) (by rw [← Hmm.out]; exact Hbl.out) (by rw [← Hmm.out]; omega) (by rw [← Hmm.out]; exact hm0))
          rw [← Hmm.out, rangeK_congr (g := fun x => inG gs (eAt es x)) fun x hx => Hbs.out x (by omega)] at HR
          have Hend := Lib.hid (range_ok He1.out (fun n => inG gs n) fun i hi n h1 h2 => by
            have h := in_const He1.out He3.out hi h1 h2
            rw [full_in, full_in] at h
            exact h)
          rw [← Hmm.out] at Hend
          generalize rangeK es (fun x => inG gs (eAt es x)) (j - 1) = d at *
          have Hin := Lib.hid (show ∀ n, 0 ≤ n → n < allG → inG d n = inG gs n from fun n h1 h2 => by rw [Hend.out.2 n, decide_eq_true ⟨h1, h2⟩]; rfl)
          have Hsz := Lib.hid Hcw.out.size
          go_wp2_with fail
          refine HR.out.mono ?_
          rintro e w14 ⟨hc14, (⟨h16, rfl⟩ | ⟨h16, qz, cz, rfl, hrz⟩)⟩
          · have HO := Lib.hid (show PsP s w (.returned (.tuple #[.slice none 0 0, .int .i64 13])) w14 from ⟨Hcw.out.trans hc14, .inr (.inr (.inr ⟨H1.out, H2.out, gs, d, Hgg.out, Hend.out.1, Hin.out, .inl ⟨h16, rfl⟩⟩))⟩)
            clear hc14 h16
            go_wp2_with fail
            go_ret2
            exact HO.out
          · have HO := Lib.hid (show PsP s w (.returned (.tuple #[.slice qz d.length cz, .int .i64 0])) w14 from ⟨Hcw.out.trans hc14, .inr (.inr (.inr ⟨H1.out, H2.out, gs, d, Hgg.out, Hend.out.1, Hin.out, .inr ⟨h16, qz, cz, rfl, ownsRow_low Hsz.out hrz⟩⟩))⟩)
            clear hc14 h16 hrz
            go_wp2_with fail
            go_ret2
            exact HO.out
end Go.Proofs.YtaijhebjjbcdfaaGreatDoor
