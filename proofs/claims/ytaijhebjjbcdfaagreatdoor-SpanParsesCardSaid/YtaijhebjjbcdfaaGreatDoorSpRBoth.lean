/- The document's side: Has, Both. No condition. -/
import Derived.Test.YtaijhebjjbcdfaaGreatDoorSpREnd2
import Derived.Test.YtaijhebjjbcdfaaGreatDoorSpRRange
import Derived.Test.YtaijhebjjbcdfaaGreatDoorSpOr
import Derived.Test.YtaijhebjjbcdfaaGreatDoorVerWalkA

namespace Go.Proofs.YtaijhebjjbcdfaaGreatDoor
set_option linter.unusedVariables false
open Go.ChangeShapes Go.WideShapes Go.ChangeAt Go.RowKit
set_option maxHeartbeats 4000000 in
set_option maxRecDepth 20000 in
theorem rhas_any (l : List GapL) (a b c : Int) (S : Nat → Prop) (v : Value) (kb ko : Nat) (w : World) (hs : GapS w S v l kb ko) : Calls Tryz.prog 15 #[v, .agg #[.int .i64 a, .int .i64 b, .int .i64 c]] w fun e w' => e = .returned (.bool (decide (0 ≤ Ver.numI a b c) && inG l (Ver.numI a b c))) ∧ Chg NoB w w' := by
  have hal_ := (Chg.refl NoB w).alloc (.cells #[.int .i64 a, .int .i64 b, .int .i64 c] 31)
  have hb_ := heap_alloc_new w (.cells #[.int .i64 a, .int .i64 b, .int .i64 c] 31)
  obtain ⟨vb, hxb_⟩ : ∃ b, b = w.heap.size := ⟨_, rfl⟩
  obtain ⟨w1, hw_⟩ : ∃ w_, w.alloc (.cells #[.int .i64 a, .int .i64 b, .int .i64 c] 31) = w_ := ⟨_, rfl⟩
  have hz_ : w1.heap.size = vb + 1 := by rw [← hw_, hxb_]; exact alloc_size _ _
  rw [hw_] at hal_ hb_
  rw [← hxb_] at hb_
  have Hw1 := Lib.hid hw_
  have Hx1 := Lib.hid hxb_
  have Ha1 := Lib.hid hal_
  have Hb1 := Lib.hid hb_
  have Hz1 := Lib.hid hz_
  clear hal_ hb_ hxb_ hw_ hz_
  have HN := Lib.hid (fun W => Ver.numberR_any a b c W)
  have HG := Lib.hid (Ver.goodR_any a b c w1)
  have HI := Lib.hid (fun (W : World) (h : Chg NoB w W) (z : Int) => in_any l S v kb ko z W (hs.keep h fun _ _ => id))
  obtain ⟨d0, d1, d2⟩ := var3 Hb1.out
  obtain ⟨⟨q, cc, rfl, -, -, -⟩, -, -⟩ := hs
  have Hnn := Lib.hid (show Ver.goodB a b c = true → 0 ≤ Ver.numI a b c from fun h => by
    rw [Ver.num_yes h]
    unfold Ver.goodB at h
    simp at h
    omega)
  have Hno := Lib.hid (show Ver.goodB a b c = false → Ver.numI a b c = -1 from fun h => Ver.num_no h)
  generalize Ver.goodB a b c = gd at *
  generalize Ver.numI a b c = n at *
  go_enter Tryz.func15, Tryz.ntmps15
  go_upto_region 1 with fail
  rw [Hw1.out, ← Hx1.out]
  go_wp2_with fail
  refine HG.out.mono ?_
  rintro e w2 ⟨rfl, hb2⟩
  have Hc2 := Lib.hid (chg_of_below hb2)
  have d0 := Hc2.out.keep d0
  have d1 := Hc2.out.keep d1
  have d2 := Hc2.out.keep d2
  clear hb2
  cases gd
  · have Hn := Lib.hid (Hno.out rfl)
    go_wp2_with fail
    go_ret
    exact ⟨by rw [Hn.out]; rfl, Ha1.out.trans Hc2.out⟩
  · have Hn := Lib.hid (Hnn.out rfl)
    go_wp2_with fail
    refine (HN.out w2).mono ?_
    rintro e w3 ⟨rfl, hb3⟩
    have Hc3 := Lib.hid ((Ha1.out.trans Hc2.out).trans (chg_of_below hb3))
    clear hb3
    go_wp2_with fail
    refine (HI.out w3 Hc3.out n).mono ?_
    rintro e w4 ⟨rfl, hc4⟩
    have Hc4 := Lib.hid (Hc3.out.trans hc4)
    clear hc4
    go_wp2_with fail
    go_ret
    exact ⟨by rw [decide_eq_true Hn.out]; rfl, Hc4.out⟩
theorem run_pure0 (P : Program) (w : World) : (Sem.run P (pure (#[] : Array Value)) w) = .ok #[] w := rfl
theorem run_store0 (P : Program) (a : Addr) (w : World) : Sem.run P (storeCells a []) w = .ok () w := rfl
theorem run_store1 (P : Program) (a : Addr) (w : World) : Sem.run P (storeCells a (#[] : Array Value).toList) w = .ok () w := rfl
attribute [local go_sem] run_pure0 run_store0 run_store1
theorem made_bools (m : Nat) : (madeCells (Value.bool false).cells (m * 1)).toList = boolsV (List.replicate m false) := by
  unfold madeCells boolsV
  apply List.ext_getElem
  · simp
  · intro i h1 h2
    simp [Value.cells, Nat.mod_one]
theorem row_setb {w : World} {base g c n : Nat} {l : List Bool} (h : w.ownsRow base 4 1 (.slice (some ⟨g, 0, none⟩) n c) n (boolsV l)) (m : Nat) (hm : m < l.length) (b : Bool) : (w.setCell ⟨g, m, none⟩ (.bool b)).ownsRow base 4 1 (.slice (some ⟨g, 0, none⟩) n c) n (boolsV (l.set m b)) := by
  have hlen := h.1
  rcases h.2 with ⟨e, h0⟩ | ⟨g', cap, cur, e, k2, k3, k4, k5, k6, k7⟩
  · cases e
  · injection e with e1 e2 e3
    injection e1 with e1
    injection e1 with e1
    subst e1
    have hset := heap_set k3 (i := m) (.bool b)
    refine ⟨by rw [← hlen]; unfold boolsV; simp, .inr ⟨g, cap, _, by rw [e3], k2, hset, k4, k5, by simpa using k6, ?_⟩⟩
    have e4 : boolsV (l.set m b) = (boolsV l).set m (.bool b) := by unfold boolsV; rw [List.map_set]
    rw [e4, ← k7]
    simp only [Array.toList_setIfInBounds, List.take_set]
theorem bools_set {es : List Int} {p : Int → Bool} {bs : List Bool} {k : Nat} (hk : k < bs.length) (h : ∀ j, j < k → bAt bs j = p (eAt es j)) {b : Bool} (hb : b = p (eAt es k)) : ∀ j, j < k + 1 → bAt (bs.set k b) j = p (eAt es j) := fun j hj => by
  by_cases e : j = k
  · subst e
    rw [bAt_of (by rw [List.length_set]; exact hk), List.getElem_set_self]
    exact hb
  · rw [← h j (by omega), bAt_of (by rw [List.length_set]; omega), bAt_of (by omega), List.getElem_set_ne (fun x => e x.symm)]
theorem rangeK_congr {es : List Int} {f g : Nat → Bool} : ∀ {i : Nat}, (∀ j, j < i → f j = g j) → rangeK es f i = rangeK es g i
  | 0, _ => rfl
  | i + 1, h => by
    show rangeS (rangeK es f i) _ _ (f i) = rangeS (rangeK es g i) _ _ (g i)
    rw [rangeK_congr fun j hj => h j (by omega), h i (by omega)]
def opB (how : Int) (x y : Bool) : Bool := if how = 0 then x || y else if how = 1 then x && y else !x
set_option maxHeartbeats 4000000 in
set_option maxRecDepth 20000 in
theorem rboth_any (l r : List GapL) (how : Int) (hhow : how = 0 ∨ how = 1 ∨ how = 2) (S T : Nat → Prop) (v u : Value) (kb ko rb ro : Nat) (w : World) (hs : GapS w S v l kb ko) (ht : GapS w T u r rb ro) : Calls Tryz.prog 19 #[v, u, .int .i64 how] w (OpP w (goodG l && goodG r) fun n => opB how (inG l n) (inG r n)) := by
  have HG := Lib.hid (rgood_any l S v kb ko w hs)
  have HG2 := Lib.hid (fun (w1 : World) (h : Chg NoB w w1) => rgood_any r T u rb ro w1 (ht.keep h (fun _ _ => id)))
  have HI := Lib.hid (fun (W : World) (h : Chg NoB w W) (z : Int) => in_any l S v kb ko z W (hs.keep h fun _ _ => id))
  have HI2 := Lib.hid (fun (W : World) (h : Chg NoB w W) (z : Int) => in_any r T u rb ro z W (ht.keep h fun _ _ => id))
  have Hs := Lib.hid (fun (W : World) (h : Chg NoB w W) => hs.keep h fun _ _ => id)
  have Ht := Lib.hid (fun (W : World) (h : Chg NoB w W) => ht.keep h fun _ _ => id)
  obtain ⟨⟨q, c, rfl, h1, h2, -⟩, -, -⟩ := hs
  obtain ⟨⟨q2, c2, rfl, g1, g2, -⟩, -, -⟩ := ht
  obtain ⟨n, hn⟩ : ∃ n, n = l.length := ⟨_, rfl⟩
  obtain ⟨n2, hn2⟩ : ∃ n, n = r.length := ⟨_, rfl⟩
  rw [← hn] at HG HI Hs h1 ⊢
  rw [← hn2] at HG2 HI2 Ht g1 ⊢
  have Hn := Lib.hid hn
  have Hn2 := Lib.hid hn2
  obtain ⟨s, hr⟩ : ∃ s, s = goodG l := ⟨_, rfl⟩
  obtain ⟨t, hr2⟩ : ∃ t, t = goodG r := ⟨_, rfl⟩
  rw [← hr] at HG ⊢
  rw [← hr2] at HG2 ⊢
  have Hr := Lib.hid hr
  have Hr2 := Lib.hid hr2
  have Hhow := Lib.hid hhow
  unfold maxLen at h2 g2
  clear hn hr hn2 hr2 hhow
  go_enter Tryz.func19, Tryz.ntmps19
  go_wp2_with fail
  refine HG.out.mono ?_
  rintro e w1 ⟨rfl, hc1⟩
  have Hc1 := Lib.hid hc1
  clear hc1 HG
  cases s
  · go_wp2_with fail
    go_ret2
    exact ⟨Hc1.out, .inl ⟨rfl, rfl⟩⟩
  · go_wp2_with fail
    refine (HG2.out w1 Hc1.out).mono ?_
    rintro e w2 ⟨rfl, hc2⟩
    have Hc2 := Lib.hid (Hc1.out.trans hc2)
    clear hc2 HG2
    cases t
    · go_wp2_with fail
      go_ret2
      exact ⟨Hc2.out, .inl ⟨rfl, rfl⟩⟩
    · have Hl1 := Lib.hid (show n ≤ 16 by rw [Hn.out]; exact good_len Hr.out.symm)
      have Hl2 := Lib.hid (show n2 ≤ 16 by rw [Hn2.out]; exact good_len Hr2.out.symm)
      have hl1 := Hl1.out
      have hl2 := Hl2.out
      have hal := (Chg.refl NoB w2).alloc (.cells #[] 37)
      have Hcz := Lib.hid (Hc2.out.trans hal)
      have Hor0 := Lib.hid (show (w2.alloc (.cells #[] 37)).ownsRow w2.heap.size 37 2 (.slice (some ⟨w2.heap.size, 0, none⟩) 0 0) 0 (flatG []) from ⟨rfl, .inr ⟨w2.heap.size, 0, _, rfl, Nat.le_refl _, heap_alloc_new w2 _, Nat.le_refl _, by decide, rfl, rfl⟩⟩)
      clear hal
      have HE := Lib.hid (fun (W : World) (q9 : Option Addr) (c9 : Nat) (h : W.ownsRow w2.heap.size 37 2 (.slice q9 (n + n2) c9) (n + n2) (flatG (l ++ r))) => (show Calls Tryz.prog 31 #[.slice q9 (n + n2) c9] W (WithP (endsL (l ++ r)) W.heap.size W) from by
        have hlen : n + n2 = (l ++ r).length := by rw [List.length_append, Hn.out, Hn2.out]
        obtain ⟨kb, hk⟩ := GapS.of_row h hlen fun g hg => by
          rcases List.mem_append.1 hg with hg | hg
          · have := good_bounds Hr.out.symm g hg; unfold In64 allG at *; omega
          · have := good_bounds Hr2.out.symm g hg; unfold In64 allG at *; omega
        exact ends_any (l ++ r) _ _ kb 0 W hk (by rw [← hlen]; omega)))
      have Hbz := Lib.hid (show w2.heap.size ≤ (w2.alloc (.cells #[] 37)).heap.size from by rw [alloc_size]; omega)
      go_upto_region 4 with (at_builtin; first
        | (have h8 := Hown8; refine wpList_gaps (v := .slice q8 n c8) (ts := l) (us := r) rfl _ _ rfl rfl rfl Hn2.out rfl Hown8.out (Ht.out _ Hc8.out) (by omega) (Nat.le_trans Hbz.out Hs8.out) ?_; intro v9 w9 hown9 hgr9; obtain ⟨q9, c9, rfl, -, -⟩ := row_shape hown9; have Hown9 := Lib.hid hown9; have Hs9 := Lib.hid hgr9.size; have Hc9 := Lib.hid (Hc8.out.above ((Chg.refl _ _).grown hgr9 fun j hj => .inl hj) fun j hj => (Nat.le_trans Hc2.out.size (World.ownsRow.lt Hown8.out j hj).1)); clear hown9 hgr9)
        | (go_loud (refine wpList_gaps (v := .slice (some ⟨w2.heap.size, 0, none⟩) 0 0) (ts := []) (us := l) rfl _ _ rfl rfl rfl Hn.out (Nat.zero_add _).symm Hor0.out (Hs.out _ Hcz.out) (by omega) Hbz.out ?_); intro v8 w8 hown8 hgr8; obtain ⟨q8, c8, rfl, -, -⟩ := row_shape hown8; have Hown8 := Lib.hid hown8; have Hs8 := Lib.hid hgr8.size; have Hc8 := Lib.hid (Hcz.out.above ((Chg.refl _ _).grown hgr8 fun j hj => .inl hj) fun j hj => (by cases hj; exact Hc2.out.size)); clear hown8 hgr8))
      have Hw2 := Lib.hid (show w2.heap.size ≤ w9.heap.size from Nat.le_trans (Nat.le_trans Hbz.out Hs8.out) Hs9.out)
      clear Hor0 Hcz Hown8 Hc8 Hbz Hs8 Hs9
      go_wp2_with fail
      refine (HE.out w9 q9 c9 Hown9.out).mono ?_
      rintro e w10 ⟨q10, m, c10, hm, rfl, hrow10, hc10⟩
      obtain ⟨he1, he2, he3⟩ := ends_ok (l ++ r)
      have hm0 : 0 < m := by
        rw [hm]
        exact List.length_pos_iff.2 fun e => by have := he1.lo; rw [e] at this; cases this
      have hm1 : m ≤ 66 := by rw [hm]; rw [List.length_append, ← Hn.out, ← Hn2.out] at he2; omega
      have He1 := Lib.hid he1
      have He3 := Lib.hid he3
      have Hm := Lib.hid hm
      have Hrow10 := Lib.hid hrow10
      have Hc10 := Lib.hid (Hc9.out.trans hc10)
      have hcx : m ≤ c10 ∧ c10 ≤ maxLen := by
        obtain ⟨qx, cx, ex, h1, h2⟩ := row_shape hrow10
        cases ex
        exact ⟨h1, h2⟩
      unfold maxLen at hcx
      clear he1 he2 he3 hm hrow10 hc10 HE Hown9 Hc9
      go_upto_region 4 with fail
      have hbi : (Tryz.prog.info? 4).map (fun i => (i.zero, i.size, i.bytes)) = some (some (.bool false), 1, 1) := by kernel_rfl
      obtain ⟨i0, hi, hz0, hz1, hz2⟩ := info_parts hbi
      have Hi := Lib.hid hi
      have Zi0 := Lib.hid hz0
      have Zi1 := Lib.hid hz1
      have Zi2 := Lib.hid hz2
      clear hi hz0 hz1 hz2 hbi
      go_upto_region 5 with (at_make; go_loud (refine wpList_make_full _ rfl _ _ 58 rfl w10.heap.size 4 i0 (.bool false) 1 Tryz.underlying58 Hi.out Zi0.out Zi1.out _ _ _ _ m rfl rfl rfl rfl (by rw [Zi2.out]; omega) (by unfold maxLen; omega) (Nat.le_refl _) ?_); intro w11 hmk hgr11; have Hmk := Lib.hid hmk; have Hgr11 := Lib.hid hgr11; clear hmk hgr11)
      obtain ⟨gb, hgb⟩ : ∃ g, g = w10.heap.size := ⟨_, rfl⟩
      rw [← hgb] at Hmk ⊢
      have Hgb := Lib.hid hgb
      have Hc11 := Lib.hid (Hc10.out.trans ((Chg.refl NoB w10).grown Hgr11.out (fun j hj => by cases hj)))
      have Hrow11 := Lib.hid (ownsRow_chg Hrow10.out ((Chg.refl NoB w10).grown Hgr11.out (fun j hj => by cases hj)) fun _ _ => id)
      have HB0 := Lib.hid (show w11.ownsRow gb 4 1 (.slice (some ⟨gb, 0, none⟩) m m) m (boolsV (List.replicate m false)) from by
        have h := Hmk.out
        rw [show (madeCells (Value.bool false).cells (m * 1)).toList = boolsV (List.replicate m false) from made_bools m] at h
        exact h)
      obtain ⟨ge, rfl⟩ : ∃ g, q10 = some ⟨g, 0, none⟩ := by
        rcases Hrow10.out.2 with ⟨e, h0⟩ | ⟨g', cap, cur, e, _⟩
        · omega
        · exact ⟨g', by injection e⟩
      have Hge := Lib.hid (show ge < gb by rw [hgb]; exact (World.ownsRow.lt Hrow10.out ge rfl).2)
      have Hgw := Lib.hid (show w.heap.size ≤ gb by rw [hgb]; exact Hc10.out.size)
      obtain ⟨es, hes⟩ : ∃ es, es = endsL (l ++ r) := ⟨_, rfl⟩
      rw [← hes] at He1 He3 Hm Hrow10 Hrow11
      clear hgb hes Hmk Hgr11 Hi Zi0 Zi1 Zi2 Hrow10
      go_wp2_with fail
      go_loopw [10, 11, 12, 13, 33] (fun _ _ _ _ i wr => ∃ (k : Nat) (bs : List Bool), k ≤ m ∧ i = .int .i64 k ∧ bs.length = m ∧ (∀ j, j < k → bAt bs j = opB how (inG l (eAt es j)) (inG r (eAt es j))) ∧ wr.ownsRow gb 4 1 (.slice (some ⟨gb, 0, none⟩) m m) m (boolsV bs) ∧ Chg (fun j => j = gb) w11 wr) (fun _ _ _ _ i _ => m - (intOf i).toNat)
      case atStart => exact ⟨0, List.replicate m false, Nat.zero_le _, rfl, List.length_replicate, fun j hj => absurd hj (Nat.not_lt_zero _), HB0.out, Chg.refl _ _⟩
      case round =>
        obtain ⟨k, bs, hk, rfl, hbl, hbs, hor, hch⟩ := hrel
        have Hbl := Lib.hid hbl
        have Hbs := Lib.hid hbs
        have Hor := Lib.hid hor
        have Hch := Lib.hid hch
        have Hcw := Lib.hid (Hc11.out.above hch fun j hj => by rw [hj]; exact Hgw.out)
        clear hbl hbs hor hch
        by_cases hlt : k < m
        · have hks : k < es.length := by rw [← Hm.out]; exact hlt
          have c0 := Hch.out.keepO (by show ¬ ge = gb; have := Hge.out; omega) (row_num Hrow11.out k hks)
          rw [← eAt_of hks] at c0
          have Hst := Lib.hid (fun (b : Bool) (hb : b = opB how (inG l (eAt es k)) (inG r (eAt es k))) => bools_set (es := es) (p := fun z => opB how (inG l z) (inG r z)) (by rw [Hbl.out]; exact hlt) Hbs.out hb)
          generalize eAt es k = z at *
          have HI3 := Lib.hid (HI.out wr Hcw.out z)
          obtain ⟨x, hx⟩ : ∃ x, x = inG l z := ⟨_, rfl⟩
          obtain ⟨y, hy⟩ : ∃ y, y = inG r z := ⟨_, rfl⟩
          rw [← hx, ← hy] at Hst
          rw [← hx] at HI3
          have Hy := Lib.hid hy
          clear hks hx hy
          go_wp2_with fail
          refine HI3.out.mono ?_
          rintro e w12 ⟨rfl, hc12⟩
          have Hc12 := Lib.hid hc12
          clear hc12 HI3
          go_wp2_with fail
          refine (HI2.out w12 (Hcw.out.trans Hc12.out) z).mono ?_
          rintro e w13 ⟨rfl, hc13⟩
          rw [← Hy.out]
          have Hc13 := Lib.hid (Hc12.out.trans hc13)
          have Hor13 := Lib.hid (ownsRow_chg Hor.out Hc13.out fun _ _ => id)
          have hkb : k < bs.length := by rw [Hbl.out]; exact hlt
          have d0 := row_bool Hor13.out k hkb
          have fr := row_freeG Hor13.out
          have Hset := Lib.hid (fun b => row_setb Hor13.out k hkb b)
          clear hc13 c0 Hc12
          rcases Hhow.out with rfl | rfl | rfl <;> cases x <;> cases y
          all_goals
            go_wp2_with fail
            go_roundw
            case rel => exact ⟨k + 1, _, by omega, by go_num, by rw [List.length_set]; exact Hbl.out, Hst.out _ rfl, Hset.out _, (Hch.out.trans (Hc13.out.mono fun _ _ h => h.elim)).setCell (.inl rfl) _⟩
            case measure => simp [intOf]; omega
        · obtain rfl : k = m := by omega
          have Hrow := Lib.hid (ownsRow_chg Hrow11.out Hch.out fun j hj e => by cases hj; have := Hge.out; have h2 : ge = gb := e; omega)
          have HR := Lib.hid (range_any es bs w9.heap.size gb (.slice (some ⟨ge, 0, none⟩) k c10) (.slice (some ⟨gb, 0, none⟩) k k) wr (by rw [← Hm.out]; exact Hrow.out) (by rw [← Hm.out]; exact Hor.out) (by rw [← Hm.out]; exact Hbl.out) (by rw [← Hm.out]; omega) (by rw [← Hm.out]; exact hm0))
          rw [← Hm.out, rangeK_congr (g := fun j => opB how (inG l (eAt es j)) (inG r (eAt es j))) fun j hj => Hbs.out j (by omega)] at HR
          have Hend := Lib.hid (range_ok He1.out (fun n => opB how (inG l n) (inG r n)) fun i hi n h1 h2 => by
            rw [in_const He1.out (fun g hg => He3.out g (List.mem_append_left _ hg)) hi h1 h2, in_const He1.out (fun g hg => He3.out g (List.mem_append_right _ hg)) hi h1 h2])
          rw [← Hm.out] at Hend
          generalize rangeK es (fun j => opB how (inG l (eAt es j)) (inG r (eAt es j))) (k - 1) = d at *
          have Hin := Lib.hid (show ∀ n, 0 ≤ n → n < allG → inG d n = opB how (inG l n) (inG r n) from fun n h1 h2 => by rw [Hend.out.2 n, decide_eq_true ⟨h1, h2⟩]; rfl)
          have Hsz := Lib.hid Hcw.out.size
          go_wp2_with fail
          refine HR.out.mono ?_
          rintro e w14 ⟨hc14, (⟨h16, rfl⟩ | ⟨h16, qz, cz, rfl, hrz⟩)⟩
          · have HO := Lib.hid (show OpP w true (fun n => opB how (inG l n) (inG r n)) (.returned (.tuple #[.slice none 0 0, .int .i64 13])) w14 from ⟨Hcw.out.trans hc14, .inr ⟨rfl, d, Hend.out.1, Hin.out, .inl ⟨h16, rfl⟩⟩⟩)
            clear hc14 h16
            go_wp2_with fail
            go_ret2
            exact HO.out
          · have HO := Lib.hid (show OpP w true (fun n => opB how (inG l n) (inG r n)) (.returned (.tuple #[.slice qz d.length cz, .int .i64 0])) w14 from ⟨Hcw.out.trans hc14, .inr ⟨rfl, d, Hend.out.1, Hin.out, .inr ⟨h16, qz, cz, rfl, ownsRow_low Hsz.out hrz⟩⟩⟩)
            clear hc14 h16 hrz
            go_wp2_with fail
            go_ret2
            exact HO.out
end Go.Proofs.YtaijhebjjbcdfaaGreatDoor
