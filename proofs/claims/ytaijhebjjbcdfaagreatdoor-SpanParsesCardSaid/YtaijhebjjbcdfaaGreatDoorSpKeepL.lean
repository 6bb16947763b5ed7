/- Proved: the statement SpanKeeps holds for every two lists of gaps. Conditions: the listed package variables read as the program's text lays them (the card ties them); nothing else. -/
import Derived.Test.YtaijhebjjbcdfaaGreatDoorSpOpen
import Derived.Test.YtaijhebjjbcdfaaGreatDoorSpOr
import Derived.Test.YtaijhebjjbcdfaaGreatDoorCards
import Derived.Test.YtaijhebjjbcdfaaGreatDoorTie
import Derived.Test.YtaijhebjjbcdfaaGreatDoorSpRBoth

namespace Go.Proofs.YtaijhebjjbcdfaaGreatDoor
set_option linter.unusedVariables false
open Go.ChangeShapes Go.WideShapes Go.ChangeAt Go.RowKit
attribute [local go_sem] run_pure0 run_store0 run_store1
theorem GapS.take {w : World} {S : Nat → Prop} {q : Option Addr} {n c : Nat} {l : List GapL} {kb ko : Nat} (h : GapS w S (.slice q n c) l kb ko) {k : Nat} (hk : k ≤ l.length) : GapS w S (.slice q k c) (l.take k) kb ko := by
  obtain ⟨⟨q', c', e, h1, h2, h3⟩, hat, hwf⟩ := h
  cases e
  have hlen : (l.take k).length = k := by rw [List.length_take]; omega
  refine ⟨⟨q, c, by rw [hlen], by rw [hlen]; omega, h2, fun hn => h3 fun e => hn (by rw [e]; simp)⟩, fun i hi => ?_, fun g hg => hwf g (List.mem_of_mem_take hg)⟩
  rw [List.getElem_take]
  exact hat i (by omega)
theorem chain_wf' {d : List GapL} (h : chainG (-1) d = true) : ∀ g ∈ d, In64 g.1 ∧ In64 g.2 := fun g hg => by
  have := chain_bounds h g hg
  unfold allG at this
  unfold In64
  omega
/- what the three operations answer, by what they ask -/
def OpV (ok : Bool) (p : Int → Bool) (d : List GapL) (k : Int) : Prop :=
  (ok = false ∧ d = [] ∧ k = 1) ∨ (ok = true ∧ ∃ D : List GapL, chainG (-1) D = true ∧ (∀ n, 0 ≤ n → n < allG → inG D n = p n) ∧ ((16 < D.length ∧ d = [] ∧ k = 13) ∨ (D.length ≤ 16 ∧ d = D ∧ k = 0)))
theorem OpV.same {ok : Bool} {p : Int → Bool} {d d' : List GapL} {k k' : Int} (h : OpV ok p d k) (h' : OpV ok p d' k') : d = d' ∧ k = k' := by
  rcases h with ⟨h1, rfl, rfl⟩ | ⟨h1, D, a1, a2, h⟩
  · rcases h' with ⟨-, rfl, rfl⟩ | ⟨h2, -⟩
    · exact ⟨rfl, rfl⟩
    · rw [h1] at h2; cases h2
  · rcases h' with ⟨h2, -⟩ | ⟨-, D', b1, b2, h'⟩
    · rw [h1] at h2; cases h2
    · obtain rfl : D = D' := chain_same9 a1 b1 fun n x y => (a2 n x y).trans (b2 n x y).symm
      rcases h with ⟨h3, rfl, rfl⟩ | ⟨h3, rfl, rfl⟩ <;> rcases h' with ⟨h4, rfl, rfl⟩ | ⟨h4, rfl, rfl⟩
      · exact ⟨rfl, rfl⟩
      · omega
      · omega
      · exact ⟨rfl, rfl⟩
theorem op_row {w w' : World} {ok : Bool} {p : Int → Bool} {e : Ending} (h : OpP w ok p e w') : ∃ (q : Option Addr) (m c : Nat) (k : Int) (d : List GapL), e = .returned (.tuple #[.slice q m c, .int .i64 k]) ∧ Chg NoB w w' ∧ m = d.length ∧ w'.ownsRow w.heap.size 37 2 (.slice q m c) m (flatG d) ∧ (∀ g ∈ d, In64 g.1 ∧ In64 g.2) ∧ OpV ok p d k ∧ m ≤ 16 := by
  obtain ⟨hc, (⟨h1, h⟩ | ⟨h0, d, h1, h2, (⟨h3, h⟩ | ⟨h3, q, c, h, h4⟩)⟩)⟩ := h
  · exact ⟨none, 0, 0, 1, [], h, hc, rfl, World.ownsRow_nil _ _ _ _, fun g hg => (by cases hg), .inl ⟨h1, rfl, rfl⟩, by omega⟩
  · exact ⟨none, 0, 0, 13, [], h, hc, rfl, World.ownsRow_nil _ _ _ _, fun g hg => (by cases hg), .inr ⟨h0, d, h1, h2, .inl ⟨h3, rfl, rfl⟩⟩, by omega⟩
  · exact ⟨q, d.length, c, 0, d, h, hc, rfl, h4, chain_wf' h1, .inr ⟨h0, d, h1, h2, .inr ⟨h3, rfl, rfl⟩⟩, h3⟩
/- two appends onto a new row: what came in, and one more -/
theorem own_some {w : World} {base n c : Nat} {q : Option Addr} {l : List GapL} (h : w.ownsRow base 37 2 (.slice q n c) n (flatG l)) (hn : 0 < n) : ∃ g, q = some ⟨g, 0, none⟩ := by
  rcases h.2 with ⟨e, h0⟩ | ⟨g', cap, cur, e, _⟩
  · omega
  · exact ⟨g', by injection e⟩
set_option maxHeartbeats 16000000 in
set_option maxRecDepth 100000 in
theorem spanKeeps_all (l0 : List GapL) (v0 : Value) (kb0 ko0 : Nat) (l1 : List GapL) (v1 : Value) (kb1 ko1 : Nat) (W : World) (h0 : GapS W (OldB W) v0 l0 kb0 ko0) (h1 : GapS W (OldB W) v1 l1 kb1 ko1) (hpw : Pw W.heap.size W) :
    Calls Tryz.prog 5 #[v0, v1] W fun e w' => e = .returned (.bool true) ∧ Chg NoB W w' := by
  have Hs := Lib.hid (fun (W' : World) (h : Chg NoB W W') => h0.keep h fun _ _ => id)
  have Ht := Lib.hid (fun (W' : World) (h : Chg NoB W W') => h1.keep h fun _ _ => id)
  have Hwf := Lib.hid h0.wf
  have HBo := Lib.hid (fun (W' : World) (h : Chg NoB W W') => rboth_any l0 l1 0 (.inl rfl) (OldB W) (OldB W) v0 v1 kb0 ko0 kb1 ko1 W' (h0.keep h fun _ _ => id) (h1.keep h fun _ _ => id))
  have HAL := Lib.hid (alive_any W.heap.size W hpw)
  obtain ⟨⟨q0, c0, rfl, a1, a2, -⟩, -, -⟩ := h0
  obtain ⟨⟨q1, c1, rfl, b1, b2, -⟩, -, -⟩ := h1
  obtain ⟨n0, hn0⟩ : ∃ n, n = l0.length := ⟨_, rfl⟩
  obtain ⟨n1, hn1⟩ : ∃ n, n = l1.length := ⟨_, rfl⟩
  rw [← hn0] at Hs HBo a1 ⊢
  rw [← hn1] at Ht HBo b1 ⊢
  have Hn0 := Lib.hid hn0
  have Hn1 := Lib.hid hn1
  unfold maxLen at a2 b2
  clear hn0 hn1 hpw
  go_enter Tryz.func5, Tryz.ntmps5
  go_wp2_with fail
  refine HAL.out.mono ?_
  rintro e w2 ⟨rfl, hc2⟩
  have Hc2 := Lib.hid hc2
  clear hc2 HAL
  go_wp2_with fail
  refine (great_any n0 c0 q0 w2).mono ?_
  rintro e w2' ⟨rfl, hw⟩
  rw [hw]
  clear hw w2'
  by_cases hg0 : 200 < n0
  · rw [decide_eq_true hg0]
    go_wp2_with fail
    go_ret
    exact ⟨rfl, Hc2.out⟩
  rw [decide_eq_false hg0]
  go_wp2_with fail
  refine (great_any n1 c1 q1 w2).mono ?_
  rintro e w2' ⟨rfl, hw⟩
  rw [hw]
  clear hw w2'
  by_cases hg1 : 200 < n1
  · rw [decide_eq_true hg1]
    go_wp2_with fail
    go_ret
    exact ⟨rfl, Hc2.out⟩
  rw [decide_eq_false hg1]
  have hn200 : n0 ≤ 200 := by omega
  clear hg0 hg1
  have hal := (Chg.refl NoB w2).alloc (.cells #[] 37)
  have Hcz := Lib.hid (Hc2.out.trans hal)
  have Hor0 := Lib.hid (show (w2.alloc (.cells #[] 37)).ownsRow w2.heap.size 37 2 (.slice (some ⟨w2.heap.size, 0, none⟩) 0 0) 0 (flatG []) from ⟨rfl, .inr ⟨w2.heap.size, 0, _, rfl, Nat.le_refl _, heap_alloc_new w2 _, Nat.le_refl _, by decide, rfl, rfl⟩⟩)
  have Hbz := Lib.hid (show w2.heap.size ≤ (w2.alloc (.cells #[] 37)).heap.size from by rw [alloc_size]; omega)
  clear hal
  go_upto_region 6 with (at_builtin; first
    | (have h8 := Hown8; refine wpList_gap (v := .slice q8 n0 c8) (l := l0) (y := (7, 9)) (b := w8.heap.size) rfl _ _ rfl rfl rfl Hn0.out rfl (ownsRow_chg Hown8.out ((Chg.refl NoB w8).alloc _) fun _ _ => id) (heap_alloc_new w8 _) (by omega) (Nat.le_trans (Nat.le_trans Hbz.out Hs8.out) ((Chg.refl NoB w8).alloc (.cells #[.int .i64 7, .int .i64 9] 37)).size) ?_; intro v9 w9 hown9 hch9; obtain ⟨q9, c9, rfl, hc9a, hc9b⟩ := row_shape hown9; have Hown9 := Lib.hid hown9; have Hs9 := Lib.hid (Nat.le_trans ((Chg.refl NoB w8).alloc (.cells #[.int .i64 7, .int .i64 9] 37)).size hch9.size); have Hc9 := Lib.hid ((Hc8.out.trans ((Chg.refl NoB w8).alloc (.cells #[.int .i64 7, .int .i64 9] 37))).above hch9 fun j hj => (Nat.le_trans Hc2.out.size (World.ownsRow.lt Hown8.out j hj).1)); have Hv9 := Lib.hid (((Chg.refl NoB w2).alloc (.cells #[] 37)).above ((Chg.refl _ _).grown Hg8.out fun j hj => .inl hj) (fun j hj => (by cases hj; exact Nat.le_refl _)) |>.trans ((Chg.refl NoB w8).alloc (.cells #[.int .i64 7, .int .i64 9] 37)) |>.above hch9 fun j hj => (World.ownsRow.lt Hown8.out j hj).1); clear hown9 hch9)
    | (refine wpList_gaps (v := .slice (some ⟨w2.heap.size, 0, none⟩) 0 0) (ts := []) (us := l0) rfl _ _ rfl rfl rfl Hn0.out (Nat.zero_add _).symm Hor0.out (Hs.out _ Hcz.out) (by omega) Hbz.out ?_; intro v8 w8 hown8 hgr8; obtain ⟨q8, c8, rfl, -, -⟩ := row_shape hown8; have Hown8 := Lib.hid hown8; have Hs8 := Lib.hid hgr8.size; have Hg8 := Lib.hid hgr8; have Hc8 := Lib.hid (Hcz.out.above ((Chg.refl _ _).grown hgr8 fun j hj => .inl hj) fun j hj => (by cases hj; exact Hc2.out.size)); clear hown8 hgr8)
    )
  obtain ⟨gm, rfl⟩ := own_some Hown9.out (by omega)
  obtain ⟨nm, hnm⟩ : ∃ nm, nm = n0 + 1 := ⟨_, rfl⟩
  obtain ⟨lm, hlm⟩ : ∃ lm, lm = l0 ++ [(7, 9)] := ⟨_, rfl⟩
  have hlen : nm = lm.length := by rw [hlm, hnm, List.length_append, ← Hn0.out]; rfl
  rw [← hlm] at Hown9
  rw [← hnm] at Hown9 hc9a ⊢
  have HwM := Lib.hid (show ∀ g ∈ lm, In64 g.1 ∧ In64 g.2 from fun g hg => by
    rw [hlm] at hg
    rcases List.mem_append.1 hg with hg | hg
    · exact Hwf.out g hg
    · rw [List.mem_singleton] at hg; subst hg; unfold In64; decide)
  obtain ⟨kb, hkk⟩ := GapS.of_row Hown9.out hlen HwM.out
  have HM := Lib.hid (fun (W' : World) (h : Chg NoB w9 W') => hkk.keep h fun _ _ => id)
  have hkt := hkk.take (k := n0) (by rw [← hlen]; omega)
  rw [show lm.take n0 = l0 by rw [hlm, Hn0.out, List.take_left]] at hkt
  have HP := Lib.hid (fun (W' : World) (h : Chg NoB w9 W') => hkt.keep h fun _ _ => id)
  have HOr := Lib.hid (or_any l0 l1 _ _ _ _ kb 0 kb1 ko1 w9 (HP.out w9 (Chg.refl _ _)) (Ht.out w9 Hc9.out))
  have Hnm := Lib.hid hnm
  have Hlm := Lib.hid hlm
  have Hlen := Lib.hid hlen
  have hn0m : n0 ≤ c9 := by omega
  have hn0n : n0 < nm := by omega
  unfold maxLen at hc9b
  have Hz9 := Lib.hid (Nat.le_trans (Nat.le_trans Hbz.out Hs8.out) Hs9.out)
  clear hnm hlm hlen hkk hkt Hown8 Hs8 Hg8 Hc8 Hor0 Hcz Hbz Hs9
  go_wp2_with fail
  refine HOr.out.mono ?_
  rintro e w10 hop
  obtain ⟨q10, m10, c10, k10, d10, rfl, hc10, hm10, hr10, hwf10, hv10, hs10⟩ := op_row hop
  have Hm10 := Lib.hid hm10
  have Hr10 := Lib.hid hr10
  have Hw10 := Lib.hid hwf10
  have Hv10 := Lib.hid hv10
  have Hc10 := Lib.hid (Hc9.out.trans hc10)
  have Hd10 := Lib.hid (hc10)
  have Hz10 := Lib.hid hc10.size
  have He10 := Lib.hid hc10
  clear hop hc10 hm10 hr10 hwf10 hv10
  have HAnd := Lib.hid (and_any l0 l1 _ _ _ _ kb 0 kb1 ko1 w10 (HP.out w10 Hd10.out) (Ht.out w10 Hc10.out))
  go_wp2_with fail
  refine HAnd.out.mono ?_
  rintro e w11 hop
  obtain ⟨q11, m11, c11, k11, d11, rfl, hc11, hm11, hr11, hwf11, hv11, hs11⟩ := op_row hop
  have Hm11 := Lib.hid hm11
  have Hr11 := Lib.hid hr11
  have Hw11 := Lib.hid hwf11
  have Hv11 := Lib.hid hv11
  have Hc11 := Lib.hid (Hc10.out.trans hc11)
  have Hd11 := Lib.hid ((Hd10.out.trans hc11))
  have Hz11 := Lib.hid hc11.size
  have He11 := Lib.hid hc11
  clear hop hc11 hm11 hr11 hwf11 hv11
  have HNot := Lib.hid (not_any l0 _ _ kb 0 w11 (HP.out w11 Hd11.out))
  go_wp2_with fail
  refine HNot.out.mono ?_
  rintro e w12 hop
  obtain ⟨q12, m12, c12, k12, d12, rfl, hc12, hm12, hr12, hwf12, hv12, hs12⟩ := op_row hop
  have Hm12 := Lib.hid hm12
  have Hr12 := Lib.hid hr12
  have Hw12 := Lib.hid hwf12
  have Hv12 := Lib.hid hv12
  have Hc12 := Lib.hid (Hc11.out.trans hc12)
  have Hd12 := Lib.hid ((Hd11.out.trans hc12))
  have Hz12 := Lib.hid hc12.size
  have He12 := Lib.hid hc12
  clear hop hc12 hm12 hr12 hwf12 hv12
  have hal := (Chg.refl NoB w12).alloc (.cells #[] 37)
  have Hcz := Lib.hid (Hc12.out.trans hal)
  have Hor0 := Lib.hid (show (w12.alloc (.cells #[] 37)).ownsRow w12.heap.size 37 2 (.slice (some ⟨w12.heap.size, 0, none⟩) 0 0) 0 (flatG []) from ⟨rfl, .inr ⟨w12.heap.size, 0, _, rfl, Nat.le_refl _, heap_alloc_new w12 _, Nat.le_refl _, by decide, rfl, rfl⟩⟩)
  have Hbz := Lib.hid (show w12.heap.size ≤ (w12.alloc (.cells #[] 37)).heap.size from by rw [alloc_size]; omega)
  clear hal
  go_wp2_with (at_builtin; first
    | (have h8 := Hown13; refine wpList_gap (v := .slice q13 n0 c13) (l := l0) (y := (7, 9)) (b := w13.heap.size) rfl _ _ rfl rfl rfl Hn0.out rfl (ownsRow_chg Hown13.out ((Chg.refl NoB w13).alloc _) fun _ _ => id) (heap_alloc_new w13 _) (by omega) (Nat.le_trans (Nat.le_trans Hbz.out Hs13.out) ((Chg.refl NoB w13).alloc (.cells #[.int .i64 7, .int .i64 9] 37)).size) ?_; intro v14 w14 hown14 hch14; obtain ⟨q14, c14, rfl, hc14a, hc14b⟩ := row_shape hown14; have Hown14 := Lib.hid hown14; have Hs14 := Lib.hid (Nat.le_trans ((Chg.refl NoB w13).alloc (.cells #[.int .i64 7, .int .i64 9] 37)).size hch14.size); have Hc14 := Lib.hid ((Hc13.out.trans ((Chg.refl NoB w13).alloc (.cells #[.int .i64 7, .int .i64 9] 37))).above hch14 fun j hj => (Nat.le_trans Hc12.out.size (World.ownsRow.lt Hown13.out j hj).1)); have Hv14 := Lib.hid (((Chg.refl NoB w12).alloc (.cells #[] 37)).above ((Chg.refl _ _).grown Hg13.out fun j hj => .inl hj) (fun j hj => (by cases hj; exact Nat.le_refl _)) |>.trans ((Chg.refl NoB w13).alloc (.cells #[.int .i64 7, .int .i64 9] 37)) |>.above hch14 fun j hj => (World.ownsRow.lt Hown13.out j hj).1); clear hown14 hch14)
    | (refine wpList_gaps (v := .slice (some ⟨w12.heap.size, 0, none⟩) 0 0) (ts := []) (us := l0) rfl _ _ rfl rfl rfl Hn0.out (Nat.zero_add _).symm Hor0.out (Hs.out _ Hcz.out) (by omega) Hbz.out ?_; intro v13 w13 hown13 hgr13; obtain ⟨q13, c13, rfl, -, -⟩ := row_shape hown13; have Hown13 := Lib.hid hown13; have Hs13 := Lib.hid hgr13.size; have Hg13 := Lib.hid hgr13; have Hc13 := Lib.hid (Hcz.out.above ((Chg.refl _ _).grown hgr13 fun j hj => .inl hj) fun j hj => (by cases hj; exact Hc12.out.size)); clear hown13 hgr13)
    )
  obtain ⟨kb2, hk2⟩ := GapS.of_row Hown14.out (by rw [List.length_append, ← Hn0.out]; rfl) (by rw [← Hlm.out]; exact HwM.out)
  have HSm := Lib.hid (show Calls Tryz.prog 11 #[.slice (some ⟨gm, 0, none⟩) nm c9, .slice q14 (n0 + 1) c14] w14 (fun e w' => e = .returned (.bool true) ∧ Chg NoB w14 w') from by
    have h := same_any lm (l0 ++ [(7, 9)]) _ _ _ _ kb 0 kb2 0 w14 (HM.out w14 (Hd12.out.trans Hv14.out)) hk2
    rwa [decide_eq_true Hlm.out] at h)
  clear hk2 Hown13 Hs13 Hg13 Hc13 Hor0 Hcz Hbz Hs14 Hown14
  go_wp2_with fail
  refine HSm.out.mono ?_
  rintro e w15 ⟨rfl, hc15⟩
  have Hd15 := Lib.hid ((Hd12.out.trans Hv14.out).trans hc15)
  have Hc15 := Lib.hid ((Hc12.out.trans Hv14.out).trans hc15)
  have Hv15 := Lib.hid (Hv14.out.trans hc15)
  have HrM := Lib.hid (ownsRow_chg Hown9.out Hd15.out fun _ _ => id)
  have Hgm := Lib.hid (World.ownsRow.lt Hown9.out gm rfl)
  clear hc15 HSm
  go_wp2_with fail
  go_loopw [12, 68] (fun _ i wr => ∃ (k : Nat) (l' : List GapL), k ≤ nm ∧ i = .int .i64 k ∧ l'.length = nm ∧ wr.ownsRow w2.heap.size 37 2 (.slice (some ⟨gm, 0, none⟩) nm c9) nm (flatG l') ∧ Chg (fun j => (Value.slice (some ⟨gm, 0, none⟩) nm c9).ownBlock = some j) w15 wr) (fun _ i _ => nm - (intOf i).toNat)
  case atStart => exact ⟨0, lm, Nat.zero_le _, rfl, Hlen.out.symm, HrM.out, Chg.refl _ _⟩
  case round =>
    obtain ⟨k1, l', hk, rfl, hl', hor, hch⟩ := hrel
    have Hl' := Lib.hid hl'
    have Hor := Lib.hid hor
    have Hchk1 := Lib.hid hch
    clear hl' hor hch
    by_cases hlt : k1 < nm
    · skip
      have hkl : k1 < l'.length := by rw [Hl'.out]; exact hlt
      obtain ⟨t1, t2⟩ := row_cellG Hor.out k1 hkl
      have fr := row_freeG Hor.out
      have Hset := Lib.hid (row_two Hl'.out.symm Hor.out k1 hkl 0 0)
      generalize l'[k1].1 = y1 at t1
      generalize l'[k1].2 = y2 at t2
      clear hkl
      go_wp2_with fail
      go_roundw
      case rel => exact ⟨k1 + 1, l'.set k1 (0, 0), by omega, by go_num, by rw [List.length_set]; exact Hl'.out, Hset.out, (Hchk1.out.setCell (p := ⟨gm, k1 * 2, none⟩) (.inl rfl) _).setCell (p := ⟨gm, k1 * 2 + 1, none⟩) (.inl rfl) _⟩
      case measure => simp [intOf]; omega
    obtain rfl : k1 = nm := by omega
    obtain ⟨w16, hwr⟩ : ∃ w16, w16 = wr := ⟨_, rfl⟩
    subst hwr
    have Hx16 := Lib.hid (ownsRow_chg (ownsRow_chg Hr10.out (He11.out.trans (He12.out.trans Hv15.out)) fun _ _ => id) Hchk1.out fun j hj e => by cases e; have := (World.ownsRow.lt Hr10.out gm hj).1; have := Hgm.out; omega)
    have Hy16 := Lib.hid (ownsRow_chg (ownsRow_chg Hr11.out (He12.out.trans Hv15.out) fun _ _ => id) Hchk1.out fun j hj e => by cases e; have := (World.ownsRow.lt Hr11.out gm hj).1; have := Hgm.out; have := Hz10.out; omega)
    have Hzz16 := Lib.hid (ownsRow_chg (ownsRow_chg Hr12.out Hv15.out fun _ _ => id) Hchk1.out fun j hj e => by cases e; have := (World.ownsRow.lt Hr12.out gm hj).1; have := Hgm.out; have := Hz10.out; have := Hz11.out; omega)
    have HC16 := Lib.hid (Hc15.out.above Hchk1.out fun j e => by have h5 : gm = j := (by simpa [Value.ownBlock] using e); have := Hc2.out.size; have := Hgm.out; omega)
    clear hlt
    go_wp2_with fail
    go_loopw [13, 78] (fun _ i wr => ∃ (k : Nat) (l' : List GapL), k ≤ m11 ∧ i = .int .i64 k ∧ l'.length = m11 ∧ wr.ownsRow w10.heap.size 37 2 (.slice q11 m11 c11) m11 (flatG l') ∧ Chg (fun j => (Value.slice q11 m11 c11).ownBlock = some j) w16 wr) (fun _ i _ => m11 - (intOf i).toNat)
    case atStart => exact ⟨0, d11, Nat.zero_le _, rfl, Hm11.out.symm, Hy16.out, Chg.refl _ _⟩
    case round =>
      obtain ⟨k2, l', hk, rfl, hl', hor, hch⟩ := hrel
      have Hl' := Lib.hid hl'
      have Hor := Lib.hid hor
      have Hchk2 := Lib.hid hch
      clear hl' hor hch
      by_cases hlt : k2 < m11
      · obtain ⟨g', rfl⟩ := own_some Hor.out (by omega)
        have hkl : k2 < l'.length := by rw [Hl'.out]; exact hlt
        obtain ⟨t1, t2⟩ := row_cellG Hor.out k2 hkl
        have fr := row_freeG Hor.out
        have Hset := Lib.hid (row_two Hl'.out.symm Hor.out k2 hkl 0 0)
        generalize l'[k2].1 = y1 at t1
        generalize l'[k2].2 = y2 at t2
        clear hkl
        go_wp2_with fail
        go_roundw
        case rel => exact ⟨k2 + 1, l'.set k2 (0, 0), by omega, by go_num, by rw [List.length_set]; exact Hl'.out, Hset.out, (Hchk2.out.setCell (p := ⟨g', k2 * 2, none⟩) (.inl rfl) _).setCell (p := ⟨g', k2 * 2 + 1, none⟩) (.inl rfl) _⟩
        case measure => simp [intOf]; omega
      obtain rfl : k2 = m11 := by omega
      obtain ⟨w17, hwr⟩ : ∃ w17, w17 = wr := ⟨_, rfl⟩
      subst hwr
      have Hx17 := Lib.hid (ownsRow_chg Hx16.out Hchk2.out fun j hj e => by have := (World.ownsRow.lt Hr10.out j hj).2; have := (World.ownsRow.lt Hr11.out j e).1; omega)
      have Hzz17 := Lib.hid (ownsRow_chg Hzz16.out Hchk2.out fun j hj e => by have := (World.ownsRow.lt Hr12.out j hj).1; have := (World.ownsRow.lt Hr11.out j e).2; omega)
      have HC17 := Lib.hid (HC16.out.above Hchk2.out fun j e => by have := (World.ownsRow.lt Hr11.out j e).1; have := Hc10.out.size; omega)
      clear hlt
      go_wp2_with fail
      go_loopw [14, 88] (fun _ i wr => ∃ (k : Nat) (l' : List GapL), k ≤ m12 ∧ i = .int .i64 k ∧ l'.length = m12 ∧ wr.ownsRow w11.heap.size 37 2 (.slice q12 m12 c12) m12 (flatG l') ∧ Chg (fun j => (Value.slice q12 m12 c12).ownBlock = some j) w17 wr) (fun _ i _ => m12 - (intOf i).toNat)
      case atStart => exact ⟨0, d12, Nat.zero_le _, rfl, Hm12.out.symm, Hzz17.out, Chg.refl _ _⟩
      case round =>
        obtain ⟨k3, l', hk, rfl, hl', hor, hch⟩ := hrel
        have Hl' := Lib.hid hl'
        have Hor := Lib.hid hor
        have Hchk3 := Lib.hid hch
        clear hl' hor hch
        by_cases hlt : k3 < m12
        · obtain ⟨g', rfl⟩ := own_some Hor.out (by omega)
          have hkl : k3 < l'.length := by rw [Hl'.out]; exact hlt
          obtain ⟨t1, t2⟩ := row_cellG Hor.out k3 hkl
          have fr := row_freeG Hor.out
          have Hset := Lib.hid (row_two Hl'.out.symm Hor.out k3 hkl 0 0)
          generalize l'[k3].1 = y1 at t1
          generalize l'[k3].2 = y2 at t2
          clear hkl
          go_wp2_with fail
          go_roundw
          case rel => exact ⟨k3 + 1, l'.set k3 (0, 0), by omega, by go_num, by rw [List.length_set]; exact Hl'.out, Hset.out, (Hchk3.out.setCell (p := ⟨g', k3 * 2, none⟩) (.inl rfl) _).setCell (p := ⟨g', k3 * 2 + 1, none⟩) (.inl rfl) _⟩
          case measure => simp [intOf]; omega
        obtain rfl : k3 = m12 := by omega
        obtain ⟨w18, hwr⟩ : ∃ w18, w18 = wr := ⟨_, rfl⟩
        subst hwr
        have Hx18 := Lib.hid (ownsRow_chg Hx17.out Hchk3.out fun j hj e => by have := (World.ownsRow.lt Hr10.out j hj).2; have := (World.ownsRow.lt Hr12.out j e).1; have := Hz11.out; omega)
        have HC18 := Lib.hid (HC17.out.above Hchk3.out fun j e => by have := (World.ownsRow.lt Hr12.out j e).1; have := Hc11.out.size; omega)
        have HB18 := Lib.hid (HBo.out w18 HC18.out)
        clear hlt
        go_wp2_with fail
        refine HB18.out.mono ?_
        rintro e w20 hop
        obtain ⟨q20, m20, c20, k20, d20, rfl, hc20, hm20, hr20, hwf20, hv20, hs20⟩ := op_row hop
        obtain ⟨hdd, hkk⟩ := OpV.same Hv10.out (show OpV _ (fun n => inG l0 n || inG l1 n) d20 k20 from hv20)
        subst hdd hkk
        obtain ⟨kx, hgx⟩ := GapS.of_row (ownsRow_chg Hx18.out hc20 fun _ _ => id) Hm10.out Hw10.out
        obtain ⟨kz, hgz⟩ := GapS.of_row hr20 hm20 hwf20
        have hm2 : m10 = m20 := by rw [Hm10.out, hm20]
        have HSx := Lib.hid (show Calls Tryz.prog 11 #[.slice q10 m10 c10, .slice q20 m20 c20] w20 (fun e w' => e = .returned (.bool true) ∧ Chg NoB w20 w') from by
          have h := same_any d10 d10 _ _ _ _ kx 0 kz 0 w20 hgx hgz
          rwa [decide_eq_true rfl] at h)
        have HC20 := Lib.hid (HC18.out.trans hc20)
        clear hop hc20 hm20 hr20 hwf20 hv20 hgx hgz hm2
        go_wp2_with fail
        refine HSx.out.mono ?_
        rintro e w21 ⟨rfl, hc21⟩
        have HC21 := Lib.hid (HC20.out.trans hc21)
        clear hc21
        go_wp2_with fail
        go_ret
        exact ⟨rfl, HC21.out⟩
/-FRAME-/
set_option maxRecDepth 100000 in
theorem spanKeeps_lifted (os : Os) (started : os.Started) (H : Type) (enc : TypeId × Value → H) :
    ReturnsInHanded {} Tryz.checked os 5 .any (fun w args => (Rows.spanKeepsSpec.pre enc Tryz.prog Tryz.f5 [] false w args ∧ laidMetH Tryz.prog Rows.spanKeepsRow.laid w) ∧ sizedMet enc Tryz.prog Tryz.f5 (OpenSpec.ofChange Rows.spanKeepsSpec) false w args)
      (Rows.spanKeepsSpec.post enc Tryz.prog Tryz.f5 false true false false) := by
  refine returns_both (C := Tryz.checked) (X := fun w _ => laidMetH Tryz.prog Rows.spanKeepsRow.laid w) (fun _ _ _ hh h => h.of_heap hh) Tryz.own started (by kernel_rfl) Tryz.func5
    (ChangeSpec.witness_shaped (enc := enc) (C := Tryz.checked) (os := os) (X := fun w _ => laidMetH Tryz.prog Rows.spanKeepsRow.laid w) false (World.laidAll Tryz.prog os Rows.spanKeepsRow.laid) #[.slice none 0 0, .slice none 0 0] 8 (World.laidAll_os _ _ _)
      (World.shaped_of_ZipB (by kernel_rfl) (by kernel_rfl)) (by kernel_rfl) (by kernel_rfl) (by kernel_rfl)
      (by rw [MakeChecks.laidMetH_plain _ _ _ (by kernel_rfl)]; exact laidMet_laidAll _ (by kernel_rfl) (by kernel_rfl))) ?_
  intro W base args ds gs before hval0 hW _ hsz hL hsh _
  have hval : ∀ (j : Nat) t v, Tryz.f5.params[j]? = some t → args[j]? = some v → Value.okWide Tryz.prog W .any base t v := hval0
  have hW' := hW
  obtain ⟨p, q, hA0, hV, rfl, _, _⟩ := hW
  have hA : DataW.TrodAll enc Tryz.prog W 0 (fun _ => true) true Tryz.f5.params.toList args.toList ds p := hA0
  have hsz1 : (DataW.weightsEach Tryz.prog (Tryz.f5.params.toList ++ Rows.spanKeepsSpec.plain.varTypes Tryz.prog) (ds ++ gs)).all (· ≤ reachBytes) = true := hsz
  rw [Tryz.params5] at hA hval hsz1
  obtain ⟨v0, v1, d0, d1, p0, p1, rfl, rfl, rfl, h0, h1⟩ := trodAll_two hA
  obtain ⟨rfl, rfl⟩ := trodVars_none hV
  obtain ⟨l0, kb0, ko0, hn0⟩ := open_gaps (hval 0 23 v0 rfl rfl) h0 (fun m hm => of_decide_eq_true (List.all_eq_true.1 hsz1 m (DataW.weights_mem_each (j := 0) (t := 23) (d := d0) rfl rfl m hm)))
  obtain ⟨l1, kb1, ko1, hn1⟩ := open_gaps (hval 1 23 v1 rfl rfl) h1 (fun m hm => of_decide_eq_true (List.all_eq_true.1 hsz1 m (DataW.weights_mem_each (j := 1) (t := 23) (d := d1) rfl rfl m hm)))
  simp only [List.append_nil] at hW'
  rw [MakeChecks.laidMetH_plain _ _ _ (by kernel_rfl)] at hL
  have hpw : Pw W.heap.size W := pw_of hL hsh
  clear hA0 hval0
  refine (spanKeeps_all l0 _ kb0 ko0 l1 _ kb1 ko1 W hn0 hn1 hpw).mono fun e W' ⟨he, hb⟩ => ?_
  subst he
  exact ⟨_, rfl, _, _, _, [], _, [], hW', trodAll_mk1 (shut_bool Tryz.underlying4 _), (trodAll_cons_mk (gaps_stay h0 hb.below) (trodAll_cons_mk (gaps_stay h1 hb.below) trodAll_mk0)), rfl, hb.below.frame _, fun h => by cases h⟩
theorem spanKeeps_holds : Rows.SpanKeepsSaid :=
  OpenClaim.holds_of_wide 5 Tryz.f5 rfl rfl rfl rfl rfl rfl rfl ⟨rfl, rfl, rfl, rfl, rfl⟩ rfl rfl rfl rfl rfl (by kernel_rfl) Tryz.func5 (by kernel_rfl)
    (of_decide_eq_true (by kernel_rfl)) (by unfold Func.isWrapper; first | (rw [if_pos (by decide +kernel)]; kernel_rfl) | (rw [if_neg (by decide +kernel)]; exact ⟨rfl, rfl⟩))
    (fun os started H enc _ => spanKeeps_lifted os started H enc)
theorem spanKeeps_card : Rows.SpanKeepsCardSaid :=
  Claim7.holds_tied_plain_at .later [] [.data, .data, .data, .data, .sentinel, .sentinel, .pinned] true (true, "08b08e35c6dc5aaa2b28500e9004efc212e1807fe65932fcd6fc137e44494a1d") true spanKeeps_holds (fun _ h => by cases h) (by kernel_rfl) (fun _ h => by cases h) spanKeeps_row_tie rfl ⟨rfl, rfl⟩ (by kernel_rfl) rfl
    (fun f fn hf hfn => by
      obtain rfl : f = 5 := Option.some.inj ((show Tryz.prog.funcNamed "sapling/saplinglaw07.SpanKeeps" = some 5 by kernel_rfl).symm.trans hf) |>.symm
      obtain rfl : fn = Tryz.f5 := (Option.some.inj (Tryz.func5.symm.trans hfn)).symm
      exact ⟨by kernel_rfl, fun j t ht => by
        rw [Tryz.params5] at ht
        have hm : t ∈ [23, 23] := by simpa using Array.mem_of_getElem? ht
        have hall : ([23, 23].all fun u => !Tryz.prog.wantsStandIn u) = true := by kernel_rfl
        exact (show Tryz.prog.wantsStandIn t = false by simpa using List.all_eq_true.1 hall t hm)⟩)
    (by kernel_rfl)
#print axioms spanKeeps_card
end Go.Proofs.YtaijhebjjbcdfaaGreatDoor
