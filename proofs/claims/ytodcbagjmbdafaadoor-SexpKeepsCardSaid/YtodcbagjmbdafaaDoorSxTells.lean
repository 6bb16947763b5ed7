/- Proved: the statement SexpTells holds for every two nodes. Conditions: the listed package variables read as the program's text lays them (the card ties them); nothing else. -/
import Derived.Test.YtodcbagjmbdafaaDoorSxWrites
import Derived.Test.YtodcbagjmbdafaaDoorSxSame
namespace Go.Proofs.YtodcbagjmbdafaaDoor
open Go.ChangeShapes Go.WideShapes Go.ChangeAt Go.RowKit
set_option linter.unusedVariables false
open Go.ChangeMaps (open_string shut_string)
theorem putN_inj {n m : Nd} {ys : List UInt8} (h1 : putN n 0 [] = .ok ys) (h2 : putN m 0 [] = .ok ys) : n = m := by
  obtain ⟨e1, o1, _⟩ := putN_ok _ _ _ _ h1
  obtain ⟨e2, o2, _⟩ := putN_ok _ _ _ _ h2
  rw [List.nil_append] at e1 e2
  have r1 := rd_enc n 0 [] (2 * ys.length + 1) o1 (by rw [List.append_nil, ← e1]; exact Nat.le_refl _)
  have r2 := rd_enc m 0 [] (2 * ys.length + 1) o2 (by rw [List.append_nil, ← e2]; exact Nat.le_refl _)
  rw [List.append_nil, ← e1] at r1
  rw [List.append_nil, ← e2] at r2
  rw [r1] at r2
  simp only [Except.ok.injEq, Prod.mk.injEq, and_true] at r2
  exact r2
theorem tx_beq (a b : List UInt8) : ((tx a).toList == (tx b).toList) = (a == b) := by rw [Lib.toList_data, Lib.toList_data, tx_list, tx_list]
theorem tells_eq {n m : Nd} {xs ys : List UInt8} (h1 : putN n 0 [] = .ok xs) (h2 : putN m 0 [] = .ok ys) : (xs == ys) = sameN n m := by
  by_cases h : xs = ys
  · subst h
    rw [beq_self_eq_true]
    exact ((sameN_iff n m).2 (putN_inj h1 h2)).symm
  · rw [beq_eq_false_iff_ne.2 h]
    cases hs : sameN n m with
    | false => rfl
    | true =>
      have := (sameN_iff n m).1 hs
      subst this
      rw [h1] at h2
      cases h2
      exact absurd rfl h
/- what an encoding answers: a text and a number -/
def encO (r : Except Int (List UInt8)) : ByteArray × Int := match r with
  | .error y => (tx [], y)
  | .ok ys => (tx ys, 0)
theorem EncP.val {r : Except Int (List UInt8)} {w : World} {e : Ending} {w' : World} (h : EncP r w e w') : Chg NoB w w' ∧ ∃ (s : ByteArray) (y : Int), e = .returned (.tuple #[.string s, .int .i64 y]) ∧ s = (encO r).1 ∧ y = (encO r).2 := by
  refine ⟨h.1, ?_⟩
  cases r with
  | error y => exact ⟨_, _, h.2, rfl, rfl⟩
  | ok ys => exact ⟨_, _, h.2, rfl, rfl⟩
set_option maxHeartbeats 4000000 in
set_option maxRecDepth 20000 in
theorem sexpTells_all (n : Nd) (v : Value) (m : Nd) (u : Value) (W : World) (hv : NdV W (OldB W) v n) (hu : NdV W (OldB W) u m) (hl : Lb W.heap.size W) :
    Calls Tryd.prog 6 #[v, u] W fun e w' => e = .returned (.bool true) ∧ Chg NoB W w' := by
  obtain ⟨q, len, c, rfl⟩ := box_node hv
  obtain ⟨q2, len2, c2, rfl⟩ := box_node hu
  have hal := ((Chg.refl NoB W).alloc (.cells #[.bool n.leaf, .string n.atom, .slice q len c] 24)).alloc (.cells #[.bool m.leaf, .string m.atom, .slice q2 len2 c2] 24)
  have hblk := row_kept ((Chg.refl NoB (W.alloc (.cells #[.bool n.leaf, .string n.atom, .slice q len c] 24))).alloc (.cells #[.bool m.leaf, .string m.atom, .slice q2 len2 c2] 24)) (heap_alloc_new W _) id
  have hblk2 := heap_alloc_new (W.alloc (.cells #[.bool n.leaf, .string n.atom, .slice q len c] 24)) (.cells #[.bool m.leaf, .string m.atom, .slice q2 len2 c2] 24)
  rw [alloc_size] at hblk2
  obtain ⟨vb, hvb⟩ : ∃ vb, vb = W.heap.size := ⟨_, rfl⟩
  rw [← hvb] at hblk hblk2
  have Hvb := Lib.hid hvb
  have Hal := Lib.hid hal
  have Hb1 := Lib.hid hblk
  have Hb2 := Lib.hid hblk2
  have Hv := Lib.hid (hv.keep hal fun _ _ => id)
  have Hu := Lib.hid (hu.keep hal fun _ _ => id)
  have Hl := Lib.hid hl
  clear hal hblk hblk2 hvb hv hu hl
  go_enter Tryd.func6, Tryd.ntmps6
  go_upto_region 1 with fail
  rw [← Hvb.out]
  generalize (W.alloc (.cells #[.bool n.leaf, .string n.atom, .slice q len c] 24)).alloc (.cells #[.bool m.leaf, .string m.atom, .slice q2 len2 c2] 24) = w1 at *
  go_wp2_with fail
  refine (alive_any _ w1 (Hl.out.keep Hal.out)).mono ?_
  rintro e w2 ⟨rfl, hc2⟩
  have Hc2 := Lib.hid (Hal.out.trans hc2)
  have Hb12 := Lib.hid (row_kept hc2 Hb1.out id)
  have Hb22 := Lib.hid (row_kept hc2 Hb2.out id)
  have Hv2 := Lib.hid (Hv.out.keep hc2 fun _ _ => id)
  have Hu2 := Lib.hid (Hu.out.keep hc2 fun _ _ => id)
  obtain ⟨v0, v1, v2⟩ := var3 Hb12.out
  obtain ⟨u0, u1, u2⟩ := var3 Hb22.out
  have Hgr := Lib.hid (great_any n _ _ w2 Hv2.out)
  clear hc2
  go_wp2_with fail
  cases hg : greatN n with
  | true =>
    rw [hg] at Hgr
    refine Hgr.out.mono ?_
    rintro e w3 ⟨rfl, hc3⟩
    go_wp2_with fail
    go_ret
    exact ⟨rfl, Hc2.out.trans hc3⟩
  | false =>
    have hcnt := great_no hg
    rw [hg] at Hgr
    have Hcnt := Lib.hid hcnt
    clear hg hcnt
    refine Hgr.out.mono ?_
    rintro e w3 ⟨rfl, hc3⟩
    have Hc3 := Lib.hid (Hc2.out.trans hc3)
    have Hb13 := Lib.hid (row_kept hc3 Hb12.out id)
    have Hb23 := Lib.hid (row_kept hc3 Hb22.out id)
    have Hv3 := Lib.hid (Hv2.out.keep hc3 fun _ _ => id)
    have Hu3 := Lib.hid (Hu2.out.keep hc3 fun _ _ => id)
    clear v0 v1 v2 u0 u1 u2
    obtain ⟨v0, v1, v2⟩ := var3 Hb13.out
    obtain ⟨u0, u1, u2⟩ := var3 Hb23.out
    have Hgr3 := Lib.hid (great_any m _ _ w3 Hu3.out)
    clear hc3
    go_wp2_with fail
    cases hg2 : greatN m with
    | true =>
      rw [hg2] at Hgr3
      refine Hgr3.out.mono ?_
      rintro e w4 ⟨rfl, hc4⟩
      go_wp2_with fail
      go_ret
      exact ⟨rfl, Hc3.out.trans hc4⟩
    | false =>
      have hcnt2 := great_no hg2
      rw [hg2] at Hgr3
      have Hcnt2 := Lib.hid hcnt2
      clear hg2 hcnt2
      refine Hgr3.out.mono ?_
      rintro e w4 ⟨rfl, hc4⟩
      have Hc4 := Lib.hid (Hc3.out.trans hc4)
      have Hb14 := Lib.hid (row_kept hc4 Hb13.out id)
      have Hb24 := Lib.hid (row_kept hc4 Hb23.out id)
      have Hv4 := Lib.hid (Hv3.out.keep hc4 fun _ _ => id)
      have Hu4 := Lib.hid (Hu3.out.keep hc4 fun _ _ => id)
      clear v0 v1 v2 u0 u1 u2
      obtain ⟨v0, v1, v2⟩ := var3 Hb14.out
      obtain ⟨u0, u1, u2⟩ := var3 Hb24.out
      have Henc := Lib.hid ((enc_any n (by have := Hcnt.out; omega) _ _ w4 Hv4.out (old_lt Hc4.out) (Hl.out.keep Hc4.out).top).mono fun e w' h => h.val)
      clear hc4
      obtain ⟨r1, hr1⟩ : ∃ r1, r1 = putN n 0 [] := ⟨_, rfl⟩
      obtain ⟨r2, hr2⟩ : ∃ r2, r2 = putN m 0 [] := ⟨_, rfl⟩
      rw [← hr1] at Henc
      go_wp2_with fail
      refine Henc.out.mono ?_
      rintro e w5 ⟨hc5, s1, y1, rfl, hs1, hy1⟩
      have Hs1 := Lib.hid hs1
      have Hy1 := Lib.hid hy1
      clear hs1 hy1
      have Hc5 := Lib.hid (Hc4.out.trans hc5)
      have Hb15 := Lib.hid (row_kept hc5 Hb14.out id)
      have Hb25 := Lib.hid (row_kept hc5 Hb24.out id)
      have Hv5 := Lib.hid (Hv4.out.keep hc5 fun _ _ => id)
      have Hu5 := Lib.hid (Hu4.out.keep hc5 fun _ _ => id)
      clear v0 v1 v2 u0 u1 u2
      obtain ⟨v0, v1, v2⟩ := var3 Hb15.out
      obtain ⟨u0, u1, u2⟩ := var3 Hb25.out
      have Henc2 := Lib.hid ((enc_any m (by have := Hcnt2.out; omega) _ _ w5 Hu5.out (old_lt Hc5.out) (Hl.out.keep Hc5.out).top).mono fun e w' h => h.val)
      rw [← hr2] at Henc2
      clear hc5
      go_wp2_with fail
      refine Henc2.out.mono ?_
      rintro e w6 ⟨hc6, s2, y2, rfl, hs2, hy2⟩
      have Hs2 := Lib.hid hs2
      have Hy2 := Lib.hid hy2
      clear hs2 hy2
      have Hc6 := Lib.hid (Hc5.out.trans hc6)
      have Hb16 := Lib.hid (row_kept hc6 Hb15.out id)
      have Hb26 := Lib.hid (row_kept hc6 Hb25.out id)
      have Hv6 := Lib.hid (Hv5.out.keep hc6 fun _ _ => id)
      have Hu6 := Lib.hid (Hu5.out.keep hc6 fun _ _ => id)
      clear v0 v1 v2 u0 u1 u2
      obtain ⟨v0, v1, v2⟩ := var3 Hb16.out
      obtain ⟨u0, u1, u2⟩ := var3 Hb26.out
      clear hc6
      cases r1 with
      | error y =>
        obtain ⟨g0, g1⟩ := putN_err _ _ _ _ hr1.symm
        have hy : y1 = y := Hy1.out
        have hyb : (y1 == 0) = false := by rw [beq_eq_false_iff_ne]; omega
        have hyn : (y1 != 0) = true := by rw [bne, hyb]; rfl
        clear hr1 hr2 Hy1 Hs1 hy Hy2 Hs2
        go_wp2_with fail
        go_ret
        exact ⟨rfl, Hc6.out⟩
      | ok xs =>
        obtain rfl : y1 = 0 := Hy1.out
        obtain rfl : s1 = tx xs := Hs1.out
        cases r2 with
        | error y =>
          obtain ⟨g0, g1⟩ := putN_err _ _ _ _ hr2.symm
          have hy : y2 = y := Hy2.out
          have hyb : (y2 == 0) = false := by rw [beq_eq_false_iff_ne]; omega
          have hyn : (y2 != 0) = true := by rw [bne, hyb]; rfl
          clear hr1 hr2 Hy1 Hs1 hy Hy2 Hs2
          go_wp2_with fail
          go_ret
          exact ⟨rfl, Hc6.out⟩
        | ok ys =>
          obtain rfl : y2 = 0 := Hy2.out
          obtain rfl : s2 = tx ys := Hs2.out
          have Htell := Lib.hid (tells_eq hr1.symm hr2.symm)
          have hbeq := tx_beq xs ys
          have Hsame := Lib.hid (same_any 131072 n m Hcnt.out (by decide) _ _ _ _ w6 Hv6.out Hu6.out)
          clear hr1 hr2 Hy1 Hs1 Hy2 Hs2
          go_wp2_with fail
          refine Hsame.out.mono ?_
          rintro e w7 ⟨rfl, hc7⟩
          go_wp2_with fail
          go_ret
          refine ⟨?_, Hc6.out.trans hc7⟩
          rw [Htell.out]
          simp
/-FRAME-/
set_option maxRecDepth 100000 in
theorem sexpTells_lifted (os : Os) (started : os.Started) (H : Type) (enc : TypeId × Value → H) :
    ReturnsInHanded {} Tryd.checked os 6 .any (fun w args => (Rows.sexpTellsSpec.pre enc Tryd.prog Tryd.f6 [] false w args ∧ laidMetH Tryd.prog Rows.sexpTellsRow.laid w) ∧ sizedMet enc Tryd.prog Tryd.f6 (OpenSpec.ofChange Rows.sexpTellsSpec) false w args)
      (Rows.sexpTellsSpec.post enc Tryd.prog Tryd.f6 false true false false) := by
  refine returns_both (C := Tryd.checked) (X := fun w _ => laidMetH Tryd.prog Rows.sexpTellsRow.laid w) (fun _ _ _ hh h => h.of_heap hh) Tryd.own started (by kernel_rfl) Tryd.func6
    (ChangeSpec.witness_shaped (enc := enc) (C := Tryd.checked) (os := os) (X := fun w _ => laidMetH Tryd.prog Rows.sexpTellsRow.laid w) false (World.laidAll Tryd.prog os Rows.sexpTellsRow.laid) #[.agg #[.bool false, .string ByteArray.empty, .slice none 0 0], .agg #[.bool false, .string ByteArray.empty, .slice none 0 0]] 8 (World.laidAll_os _ _ _)
      (World.shaped_of_ZipB (by kernel_rfl) (by kernel_rfl)) (by kernel_rfl) (by kernel_rfl) (by kernel_rfl)
      (by rw [MakeChecks.laidMetH_plain _ _ _ (by kernel_rfl)]; exact laidMet_laidAll _ (by kernel_rfl) (by kernel_rfl))) ?_
  intro W base args ds gs before hval0 hW _ hsz hL hsh _
  have hval : ∀ (j : Nat) t v, Tryd.f6.params[j]? = some t → args[j]? = some v → Value.okWide Tryd.prog W .any base t v := hval0
  have hW' := hW
  obtain ⟨p, q, hA0, hV, rfl, _, _⟩ := hW
  have hA : DataW.TrodAll enc Tryd.prog W 0 (fun _ => true) true Tryd.f6.params.toList args.toList ds p := hA0
  rw [Tryd.params6] at hA hval
  obtain ⟨v0, v1, d0, d1, p0, p1, rfl, rfl, rfl, h0, h1⟩ := trodAll_two hA
  obtain ⟨rfl, rfl⟩ := trodVars_none hV
  obtain ⟨n0, hn0⟩ := open_node (hval 0 24 v0 rfl rfl) h0
  obtain ⟨n1, hn1⟩ := open_node (hval 1 24 v1 rfl rfl) h1
  simp only [List.append_nil] at hW'
  rw [MakeChecks.laidMetH_plain _ _ _ (by kernel_rfl)] at hL
  have hlb : Lb W.heap.size W := lb_of hL hsh
  clear hA0 hval0
  refine (sexpTells_all n0 _ n1 _ W hn0 hn1 hlb).mono fun e W' ⟨he, hb⟩ => ?_
  subst he
  exact ⟨_, rfl, _, _, _, [], _, [], hW', trodAll_mk1 (shut_bool Tryd.underlying4 _), (trodAll_cons_mk (node_stays h0 hb.below) (trodAll_cons_mk (node_stays h1 hb.below) trodAll_mk0)), rfl, hb.below.frame _, fun h => by cases h⟩
theorem sexpTells_holds : Rows.SexpTellsSaid :=
  OpenClaim.holds_of_wide 6 Tryd.f6 rfl rfl rfl rfl rfl rfl rfl ⟨rfl, rfl, rfl, rfl, rfl⟩ rfl rfl rfl rfl rfl (by kernel_rfl) Tryd.func6 (by kernel_rfl)
    (of_decide_eq_true (by kernel_rfl)) (by unfold Func.isWrapper; first | (rw [if_pos (by decide +kernel)]; kernel_rfl) | (rw [if_neg (by decide +kernel)]; exact ⟨rfl, rfl⟩))
    (fun os started H enc _ => sexpTells_lifted os started H enc)
theorem sexpTells_card : Rows.SexpTellsCardSaid :=
  Claim7.holds_tied_plain_at .later [] [.data, .data, .data, .sentinel, .sentinel] true (true, "1aacac15555e80772747c4c143a44f28a139365c580872b528a8a21d441e086a") true sexpTells_holds (fun _ h => by cases h) (by kernel_rfl) (fun _ h => by cases h) sexpTells_row_tie rfl ⟨rfl, rfl⟩ (by kernel_rfl) rfl
    (fun f fn hf hfn => by
      obtain rfl : f = 6 := Option.some.inj ((show Tryd.prog.funcNamed "sapling/saplinglaw01.SexpTells" = some 6 by kernel_rfl).symm.trans hf) |>.symm
      obtain rfl : fn = Tryd.f6 := (Option.some.inj (Tryd.func6.symm.trans hfn)).symm
      exact ⟨by kernel_rfl, fun j t ht => by
        rw [Tryd.params6] at ht
        have hm : t ∈ [24, 24] := by simpa using Array.mem_of_getElem? ht
        have hall : ([24, 24].all fun u => !Tryd.prog.wantsStandIn u) = true := by kernel_rfl
        exact (show Tryd.prog.wantsStandIn t = false by simpa using List.all_eq_true.1 hall t hm)⟩)
    (by kernel_rfl)
#print axioms sexpTells_card
end Go.Proofs.YtodcbagjmbdafaaDoor
