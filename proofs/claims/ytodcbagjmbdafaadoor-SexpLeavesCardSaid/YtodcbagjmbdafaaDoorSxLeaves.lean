/- Proved: the statement SexpLeaves holds for every node and number. Conditions: the listed package variables read as the program's text lays them (the card ties them); nothing else. -/
import Derived.Test.YtodcbagjmbdafaaDoorSxGone
namespace Go.Proofs.YtodcbagjmbdafaaDoor
open Go.ChangeShapes Go.WideShapes Go.ChangeAt Go.RowKit
set_option linter.unusedVariables false
open Go.ChangeMaps (open_string shut_string)
set_option maxHeartbeats 2000000 in
set_option maxRecDepth 20000 in
theorem sexpLeaves_all (n : Nd) (v : Value) (most : Int) (W : World) (hv : NdV W (OldB W) v n) (wx : (Lit.int .i64 most).wf = true) (hl : Lb W.heap.size W) :
    Calls Tryd.prog 7 #[v, .int .i64 most] W fun e w' => e = .returned (.bool true) ∧ Chg NoB W w' := by
  obtain ⟨q, len, c, rfl⟩ := box_node hv
  have hal := (Chg.refl NoB W).alloc (.cells #[.bool n.leaf, .string n.atom, .slice q len c] 24)
  have hblk := heap_alloc_new W (.cells #[.bool n.leaf, .string n.atom, .slice q len c] 24)
  obtain ⟨vb, hvb⟩ : ∃ vb, vb = W.heap.size := ⟨_, rfl⟩
  rw [← hvb] at hblk
  have Hvb := Lib.hid hvb
  have Hal := Lib.hid hal
  have Hblk := Lib.hid hblk
  have Hv := Lib.hid (hv.keep hal fun _ _ => id)
  have Hl := Lib.hid hl
  clear hal hblk hvb hv hl wx
  go_enter Tryd.func7, Tryd.ntmps7
  go_upto_region 1 with fail
  rw [← Hvb.out]
  generalize W.alloc (.cells #[.bool n.leaf, .string n.atom, .slice q len c] 24) = w1 at *
  go_wp2_with fail
  refine (alive_any _ w1 (Hl.out.keep Hal.out)).mono ?_
  rintro e w2 ⟨rfl, hc2⟩
  have Hc2 := Lib.hid (Hal.out.trans hc2)
  have Hblk2 := Lib.hid (row_kept hc2 Hblk.out id)
  obtain ⟨v0, v1, v2⟩ := var3 Hblk2.out
  have Hv2 := Lib.hid (Hv.out.keep hc2 fun _ _ => id)
  have Hgr := Lib.hid (great_any n _ _ w2 Hv2.out)
  clear hc2
  go_wp2_with fail
  cases hg : greatN n with
  | true =>
    rw [hg] at Hgr
    refine Hgr.out.mono ?_
    rintro e w3 ⟨rfl, hc3⟩
    go_wp2_with fail
    go_ret
    exact ⟨rfl, Hc2.out.trans hc3⟩
  | false =>
    have hcnt := great_no hg
    rw [hg] at Hgr
    have Hcnt := Lib.hid hcnt
    clear hg hcnt
    refine Hgr.out.mono ?_
    rintro e w3 ⟨rfl, hc3⟩
    have Hc3 := Lib.hid (Hc2.out.trans hc3)
    have Hblk3 := Lib.hid (row_kept hc3 Hblk2.out id)
    have Hv3 := Lib.hid (Hv2.out.keep hc3 fun _ _ => id)
    have Hlv := Lib.hid (leavesR_any 1048576 (Nat.le_refl _) n (by have := Hcnt.out; omega) _ _ w3 Hv3.out)
    clear v0 v1 v2 Hgr
    obtain ⟨v0, v1, v2⟩ := var3 Hblk3.out
    clear hc3
    go_wp2_with fail
    refine Hlv.out.mono ?_
    rintro e w4 ⟨hc4, v4, rfl, hr4⟩
    have Hc4 := Lib.hid (Hc3.out.trans hc4)
    have Hblk4 := Lib.hid (row_kept hc4 Hblk3.out id)
    have Hv4 := Lib.hid (Hv3.out.keep hc4 fun _ _ => id)
    obtain ⟨wa, wc, rfl, -⟩ := hr4.shape
    obtain ⟨tl, htl⟩ : ∃ tl, tl = n.leaves.length := ⟨_, rfl⟩
    have htb : tl ≤ 131072 := by have := n.leaves_le; have := Hcnt.out; omega
    rw [← htl] at hr4 ⊢
    have Hr4 := Lib.hid hr4
    have hcn : n.count ≤ 1048576 := by have := Hcnt.out; omega
    have Hcn := Lib.hid hcn
    clear hc4 hr4 htl hcn v0 v1 v2 Hlv
    obtain ⟨v0, v1, v2⟩ := var3 Hblk4.out
    have Hg1 := Lib.hid (gone_any n Hcn.out _ _ _ _ ((tl : Int) + 1) w4 Hv4.out Hr4.out)
    go_wp2_with fail
    refine Hg1.out.mono ?_
    rintro e w5 ⟨rfl, hc5⟩
    have Hc5 := Lib.hid (Hc4.out.trans hc5)
    have Hblk5 := Lib.hid (row_kept hc5 Hblk4.out id)
    have Hv5 := Lib.hid (Hv4.out.keep hc5 fun _ _ => id)
    have Hr5 := Lib.hid (Hr4.out.keep hc5 fun _ _ => id)
    clear hc5 v0 v1 v2 Hg1
    obtain ⟨v0, v1, v2⟩ := var3 Hblk5.out
    have Hg2 := Lib.hid (gone_any n Hcn.out _ _ _ _ most w5 Hv5.out Hr5.out)
    go_wp2_with fail
    refine Hg2.out.mono ?_
    rintro e w6 ⟨rfl, hc6⟩
    have Hc6 := Lib.hid (Hc5.out.trans hc6)
    have Hblk6 := Lib.hid (row_kept hc6 Hblk5.out id)
    have Hv6 := Lib.hid (Hv5.out.keep hc6 fun _ _ => id)
    have Hr6 := Lib.hid (Hr5.out.keep hc6 fun _ _ => id)
    clear hc6 v0 v1 v2 Hg2
    obtain ⟨v0, v1, v2⟩ := var3 Hblk6.out
    have Hg3 := Lib.hid (gone_any n Hcn.out _ _ _ _ ((tl : Int) + 1) w6 Hv6.out Hr6.out)
    go_wp2_with fail
    refine Hg3.out.mono ?_
    rintro e w7 ⟨rfl, hc7⟩
    go_wp2_with fail
    go_ret
    exact ⟨rfl, Hc6.out.trans hc7⟩
/-FRAME-/
set_option maxRecDepth 100000 in
theorem sexpLeaves_lifted (os : Os) (started : os.Started) (H : Type) (enc : TypeId × Value → H) :
    ReturnsInHanded {} Tryd.checked os 7 .any (fun w args => (Rows.sexpLeavesSpec.pre enc Tryd.prog Tryd.f7 [] false w args ∧ laidMetH Tryd.prog Rows.sexpLeavesRow.laid w) ∧ sizedMet enc Tryd.prog Tryd.f7 (OpenSpec.ofChange Rows.sexpLeavesSpec) false w args)
      (Rows.sexpLeavesSpec.post enc Tryd.prog Tryd.f7 false true false false) := by
  refine returns_both (C := Tryd.checked) (X := fun w _ => laidMetH Tryd.prog Rows.sexpLeavesRow.laid w) (fun _ _ _ hh h => h.of_heap hh) Tryd.own started (by kernel_rfl) Tryd.func7
    (ChangeSpec.witness_shaped (enc := enc) (C := Tryd.checked) (os := os) (X := fun w _ => laidMetH Tryd.prog Rows.sexpLeavesRow.laid w) false (World.laidAll Tryd.prog os Rows.sexpLeavesRow.laid) #[.agg #[.bool false, .string ByteArray.empty, .slice none 0 0], .int .i64 0] 8 (World.laidAll_os _ _ _)
      (World.shaped_of_ZipB (by kernel_rfl) (by kernel_rfl)) (by kernel_rfl) (by kernel_rfl) (by kernel_rfl)
      (by rw [MakeChecks.laidMetH_plain _ _ _ (by kernel_rfl)]; exact laidMet_laidAll _ (by kernel_rfl) (by kernel_rfl))) ?_
  intro W base args ds gs before hval0 hW _ hsz hL hsh _
  have hval : ∀ (j : Nat) t v, Tryd.f7.params[j]? = some t → args[j]? = some v → Value.okWide Tryd.prog W .any base t v := hval0
  have hW' := hW
  obtain ⟨p, q, hA0, hV, rfl, _, _⟩ := hW
  have hA : DataW.TrodAll enc Tryd.prog W 0 (fun _ => true) true Tryd.f7.params.toList args.toList ds p := hA0
  rw [Tryd.params7] at hA hval
  obtain ⟨v0, v1, d0, d1, p0, p1, rfl, rfl, rfl, h0, h1⟩ := trodAll_two hA
  obtain ⟨rfl, rfl⟩ := trodVars_none hV
  obtain ⟨n0, hn0⟩ := open_node (hval 0 24 v0 rfl rfl) h0
  obtain ⟨x1, rfl, rfl, rfl, wx1⟩ := open_int Tryd.underlying3 (hval 1 3 v1 rfl rfl) h1
  simp only [List.append_nil] at hW'
  rw [MakeChecks.laidMetH_plain _ _ _ (by kernel_rfl)] at hL
  have hlb : Lb W.heap.size W := lb_of hL hsh
  clear hA0 hval0
  refine (sexpLeaves_all n0 _ x1 W hn0 wx1 hlb).mono fun e W' ⟨he, hb⟩ => ?_
  subst he
  exact ⟨_, rfl, _, _, _, [], _, [], hW', trodAll_mk1 (shut_bool Tryd.underlying4 _), (trodAll_cons_mk (node_stays h0 hb.below) (trodAll_cons_mk (shut_int Tryd.underlying3 wx1) trodAll_mk0)), rfl, hb.below.frame _, fun h => by cases h⟩
theorem sexpLeaves_holds : Rows.SexpLeavesSaid :=
  OpenClaim.holds_of_wide 7 Tryd.f7 rfl rfl rfl rfl rfl rfl rfl ⟨rfl, rfl, rfl, rfl, rfl⟩ rfl rfl rfl rfl rfl (by kernel_rfl) Tryd.func7 (by kernel_rfl)
    (of_decide_eq_true (by kernel_rfl)) (by unfold Func.isWrapper; first | (rw [if_pos (by decide +kernel)]; kernel_rfl) | (rw [if_neg (by decide +kernel)]; exact ⟨rfl, rfl⟩))
    (fun os started H enc _ => sexpLeaves_lifted os started H enc)
theorem sexpLeaves_card : Rows.SexpLeavesCardSaid :=
  Claim7.holds_tied_plain_at .later [] [.data, .data, .data, .sentinel, .sentinel] true (true, "1aacac15555e80772747c4c143a44f28a139365c580872b528a8a21d441e086a") true sexpLeaves_holds (fun _ h => by cases h) (by kernel_rfl) (fun _ h => by cases h) sexpLeaves_row_tie rfl ⟨rfl, rfl⟩ (by kernel_rfl) rfl
    (fun f fn hf hfn => by
      obtain rfl : f = 7 := Option.some.inj ((show Tryd.prog.funcNamed "sapling/saplinglaw01.SexpLeaves" = some 7 by kernel_rfl).symm.trans hf) |>.symm
      obtain rfl : fn = Tryd.f7 := (Option.some.inj (Tryd.func7.symm.trans hfn)).symm
      exact ⟨by kernel_rfl, fun j t ht => by
        rw [Tryd.params7] at ht
        have hm : t ∈ [24, 3] := by simpa using Array.mem_of_getElem? ht
        have hall : ([24, 3].all fun u => !Tryd.prog.wantsStandIn u) = true := by kernel_rfl
        exact (show Tryd.prog.wantsStandIn t = false by simpa using List.all_eq_true.1 hall t hm)⟩)
    (by kernel_rfl)
#print axioms sexpLeaves_card
end Go.Proofs.YtodcbagjmbdafaaDoor
