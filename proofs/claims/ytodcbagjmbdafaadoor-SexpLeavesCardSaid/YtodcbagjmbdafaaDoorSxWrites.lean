/- Proved: the statement SexpWrites holds for every node. Conditions: the listed package variables read as the program's text lays them (the card ties them); nothing else. -/
import Derived.Test.YtodcbagjmbdafaaDoorSxFrame
import Derived.Test.YtodcbagjmbdafaaDoorCards
import Derived.Test.YtodcbagjmbdafaaDoorTie
namespace Go.Proofs.YtodcbagjmbdafaaDoor
open Go.ChangeShapes Go.WideShapes Go.ChangeAt Go.RowKit
set_option linter.unusedVariables false
open Go.ChangeMaps (open_string shut_string)
/- a node boxed -/
theorem box_node {w : World} {S : Nat → Prop} {v : Value} {n : Nd} (hv : NdV w S v n) : ∃ q len c, v = .agg #[.bool n.leaf, .string n.atom, .slice q len c] := by
  obtain ⟨_, q, len, c, _, _, e, _⟩ := hv.shape
  exact ⟨q, len, c, e⟩
theorem old_lt {W w : World} (h : Chg NoB W w) : ∀ k, OldB W k → k < w.heap.size := fun k hk => by
  have h1 : k < W.heap.size := hk
  have := h.size
  omega
set_option maxHeartbeats 1000000 in
set_option maxRecDepth 20000 in
theorem sexpWrites_all (n : Nd) (v : Value) (W : World) (hv : NdV W (OldB W) v n) (hl : Lb W.heap.size W) :
    Calls Tryd.prog 3 #[v] W fun e w' => e = .returned (.bool true) ∧ Chg NoB W w' := by
  obtain ⟨q, len, c, rfl⟩ := box_node hv
  have hal := (Chg.refl NoB W).alloc (.cells #[.bool n.leaf, .string n.atom, .slice q len c] 24)
  have hblk := heap_alloc_new W (.cells #[.bool n.leaf, .string n.atom, .slice q len c] 24)
  obtain ⟨vb, hvb⟩ : ∃ vb, vb = W.heap.size := ⟨_, rfl⟩
  rw [← hvb] at hblk
  have Hvb := Lib.hid hvb
  have Hal := Lib.hid hal
  have Hblk := Lib.hid hblk
  have Hv := Lib.hid (hv.keep hal fun _ _ => id)
  have Hl := Lib.hid hl
  clear hal hblk hvb hv hl
  cases hg : greatN n with
  | true =>
    have Hg := Lib.hid hg
    clear hg
    go_enter Tryd.func3, Tryd.ntmps3
    go_upto_region 1 with fail
    rw [← Hvb.out]
    generalize W.alloc (.cells #[.bool n.leaf, .string n.atom, .slice q len c] 24) = w1 at *
    go_wp2_with fail
    refine (alive_any _ w1 (Hl.out.keep Hal.out)).mono ?_
    rintro e w2 ⟨rfl, hc2⟩
    have Hc2 := Lib.hid hc2
    obtain ⟨v0, v1, v2⟩ := var3 (row_kept hc2 Hblk.out id)
    have Hgr := Lib.hid (great_any n _ _ w2 (Hv.out.keep hc2 fun _ _ => id))
    rw [Hg.out] at Hgr
    clear hc2
    go_wp2_with fail
    refine Hgr.out.mono ?_
    rintro e w3 ⟨rfl, hc3⟩
    go_wp2_with fail
    go_ret
    exact ⟨rfl, Hal.out.trans (Hc2.out.trans hc3)⟩
  | false =>
    have hcnt := great_no hg
    have Hg := Lib.hid hg
    have Hcnt := Lib.hid hcnt
    clear hg hcnt
    cases hp : putN n 0 [] with
    | error y =>
      have Hp := Lib.hid hp
      clear hp
      go_enter Tryd.func3, Tryd.ntmps3
      go_upto_region 1 with fail
      rw [← Hvb.out]
      generalize W.alloc (.cells #[.bool n.leaf, .string n.atom, .slice q len c] 24) = w1 at *
      go_wp2_with fail
      refine (alive_any _ w1 (Hl.out.keep Hal.out)).mono ?_
      rintro e w2 ⟨rfl, hc2⟩
      have Hc2 := Lib.hid (Hal.out.trans hc2)
      have Hblk2 := Lib.hid (row_kept hc2 Hblk.out id)
      obtain ⟨v0, v1, v2⟩ := var3 Hblk2.out
      have Hv2 := Lib.hid (Hv.out.keep hc2 fun _ _ => id)
      have Hgr := Lib.hid (great_any n _ _ w2 Hv2.out)
      rw [Hg.out] at Hgr
      clear hc2
      go_wp2_with fail
      refine Hgr.out.mono ?_
      rintro e w3 ⟨rfl, hc3⟩
      have Hc3 := Lib.hid (Hc2.out.trans hc3)
      have Hblk3 := Lib.hid (row_kept hc3 Hblk2.out id)
      obtain ⟨v0, v1, v2⟩ := var3 Hblk3.out
      have Hv3 := Lib.hid (Hv2.out.keep hc3 fun _ _ => id)
      have Henc := Lib.hid (enc_any n (by have := Hcnt.out; omega) _ _ w3 Hv3.out (old_lt Hc3.out) (Hl.out.keep Hc3.out).top)
      rw [Hp.out] at Henc
      clear hc3
      go_wp2_with fail
      refine Henc.out.mono ?_
      rintro e w4 ⟨hc4, rfl⟩
      have Hc4 := Lib.hid (Hc3.out.trans hc4)
      have Hblk4 := Lib.hid (row_kept hc4 Hblk3.out id)
      obtain ⟨v0, v1, v2⟩ := var3 Hblk4.out
      have Hv4 := Lib.hid (Hv3.out.keep hc4 fun _ _ => id)
      have Henc2 := Lib.hid (encR_any n (by have := Hcnt.out; omega) _ _ w4 Hv4.out (old_lt Hc4.out) (Hl.out.keep Hc4.out).top)
      rw [Hp.out] at Henc2
      clear hc4
      go_wp2_with fail
      refine Henc2.out.mono ?_
      rintro e w5 ⟨hc5, rfl⟩
      go_wp2_with fail
      go_ret
      exact ⟨by simp, Hc4.out.trans hc5⟩
    | ok ys =>
      have Hp := Lib.hid hp
      clear hp
      go_enter Tryd.func3, Tryd.ntmps3
      go_upto_region 1 with fail
      rw [← Hvb.out]
      generalize W.alloc (.cells #[.bool n.leaf, .string n.atom, .slice q len c] 24) = w1 at *
      go_wp2_with fail
      refine (alive_any _ w1 (Hl.out.keep Hal.out)).mono ?_
      rintro e w2 ⟨rfl, hc2⟩
      have Hc2 := Lib.hid (Hal.out.trans hc2)
      have Hblk2 := Lib.hid (row_kept hc2 Hblk.out id)
      obtain ⟨v0, v1, v2⟩ := var3 Hblk2.out
      have Hv2 := Lib.hid (Hv.out.keep hc2 fun _ _ => id)
      have Hgr := Lib.hid (great_any n _ _ w2 Hv2.out)
      rw [Hg.out] at Hgr
      clear hc2
      go_wp2_with fail
      refine Hgr.out.mono ?_
      rintro e w3 ⟨rfl, hc3⟩
      have Hc3 := Lib.hid (Hc2.out.trans hc3)
      have Hblk3 := Lib.hid (row_kept hc3 Hblk2.out id)
      obtain ⟨v0, v1, v2⟩ := var3 Hblk3.out
      have Hv3 := Lib.hid (Hv2.out.keep hc3 fun _ _ => id)
      have Henc := Lib.hid (enc_any n (by have := Hcnt.out; omega) _ _ w3 Hv3.out (old_lt Hc3.out) (Hl.out.keep Hc3.out).top)
      rw [Hp.out] at Henc
      clear hc3
      go_wp2_with fail
      refine Henc.out.mono ?_
      rintro e w4 ⟨hc4, rfl⟩
      have Hc4 := Lib.hid (Hc3.out.trans hc4)
      have Hblk4 := Lib.hid (row_kept hc4 Hblk3.out id)
      obtain ⟨v0, v1, v2⟩ := var3 Hblk4.out
      have Hv4 := Lib.hid (Hv3.out.keep hc4 fun _ _ => id)
      have Henc2 := Lib.hid (encR_any n (by have := Hcnt.out; omega) _ _ w4 Hv4.out (old_lt Hc4.out) (Hl.out.keep Hc4.out).top)
      rw [Hp.out] at Henc2
      clear hc4
      go_wp2_with fail
      refine Henc2.out.mono ?_
      rintro e w5 ⟨hc5, rfl⟩
      go_wp2_with fail
      go_ret
      exact ⟨by simp, Hc4.out.trans hc5⟩
/-FRAME-/
set_option maxRecDepth 100000 in
theorem sexpWrites_lifted (os : Os) (started : os.Started) (H : Type) (enc : TypeId × Value → H) :
    ReturnsInHanded {} Tryd.checked os 3 .any (fun w args => (Rows.sexpWritesSpec.pre enc Tryd.prog Tryd.f3 [] false w args ∧ laidMetH Tryd.prog Rows.sexpWritesRow.laid w) ∧ sizedMet enc Tryd.prog Tryd.f3 (OpenSpec.ofChange Rows.sexpWritesSpec) false w args)
      (Rows.sexpWritesSpec.post enc Tryd.prog Tryd.f3 false true false false) := by
  refine returns_both (C := Tryd.checked) (X := fun w _ => laidMetH Tryd.prog Rows.sexpWritesRow.laid w) (fun _ _ _ hh h => h.of_heap hh) Tryd.own started (by kernel_rfl) Tryd.func3
    (ChangeSpec.witness_shaped (enc := enc) (C := Tryd.checked) (os := os) (X := fun w _ => laidMetH Tryd.prog Rows.sexpWritesRow.laid w) false (World.laidAll Tryd.prog os Rows.sexpWritesRow.laid) #[.agg #[.bool false, .string ByteArray.empty, .slice none 0 0]] 8 (World.laidAll_os _ _ _)
      (World.shaped_of_ZipB (by kernel_rfl) (by kernel_rfl)) (by kernel_rfl) (by kernel_rfl) (by kernel_rfl)
      (by rw [MakeChecks.laidMetH_plain _ _ _ (by kernel_rfl)]; exact laidMet_laidAll _ (by kernel_rfl) (by kernel_rfl))) ?_
  intro W base args ds gs before hval0 hW _ hsz hL hsh _
  have hval : ∀ (j : Nat) t v, Tryd.f3.params[j]? = some t → args[j]? = some v → Value.okWide Tryd.prog W .any base t v := hval0
  have hW' := hW
  obtain ⟨p, q, hA0, hV, rfl, _, _⟩ := hW
  have hA : DataW.TrodAll enc Tryd.prog W 0 (fun _ => true) true Tryd.f3.params.toList args.toList ds p := hA0
  rw [Tryd.params3] at hA hval
  obtain ⟨v0, d0, rfl, rfl, h0⟩ := trodAll_one hA
  obtain ⟨rfl, rfl⟩ := trodVars_none hV
  obtain ⟨n0, hn0⟩ := open_node (hval 0 24 v0 rfl rfl) h0
  simp only [List.append_nil] at hW'
  rw [MakeChecks.laidMetH_plain _ _ _ (by kernel_rfl)] at hL
  have hlb : Lb W.heap.size W := lb_of hL hsh
  clear hA0 hval0
  refine (sexpWrites_all n0 _ W hn0 hlb).mono fun e W' ⟨he, hb⟩ => ?_
  subst he
  exact ⟨_, rfl, _, _, _, [], _, [], hW', trodAll_mk1 (shut_bool Tryd.underlying4 _), (trodAll_cons_mk (node_stays h0 hb.below) trodAll_mk0), rfl, hb.below.frame _, fun h => by cases h⟩
theorem sexpWrites_holds : Rows.SexpWritesSaid :=
  OpenClaim.holds_of_wide 3 Tryd.f3 rfl rfl rfl rfl rfl rfl rfl ⟨rfl, rfl, rfl, rfl, rfl⟩ rfl rfl rfl rfl rfl (by kernel_rfl) Tryd.func3 (by kernel_rfl)
    (of_decide_eq_true (by kernel_rfl)) (by unfold Func.isWrapper; first | (rw [if_pos (by decide +kernel)]; kernel_rfl) | (rw [if_neg (by decide +kernel)]; exact ⟨rfl, rfl⟩))
    (fun os started H enc _ => sexpWrites_lifted os started H enc)
theorem sexpWrites_card : Rows.SexpWritesCardSaid :=
  Claim7.holds_tied_plain_at .later [] [.data, .data, .data, .sentinel, .sentinel] true (true, "1aacac15555e80772747c4c143a44f28a139365c580872b528a8a21d441e086a") true sexpWrites_holds (fun _ h => by cases h) (by kernel_rfl) (fun _ h => by cases h) sexpWrites_row_tie rfl ⟨rfl, rfl⟩ (by kernel_rfl) rfl
    (fun f fn hf hfn => by
      obtain rfl : f = 3 := Option.some.inj ((show Tryd.prog.funcNamed "sapling/saplinglaw01.SexpWrites" = some 3 by kernel_rfl).symm.trans hf) |>.symm
      obtain rfl : fn = Tryd.f3 := (Option.some.inj (Tryd.func3.symm.trans hfn)).symm
      exact ⟨by kernel_rfl, fun j t ht => by
        rw [Tryd.params3] at ht
        have hm : t ∈ [24] := by simpa using Array.mem_of_getElem? ht
        have hall : ([24].all fun u => !Tryd.prog.wantsStandIn u) = true := by kernel_rfl
        exact (show Tryd.prog.wantsStandIn t = false by simpa using List.all_eq_true.1 hall t hm)⟩)
    (by kernel_rfl)
#print axioms sexpWrites_card
end Go.Proofs.YtodcbagjmbdafaaDoor
