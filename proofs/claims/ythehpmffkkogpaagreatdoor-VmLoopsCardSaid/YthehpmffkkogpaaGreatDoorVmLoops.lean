/- Proved: the statement VmLoops holds for every number. Conditions: the listed package variables read as the program's text lays them (the card ties them); nothing else. -/
import Derived.Test.YthehpmffkkogpaaGreatDoorVqH

namespace Go.Proofs.YthehpmffkkogpaaGreatDoor
set_option linter.unusedVariables false
open Go.ChangeShapes Go.WideShapes Go.ChangeAt Go.RowKit
open Go.ChangeMaps (open_string shut_string)
set_option maxHeartbeats 4000000 in
set_option maxRecDepth 20000 in
theorem vmLoops_all (x0 : Int) (W : World) (wx0 : (Lit.int .i64 x0).wf = true) (hml : Pth.Ml W) (hlb : Lb W.heap.size W) (hwd : Wd W.heap.size W) :
    Calls Tryz.prog 11 #[.int .i64 x0] W fun e w' => e = .returned (.bool true) ∧ Chg NoB W w' := by
  have hb0 := bounds_i64 wx0
  have Hwd := Lib.hid hwd
  have Hlb := Lib.hid hlb
  have Hml := Lib.hid hml
  clear hwd hlb hml wx0
  go_enter Tryz.func11, Tryz.ntmps11
  go_wp2_with fail
  refine (malive_any W.heap.size W Hwd.out Hlb.out Hml.out).mono ?_
  rintro e w1 ⟨rfl, hc1⟩
  have Hc1 := Lib.hid hc1
  clear hc1
  by_cases h0 : x0 < 0
  · go_wp2_with fail
    go_ret
    exact ⟨rfl, Hc1.out⟩
  by_cases h1 : 1000 < x0
  · go_wp2_with fail
    go_ret
    exact ⟨rfl, Hc1.out⟩
  have hal_ := (Chg.refl NoB w1).alloc (.cells #[.int .i64 2, .int .i64 x0, .string ⟨#[]⟩, .int .i64 8, .int .i64 0, .string ⟨#[]⟩, .int .i64 7, .int .i64 0, .string ⟨#[]⟩, .int .i64 18, .int .i64 9, .string ⟨#[]⟩, .int .i64 7, .int .i64 0, .string ⟨#[]⟩, .int .i64 2, .int .i64 (-1), .string ⟨#[]⟩, .int .i64 9, .int .i64 0, .string ⟨#[]⟩, .int .i64 8, .int .i64 0, .string ⟨#[]⟩, .int .i64 17, .int .i64 2, .string ⟨#[]⟩, .int .i64 1, .int .i64 0, .string ⟨#[]⟩] 46)
  have hb_ := heap_alloc_new w1 (.cells #[.int .i64 2, .int .i64 x0, .string ⟨#[]⟩, .int .i64 8, .int .i64 0, .string ⟨#[]⟩, .int .i64 7, .int .i64 0, .string ⟨#[]⟩, .int .i64 18, .int .i64 9, .string ⟨#[]⟩, .int .i64 7, .int .i64 0, .string ⟨#[]⟩, .int .i64 2, .int .i64 (-1), .string ⟨#[]⟩, .int .i64 9, .int .i64 0, .string ⟨#[]⟩, .int .i64 8, .int .i64 0, .string ⟨#[]⟩, .int .i64 17, .int .i64 2, .string ⟨#[]⟩, .int .i64 1, .int .i64 0, .string ⟨#[]⟩] 46)
  obtain ⟨b2, hxb_⟩ : ∃ b, b = w1.heap.size := ⟨_, rfl⟩
  obtain ⟨w2, hw_⟩ : ∃ w_, w1.alloc (.cells #[.int .i64 2, .int .i64 x0, .string ⟨#[]⟩, .int .i64 8, .int .i64 0, .string ⟨#[]⟩, .int .i64 7, .int .i64 0, .string ⟨#[]⟩, .int .i64 18, .int .i64 9, .string ⟨#[]⟩, .int .i64 7, .int .i64 0, .string ⟨#[]⟩, .int .i64 2, .int .i64 (-1), .string ⟨#[]⟩, .int .i64 9, .int .i64 0, .string ⟨#[]⟩, .int .i64 8, .int .i64 0, .string ⟨#[]⟩, .int .i64 17, .int .i64 2, .string ⟨#[]⟩, .int .i64 1, .int .i64 0, .string ⟨#[]⟩] 46) = w_ := ⟨_, rfl⟩
  have hz_ : w2.heap.size = b2 + 1 := by rw [← hw_, hxb_]; exact alloc_size _ _
  rw [hw_] at hal_ hb_
  rw [← hxb_] at hb_
  have Hw2 := Lib.hid hw_
  have Hx2 := Lib.hid hxb_
  have Ha2 := Lib.hid hal_
  have Hb2 := Lib.hid hb_
  have Hz2 := Lib.hid hz_
  clear hal_ hb_ hxb_ hw_ hz_
  have Hc2 := Lib.hid (Hc1.out.trans Ha2.out)
  have HR := Lib.hid (run_any (pL x0) [] _ NoB _ (.slice none 0 0) b2 0 0 0 W.heap.size w2 (Hwd.out.keep Hc2.out) (Hlb.out.keep Hc2.out) (ml_keep Hml.out Hc2.out) (by show 10 ≤ 131072; decide) (by decide) (fun x hx => nomatch hx) (insS_new (pL_wf x0 (by omega)) (by show 10 ≤ maxLen; decide) Hb2.out rfl (k := 10) rfl) (InpS.nil _ _))
  go_wp2_with fail
  rw [← Hx2.out, Hw2.out]
  refine HR.out.mono ?_
  intro e w3 hr
  unfold RunP at hr
  by_cases hbig : 585 ≤ x0
  · obtain ⟨n, rfl⟩ := Int.eq_ofNat_of_zero_le (by omega : 0 ≤ x0)
    rw [(pL_over n (by omega)).1, (pL_over n (by omega)).2] at hr
    obtain ⟨hc3, q3, k3, c3, kb3, ko3, hk3, rfl, hs3⟩ := hr
    have Hc3 := Lib.hid (Hc2.out.trans hc3)
    clear hc3 hs3 hk3 HR
    have hal := Lib.hid (Hc3.out.alloc (.cells #[.slice q3 k3 c3] 25))
    go_wp2_with fail
    go_ret
    exact ⟨rfl, hal.out⟩
  · obtain ⟨n, rfl⟩ := Int.eq_ofNat_of_zero_le (by omega : 0 ≤ x0)
    rw [(pL_fit n (by omega)).1, (pL_fit n (by omega)).2] at hr
    obtain ⟨hc3, q3, k3, c3, kb3, ko3, hk3, rfl, hs3⟩ := hr
    have Hc3 := Lib.hid (Hc2.out.trans hc3)
    clear hc3 hs3 hk3 HR
    have hal := Lib.hid (Hc3.out.alloc (.cells #[.slice q3 k3 c3] 25))
    go_wp2_with fail
    go_ret
    have hEq : ((7 * (n : Int) + 5) == 2 + 7 * (n : Int) + 2 + 1) = true := by rw [beq_iff_eq]; omega
    exact ⟨congrArg (fun b => Ending.returned (Value.bool b)) hEq, hal.out⟩
/-FRAME-/
set_option maxRecDepth 100000 in
theorem vmLoops_lifted (os : Os) (started : os.Started) (H : Type) (enc : TypeId × Value → H) :
    ReturnsInHanded {} Tryz.checked os 11 .any (fun w args => (Rows.vmLoopsSpec.pre enc Tryz.prog Tryz.f11 [] false w args ∧ laidMetH Tryz.prog Rows.vmLoopsRow.laid w) ∧ sizedMet enc Tryz.prog Tryz.f11 (OpenSpec.ofChange Rows.vmLoopsSpec) false w args)
      (Rows.vmLoopsSpec.post enc Tryz.prog Tryz.f11 false true false false) := by
  refine returns_both (C := Tryz.checked) (X := fun w _ => laidMetH Tryz.prog Rows.vmLoopsRow.laid w) (fun _ _ _ hh h => h.of_heap hh) Tryz.own started (by kernel_rfl) Tryz.func11
    (ChangeSpec.witness_shaped (enc := enc) (C := Tryz.checked) (os := os) (X := fun w _ => laidMetH Tryz.prog Rows.vmLoopsRow.laid w) false (World.laidAll Tryz.prog os Rows.vmLoopsRow.laid) #[.int .i64 0] 8 (World.laidAll_os _ _ _)
      (World.shaped_of_ZipB (by kernel_rfl) (by kernel_rfl)) (by kernel_rfl) (by kernel_rfl) (by kernel_rfl)
      (by rw [MakeChecks.laidMetH_plain _ _ _ (by kernel_rfl)]; exact laidMet_laidAll _ (by kernel_rfl) (by kernel_rfl))) ?_
  intro W base args ds gs before hval0 hW _ hsz hL hsh _
  have hval : ∀ (j : Nat) t v, Tryz.f11.params[j]? = some t → args[j]? = some v → Value.okWide Tryz.prog W .any base t v := hval0
  have hW' := hW
  obtain ⟨p, q, hA0, hV, rfl, _, _⟩ := hW
  have hA : DataW.TrodAll enc Tryz.prog W 0 (fun _ => true) true Tryz.f11.params.toList args.toList ds p := hA0
  have hsz1 : (DataW.weightsEach Tryz.prog (Tryz.f11.params.toList ++ Rows.vmLoopsSpec.plain.varTypes Tryz.prog) (ds ++ gs)).all (· ≤ reachBytes) = true := hsz
  rw [Tryz.params11] at hA hval hsz1
  obtain ⟨v0, d0, rfl, rfl, h0⟩ := trodAll_one hA
  obtain ⟨rfl, rfl⟩ := trodVars_none hV
  obtain ⟨x0, rfl, rfl, rfl, wx0⟩ := open_int Tryz.underlying3 (hval 0 3 v0 rfl rfl) h0
  simp only [List.append_nil] at hW'
  rw [MakeChecks.laidMetH_plain _ _ _ (by kernel_rfl)] at hL
  have hml : Pth.Ml W := wml_of hsh
  obtain ⟨hlb, hwd⟩ := lb8_of hL hsh
  clear hA0 hval0
  refine (vmLoops_all x0 W wx0 hml hlb hwd).mono fun e W' ⟨he, hb⟩ => ?_
  subst he
  exact ⟨_, rfl, _, _, _, [], _, [], hW', trodAll_mk1 (shut_bool Tryz.underlying4 _), (trodAll_cons_mk (shut_int Tryz.underlying3 wx0) trodAll_mk0), rfl, hb.below.frame _, fun h => by cases h⟩
theorem vmLoops_holds : Rows.VmLoopsSaid :=
  OpenClaim.holds_of_wide 11 Tryz.f11 rfl rfl rfl rfl rfl rfl rfl ⟨rfl, rfl, rfl, rfl, rfl⟩ rfl rfl rfl rfl rfl (by kernel_rfl) Tryz.func11 (by kernel_rfl)
    (of_decide_eq_true (by kernel_rfl)) (by unfold Func.isWrapper; first | (rw [if_pos (by decide +kernel)]; kernel_rfl) | (rw [if_neg (by decide +kernel)]; exact ⟨rfl, rfl⟩))
    (fun os started H enc _ => vmLoops_lifted os started H enc)
theorem vmLoops_card : Rows.VmLoopsCardSaid :=
  Claim7.holds_tied_plain_at .later [] [.data, .data, .data, .data, .sentinel, .sentinel, .widerDeep, .pinned] true (true, "ec86cb7f90a952613a297ea1a1848055ebca9cdb2e48697e77ccb43f8b788bff") true vmLoops_holds (fun _ h => by cases h) (by kernel_rfl) (fun _ h => by cases h) vmLoops_row_tie rfl ⟨rfl, rfl⟩ (by kernel_rfl) rfl
    (fun f fn hf hfn => by
      obtain rfl : f = 11 := Option.some.inj ((show Tryz.prog.funcNamed "sapling/saplinglaw10.VmLoops" = some 11 by kernel_rfl).symm.trans hf) |>.symm
      obtain rfl : fn = Tryz.f11 := (Option.some.inj (Tryz.func11.symm.trans hfn)).symm
      exact ⟨by kernel_rfl, fun j t ht => by
        rw [Tryz.params11] at ht
        have hm : t ∈ [3] := by simpa using Array.mem_of_getElem? ht
        have hall : ([3].all fun u => !Tryz.prog.wantsStandIn u) = true := by kernel_rfl
        exact (show Tryz.prog.wantsStandIn t = false by simpa using List.all_eq_true.1 hall t hm)⟩)
    (by kernel_rfl)
#print axioms vmLoops_card
end Go.Proofs.YthehpmffkkogpaaGreatDoor
