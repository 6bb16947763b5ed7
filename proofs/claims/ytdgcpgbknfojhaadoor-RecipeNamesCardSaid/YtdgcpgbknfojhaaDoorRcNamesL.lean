/- RecipeNames: the program's Name and the document's answer alike. Condition: the keywords read as listed. -/
import Derived.Test.YtdgcpgbknfojhaaDoorRcAlive
import Derived.Test.YtdgcpgbknfojhaaDoorRcRName
import Derived.Test.YtdgcpgbknfojhaaDoorRcOpen
import Derived.Test.YtdgcpgbknfojhaaDoorCards
import Derived.Test.YtdgcpgbknfojhaaDoorTie
import Derived.ChangeMaps

namespace Go.Proofs.YtdgcpgbknfojhaaDoor
set_option linter.unusedVariables false
open Go.ChangeShapes Go.WideShapes Go.ChangeAt Go.RowKit
open Go.ChangeMaps (open_string shut_string)
set_option maxHeartbeats 4000000 in
set_option maxRecDepth 20000 in
theorem recipeNames_all (a0 : ByteArray) (W : World) (wa : a0.size ≤ maxLen) (hk : Kw W.heap.size W) : Calls Tryd.prog 3 #[.string a0] W (SayB true W) := by
  obtain ⟨t, rfl⟩ : ∃ t, a0 = tx t := ⟨_, (tx_back a0).symm⟩
  have hzt : (tx t).size = t.length := tx_size t
  have HAL := Lib.hid (alive_any W.heap.size W hk)
  have HN := Lib.hid (fun w (h : Chg NoB W w) => name_any t W.heap.size w (hk.keep h))
  have HR := Lib.hid (fun w (h : t.length ≤ 8192) => rnam_any t w h)
  clear hk wa
  go_enter Tryd.func3, Tryd.ntmps3
  go_wp2_with fail
  refine HAL.out.mono ?_
  rintro e w2 ⟨rfl, hc2⟩
  have Hc2 := Lib.hid hc2
  clear hc2 HAL
  by_cases h1 : (1024 : Int) < (t.length : Int)
  · go_wp2_with fail
    go_ret
    exact ⟨rfl, Hc2.out⟩
  · have HN2 := Lib.hid (HN.out _ Hc2.out)
    have HR2 := Lib.hid (fun w => HR.out w (by omega))
    clear HN HR
    generalize nameN t = b at *
    go_wp2_with fail
    refine HN2.out.mono ?_
    rintro e w3 ⟨rfl, hc3⟩
    have Hc3 := Lib.hid (Hc2.out.trans hc3)
    clear hc3 HN2
    go_wp2_with fail
    refine (HR2.out _).mono ?_
    rintro e w4 ⟨rfl, hc4⟩
    have Hc4 := Lib.hid (Hc3.out.trans hc4)
    clear hc4 HR2
    cases b <;>
    · go_wp2_with fail
      go_ret
      exact ⟨rfl, Hc4.out⟩
/-FRAME-/
set_option maxRecDepth 100000 in
theorem recipeNames_lifted (os : Os) (started : os.Started) (H : Type) (enc : TypeId × Value → H) :
    ReturnsInHanded {} Tryd.checked os 3 .any (fun w args => (Rows.recipeNamesSpec.pre enc Tryd.prog Tryd.f3 [] false w args ∧ laidMetH Tryd.prog Rows.recipeNamesRow.laid w) ∧ sizedMet enc Tryd.prog Tryd.f3 (OpenSpec.ofChange Rows.recipeNamesSpec) false w args)
      (Rows.recipeNamesSpec.post enc Tryd.prog Tryd.f3 false true false false) := by
  refine returns_both (C := Tryd.checked) (X := fun w _ => laidMetH Tryd.prog Rows.recipeNamesRow.laid w) (fun _ _ _ hh h => h.of_heap hh) Tryd.own started (by kernel_rfl) Tryd.func3
    (ChangeSpec.witness_shaped (enc := enc) (C := Tryd.checked) (os := os) (X := fun w _ => laidMetH Tryd.prog Rows.recipeNamesRow.laid w) false (World.laidAll Tryd.prog os Rows.recipeNamesRow.laid) #[.string ByteArray.empty] 8 (World.laidAll_os _ _ _)
      (World.shaped_of_ZipB (by kernel_rfl) (by kernel_rfl)) (by kernel_rfl) (by kernel_rfl) (by kernel_rfl)
      (by rw [MakeChecks.laidMetH_plain _ _ _ (by kernel_rfl)]; exact laidMet_laidAll _ (by kernel_rfl) (by kernel_rfl))) ?_
  intro W base args ds gs before hval0 hW _ hsz hL hsh _
  have hval : ∀ (j : Nat) t v, Tryd.f3.params[j]? = some t → args[j]? = some v → Value.okWide Tryd.prog W .any base t v := hval0
  have hW' := hW
  obtain ⟨p, q, hA0, hV, rfl, _, _⟩ := hW
  have hA : DataW.TrodAll enc Tryd.prog W 0 (fun _ => true) true Tryd.f3.params.toList args.toList ds p := hA0
  have hsz1 : (DataW.weightsEach Tryd.prog (Tryd.f3.params.toList ++ Rows.recipeNamesSpec.plain.varTypes Tryd.prog) (ds ++ gs)).all (· ≤ reachBytes) = true := hsz
  rw [Tryd.params3] at hA hval hsz1
  obtain ⟨v0, d0, rfl, rfl, h0⟩ := trodAll_one hA
  obtain ⟨rfl, rfl⟩ := trodVars_none hV
  obtain ⟨x0, rfl, rfl, rfl, wx0⟩ := open_string Tryd.underlying9 (hval 0 9 v0 rfl rfl) h0
  simp only [List.append_nil] at hW'
  rw [MakeChecks.laidMetH_plain _ _ _ (by kernel_rfl)] at hL
  have hk := kw_of hL (by simp [Rows.recipeNamesRow]) hsh
  clear hA0 hval0
  refine (recipeNames_all x0 W wx0 hk).mono fun e W' ⟨he, hb⟩ => ?_
  subst he
  exact ⟨_, rfl, _, _, _, [], _, [], hW', trodAll_mk1 (shut_bool Tryd.underlying4 _), (trodAll_cons_mk (shut_string Tryd.underlying9 wx0) trodAll_mk0), rfl, hb.below.frame _, fun h => by cases h⟩
theorem recipeNames_holds : Rows.RecipeNamesSaid :=
  OpenClaim.holds_of_wide 3 Tryd.f3 rfl rfl rfl rfl rfl rfl rfl ⟨rfl, rfl, rfl, rfl, rfl⟩ rfl rfl rfl rfl rfl (by kernel_rfl) Tryd.func3 (by kernel_rfl)
    (of_decide_eq_true (by kernel_rfl)) (by unfold Func.isWrapper; first | (rw [if_pos (by decide +kernel)]; kernel_rfl) | (rw [if_neg (by decide +kernel)]; exact ⟨rfl, rfl⟩))
    (fun os started H enc _ => recipeNames_lifted os started H enc)
theorem recipeNames_card : Rows.RecipeNamesCardSaid :=
  Claim7.holds_tied_plain_at .later [] [.data, .widerDeep, .pinned] true (true, "84dcae1c79bcd0c5d1b5619793b6401619c3e41100eef341743cfb2d3a165d15") true recipeNames_holds (fun _ h => by cases h) (by kernel_rfl) (fun _ h => by cases h) recipeNames_row_tie rfl ⟨rfl, rfl⟩ (by kernel_rfl) rfl
    (fun f fn hf hfn => by
      obtain rfl : f = 3 := Option.some.inj ((show Tryd.prog.funcNamed "sapling/saplinglaw12.RecipeNames" = some 3 by kernel_rfl).symm.trans hf) |>.symm
      obtain rfl : fn = Tryd.f3 := (Option.some.inj (Tryd.func3.symm.trans hfn)).symm
      exact ⟨by kernel_rfl, fun j t ht => by
        rw [Tryd.params3] at ht
        have hm : t ∈ [9] := by simpa using Array.mem_of_getElem? ht
        have hall : ([9].all fun u => !Tryd.prog.wantsStandIn u) = true := by kernel_rfl
        exact (show Tryd.prog.wantsStandIn t = false by simpa using List.all_eq_true.1 hall t hm)⟩)
    (by kernel_rfl)
#print axioms recipeNames_card
end Go.Proofs.YtdgcpgbknfojhaaDoor
