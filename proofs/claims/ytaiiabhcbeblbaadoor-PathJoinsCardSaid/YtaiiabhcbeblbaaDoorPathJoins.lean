/- Proved: the statement PathJoins holds for every two texts. Conditions: the listed package variables read as the program's text lays them (the card ties them); nothing else. -/
import Derived.Test.YtaiiabhcbeblbaaDoorPathFrame
import Derived.Test.YtaiiabhcbeblbaaDoorCards
import Derived.Test.YtaiiabhcbeblbaaDoorTie
namespace Go.Proofs.YtaiiabhcbeblbaaDoor
open Go.ChangeShapes Go.WideShapes Go.ChangeAt Go.RowKit
set_option linter.unusedVariables false
open Go.ChangeMaps (open_string shut_string)
set_option maxHeartbeats 1000000 in
theorem joins_long (a b : ByteArray) (w : World) (hm : Ml w) (hl : 4096 < a.size ∨ 4096 < b.size) : Calls Tryd.prog 4 #[.string a, .string b] w (Bo true w) := by
  have Ha := Lib.hid (alive_any w hm)
  clear hm
  by_cases h1 : 4096 < a.size
  · clear hl
    go_enter Tryd.func4, Tryd.ntmps4
    go_wp2_with fail
    refine Ha.out.mono ?_
    rintro e w1 ⟨rfl, g⟩
    go_wp2_with fail
    go_ret
    exact ⟨rfl, g⟩
  · have h2 : 4096 < b.size := by omega
    clear hl
    go_enter Tryd.func4, Tryd.ntmps4
    go_wp2_with fail
    refine Ha.out.mono ?_
    rintro e w1 ⟨rfl, g⟩
    go_wp2_with fail
    go_ret
    exact ⟨rfl, g⟩
set_option maxHeartbeats 4000000 in
theorem joins_any (a b : ByteArray) (w : World) (hm : Ml w) (ht : Tabs w) : Calls Tryd.prog 4 #[.string a, .string b] w (Bo true w) := by
  by_cases hl : 4096 < a.size ∨ 4096 < b.size
  · exact joins_long a b w hm hl
  · have ha : a.size ≤ 4096 := by omega
    have hb : b.size ≤ 4096 := by omega
    have Ha := Lib.hid (alive_any w hm)
    obtain ⟨J, C, hJ⟩ : ∃ J C, ∀ w e w', Joined (joinL a.data.toList b.data.toList) w e w' → e = .returned (.tuple #[.string J, .int .i64 C]) ∧ Gr w w' := ⟨_, _, fun _ _ _ h => h⟩
    obtain ⟨U, V, hU⟩ : ∃ U V, ∀ w e w', Based (baseL a.data.toList) w e w' → e = .returned (.tuple #[.string U, .string V]) ∧ Gr w w' := ⟨_, _, fun _ _ _ h => h⟩
    obtain ⟨X, Y, hX⟩ : ∃ X Y, ∀ w e w', Undered (underL a.data.toList b.data.toList) w e w' → e = .returned (.tuple #[.string X, .bool Y]) ∧ Gr w w' := ⟨_, _, fun _ _ _ h => h⟩
    have H1 := Lib.hid (fun w1 (g : Gr w w1) => join_any a b w1 (by omega) (by omega) (hm.keep g))
    have H2 := Lib.hid (fun w1 => joinR_any a b w1 (by omega) (by omega))
    have H3 := Lib.hid (fun w1 (g : Gr w w1) => base_any a w1 (by omega) (hm.keep g) (ht.keep g))
    have H4 := Lib.hid (fun w1 => baseR_any a w1 (by omega))
    have H5 := Lib.hid (fun w1 (g : Gr w w1) => under_any a b w1 (by omega) (by omega) (hm.keep g))
    have H6 := Lib.hid (fun w1 => underR_any a b w1 (by omega) (by omega))
    have hJ := Lib.hid hJ
    have hU := Lib.hid hU
    have hX := Lib.hid hX
    clear hm ht hl
    go_enter Tryd.func4, Tryd.ntmps4
    go_wp2_with fail
    refine Ha.out.mono ?_
    rintro e w1 ⟨rfl, g⟩
    have G1 := Lib.hid g
    clear g
    go_wp2_with fail
    refine (H1.out w1 G1.out).mono ?_
    intro e w2 h
    obtain ⟨rfl, g⟩ := hJ.out _ _ _ h
    have G2 := Lib.hid (grown_trans G1.out g)
    clear g h
    go_wp2_with fail
    refine (H2.out w2).mono ?_
    intro e w3 h
    obtain ⟨rfl, g⟩ := hJ.out _ _ _ h
    have G3 := Lib.hid (grown_trans G2.out g)
    clear g h
    go_wp2_with fail
    refine (H3.out w3 G3.out).mono ?_
    intro e w4 h
    obtain ⟨rfl, g⟩ := hU.out _ _ _ h
    have G4 := Lib.hid (grown_trans G3.out g)
    clear g h
    go_wp2_with fail
    refine (H4.out w4).mono ?_
    intro e w5 h
    obtain ⟨rfl, g⟩ := hU.out _ _ _ h
    have G5 := Lib.hid (grown_trans G4.out g)
    clear g h
    go_wp2_with fail
    refine (H5.out w5 G5.out).mono ?_
    intro e w6 h
    obtain ⟨rfl, g⟩ := hX.out _ _ _ h
    have G6 := Lib.hid (grown_trans G5.out g)
    clear g h
    go_wp2_with fail
    refine (H6.out w6).mono ?_
    intro e w7 h
    obtain ⟨rfl, g⟩ := hX.out _ _ _ h
    have G7 := Lib.hid (grown_trans G6.out g)
    clear g h
    go_wp2_with fail
    go_ret
    exact ⟨ret_bool (by simp), G7.out⟩
/-FRAME-/
set_option maxRecDepth 100000 in
theorem pathJoins_lifted (os : Os) (started : os.Started) (H : Type) (enc : TypeId × Value → H) :
    ReturnsInHanded {} Tryd.checked os 4 .any (fun w args => (Rows.pathJoinsSpec.pre enc Tryd.prog Tryd.f4 [] false w args ∧ laidMetH Tryd.prog Rows.pathJoinsRow.laid w) ∧ sizedMet enc Tryd.prog Tryd.f4 (OpenSpec.ofChange Rows.pathJoinsSpec) false w args)
      (Rows.pathJoinsSpec.post enc Tryd.prog Tryd.f4 false true false false) := by
  refine returns_both (C := Tryd.checked) (X := fun w _ => laidMetH Tryd.prog Rows.pathJoinsRow.laid w) (fun _ _ _ hh h => h.of_heap hh) Tryd.own started (by kernel_rfl) Tryd.func4
    (ChangeSpec.witness_shaped (enc := enc) (C := Tryd.checked) (os := os) (X := fun w _ => laidMetH Tryd.prog Rows.pathJoinsRow.laid w) false (World.laidAll Tryd.prog os Rows.pathJoinsRow.laid) #[.string ByteArray.empty, .string ByteArray.empty] 8 (World.laidAll_os _ _ _)
      (World.shaped_of_ZipB (by kernel_rfl) (by kernel_rfl)) (by kernel_rfl) (by kernel_rfl) (by kernel_rfl)
      (by rw [MakeChecks.laidMetH_plain _ _ _ (by kernel_rfl)]; exact laidMet_laidAll _ (by kernel_rfl) (by kernel_rfl))) ?_
  intro W base args ds gs before hval0 hW _ _ hL hsh _
  have hval : ∀ (j : Nat) t v, Tryd.f4.params[j]? = some t → args[j]? = some v → Value.okWide Tryd.prog W .any base t v := hval0
  have hW' := hW
  obtain ⟨p, q, hA0, hV, rfl, _, _⟩ := hW
  have hA : DataW.TrodAll enc Tryd.prog W 0 (fun _ => true) true Tryd.f4.params.toList args.toList ds p := hA0
  rw [Tryd.params4] at hA hval
  obtain ⟨v0, v1, d0, d1, p0, p1, rfl, rfl, rfl, h0, h1⟩ := trodAll_two hA
  obtain ⟨rfl, rfl⟩ := trodVars_none hV
  obtain ⟨x, rfl, rfl, rfl, wx⟩ := open_string Tryd.underlying9 (hval 0 9 v0 rfl rfl) h0
  obtain ⟨y, rfl, rfl, rfl, wy⟩ := open_string Tryd.underlying9 (hval 1 9 v1 rfl rfl) h1
  simp only [List.append_nil] at hW'
  rw [MakeChecks.laidMetH_plain _ _ _ (by kernel_rfl)] at hL
  have hm : Ml W := ml_of W hsh
  have ht : Tabs W := tabs_of hL (.tail _ (.head _)) (.head _)
  clear hA0 hval0
  refine (joins_any x y W hm ht).mono fun e W' ⟨he, hb⟩ => ?_
  subst he
  exact ⟨_, rfl, _, _, _, [], [], [], hW', trodAll_mk1 (shut_bool Tryd.underlying4 _), trodAll_mk2 (shut_string Tryd.underlying9 wx) (shut_string Tryd.underlying9 wy), rfl, hb.frame _, fun h => by cases h⟩
theorem pathJoins_holds : Rows.PathJoinsSaid :=
  OpenClaim.holds_of_wide 4 Tryd.f4 rfl rfl rfl rfl rfl rfl rfl ⟨rfl, rfl, rfl, rfl, rfl⟩ rfl rfl rfl rfl rfl (by kernel_rfl) Tryd.func4 (by kernel_rfl)
    (of_decide_eq_true (by kernel_rfl)) (by unfold Func.isWrapper; first | (rw [if_pos (by decide +kernel)]; kernel_rfl) | (rw [if_neg (by decide +kernel)]; exact ⟨rfl, rfl⟩))
    (fun os started H enc _ => pathJoins_lifted os started H enc)
theorem pathJoins_card : Rows.PathJoinsCardSaid :=
  Claim7.holds_tied_plain_at .later [] [.data, .pinned] true (true, "a8f8bbc15004f66aea69549307893ecb6e2d518abe993fc6358a2cca60c8479f") false pathJoins_holds (fun _ h => by cases h) (by kernel_rfl) (fun _ h => by cases h) pathJoins_row_tie rfl ⟨rfl, rfl⟩ (by kernel_rfl) rfl
    (fun f fn hf hfn => by
      obtain rfl : f = 4 := Option.some.inj ((show Tryd.prog.funcNamed "sapling/saplinglaw04.PathJoins" = some 4 by kernel_rfl).symm.trans hf) |>.symm
      obtain rfl : fn = Tryd.f4 := (Option.some.inj (Tryd.func4.symm.trans hfn)).symm
      exact ⟨by kernel_rfl, fun j t ht => by
        rw [Tryd.params4] at ht
        have hm : t ∈ [9, 9] := by simpa using Array.mem_of_getElem? ht
        have hall : ([9, 9].all fun u => !Tryd.prog.wantsStandIn u) = true := by kernel_rfl
        exact (show Tryd.prog.wantsStandIn t = false by simpa using List.all_eq_true.1 hall t hm)⟩)
    (by kernel_rfl)
#print axioms pathJoins_card
end Go.Proofs.YtaiiabhcbeblbaaDoor
