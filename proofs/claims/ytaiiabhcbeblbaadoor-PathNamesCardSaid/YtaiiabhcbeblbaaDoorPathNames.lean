/- Proved: the statement PathNames holds for every text. Conditions: the listed package variables read as the program's text lays them (the card ties them); nothing else. -/
import Derived.Test.YtaiiabhcbeblbaaDoorPathFrame
import Derived.Test.YtaiiabhcbeblbaaDoorCards
import Derived.Test.YtaiiabhcbeblbaaDoorTie
namespace Go.Proofs.YtaiiabhcbeblbaaDoor
open Go.ChangeShapes Go.WideShapes Go.ChangeAt Go.RowKit
set_option linter.unusedVariables false
open Go.ChangeMaps (open_string shut_string)
set_option maxHeartbeats 1000000 in
theorem names_long (s : ByteArray) (w : World) (hm : Ml w) (hl : 4096 < s.size) : Calls Tryd.prog 3 #[.string s] w (Bo true w) := by
  have Ha := Lib.hid (alive_any w hm)
  clear hm
  go_enter Tryd.func3, Tryd.ntmps3
  go_wp2_with fail
  refine Ha.out.mono ?_
  rintro e w1 ⟨rfl, g⟩
  go_wp2_with fail
  go_ret
  exact ⟨rfl, g⟩
theorem texts_same {ps qs : List ByteArray} (h : ps.map (·.data.toList) = qs.map (·.data.toList)) : ps = qs := by
  induction ps generalizing qs with
  | nil => cases qs with
    | nil => rfl
    | cons q qs => simp at h
  | cons p ps ih => cases qs with
    | nil => simp at h
    | cons q qs =>
      simp only [List.map_cons, List.cons.injEq] at h
      rw [bytes_eq h.1, ih h.2]
set_option maxHeartbeats 4000000 in
theorem names_no (x : Bool) (s : ByteArray) (w : World) (hm : Ml w) (hl : s.size ≤ 4096) (hg : goodL s.data.toList = false) (hn : nameL s.data.toList = x) : Calls Tryd.prog 3 #[.string s] w (Bo true w) := by
  have Ha := Lib.hid (alive_any w hm)
  have HN := fun w => name_any s w (by omega)
  have HR := fun w => nameR_any s w (by omega)
  have HG := fun w1 (g : Gr w w1) => good_any s w1 (by omega) (hm.keep g)
  have HGR := fun w => goodR_any s w (by omega)
  have HP := fun w1 (g : Gr w w1) => parts_no s w1 (by omega) (hm.keep g) hg
  rw [hn] at HN HR
  rw [hg] at HG HGR
  have HN := Lib.hid HN
  have HR := Lib.hid HR
  have HG := Lib.hid HG
  have HGR := Lib.hid HGR
  have HP := Lib.hid HP
  clear hm hg hn
  cases x
  all_goals
    go_enter Tryd.func3, Tryd.ntmps3
    go_wp2_with fail
    refine Ha.out.mono ?_
    rintro e w1 ⟨rfl, g⟩
    have G1 := Lib.hid g
    clear g
    go_wp2_with fail
    refine (HN.out w1).mono ?_
    rintro e w2 ⟨rfl, g⟩
    have G2 := Lib.hid (grown_trans G1.out g)
    clear g
    go_wp2_with fail
    refine (HR.out w2).mono ?_
    rintro e w3 ⟨rfl, g⟩
    have G3 := Lib.hid (grown_trans G2.out g)
    clear g
    go_wp2_with fail
    refine (HG.out w3 G3.out).mono ?_
    rintro e w4 ⟨rfl, g⟩
    have G4 := Lib.hid (grown_trans G3.out g)
    clear g
    go_wp2_with fail
    refine (HGR.out w4).mono ?_
    rintro e w5 ⟨rfl, g⟩
    have G5 := Lib.hid (grown_trans G4.out g)
    clear g
    go_wp2_with fail
    refine (HP.out w5 G5.out).mono ?_
    rintro e w6 ⟨rfl, g⟩
    have G6 := Lib.hid (grown_trans G5.out g)
    clear g
    go_wp2_with fail
    refine (HG.out w6 G6.out).mono ?_
    rintro e w7 ⟨rfl, g⟩
    go_wp2_with fail
    go_ret
    exact ⟨rfl, grown_trans G6.out g⟩
set_option maxHeartbeats 4000000 in
theorem names_yes (x : Bool) (s : ByteArray) (w : World) (hm : Ml w) (hl : s.size ≤ 4096) (hg : goodL s.data.toList = true) (hn : nameL s.data.toList = x) : Calls Tryd.prog 3 #[.string s] w (Bo true w) := by
  have Ha := Lib.hid (alive_any w hm)
  have HN := fun w => name_any s w (by omega)
  have HR := fun w => nameR_any s w (by omega)
  have HG := fun w1 (g : Gr w w1) => good_any s w1 (by omega) (hm.keep g)
  have HGR := fun w => goodR_any s w (by omega)
  have HP := fun w1 (g : Gr w w1) => parts_yes s w1 (hm.keep g) hg
  have HQ := fun w => pieces_at s 47 w (by omega)
  rw [hn] at HN HR
  rw [hg] at HG HGR
  have HN := Lib.hid HN
  have HR := Lib.hid HR
  have HG := Lib.hid HG
  have HGR := Lib.hid HGR
  have HP := Lib.hid HP
  have HQ := Lib.hid HQ
  have hpl := pcs_len 47 s.data.toList
  have hsz : s.data.toList.length = s.size := by simp
  clear hm hg hn
  cases x
  all_goals
    go_enter Tryd.func3, Tryd.ntmps3
    go_wp2_with fail
    refine Ha.out.mono ?_
    rintro e w1 ⟨rfl, g⟩
    have G1 := Lib.hid g
    clear g
    go_wp2_with fail
    refine (HN.out w1).mono ?_
    rintro e w2 ⟨rfl, g⟩
    have G2 := Lib.hid (grown_trans G1.out g)
    clear g
    go_wp2_with fail
    refine (HR.out w2).mono ?_
    rintro e w3 ⟨rfl, g⟩
    have G3 := Lib.hid (grown_trans G2.out g)
    clear g
    go_wp2_with fail
    refine (HG.out w3 G3.out).mono ?_
    rintro e w4 ⟨rfl, g⟩
    have G4 := Lib.hid (grown_trans G3.out g)
    clear g
    go_wp2_with fail
    refine (HGR.out w4).mono ?_
    rintro e w5 ⟨rfl, g⟩
    have G5 := Lib.hid (grown_trans G4.out g)
    clear g
    go_wp2_with fail
    refine (HP.out w5 G5.out).mono ?_
    rintro e w6 ⟨ps, hps, b, rfl, hb1, hb2, ht, g⟩
    have G6 := Lib.hid (grown_trans G5.out g)
    have T := Lib.hid ht
    have Hps := Lib.hid hps
    have hlen : ps.length ≤ 4097 := by have := parts_len hps; omega
    clear g hps ht
    go_wp2_with fail
    refine (HG.out w6 G6.out).mono ?_
    rintro e w7 ⟨rfl, g⟩
    have G7 := Lib.hid (grown_trans G6.out g)
    have T7 := Lib.hid (T.out.keep g)
    clear g T
    go_wp2_with fail
    refine (HQ.out w7).mono ?_
    rintro e w8 ⟨qs, hqs, b', cap, rfl, hb1', hb2', ht', g, hcap⟩
    obtain rfl : qs = ps := texts_same (hqs.trans Hps.out.symm)
    have G8 := Lib.hid (grown_trans G7.out g)
    have T8 := Lib.hid (T7.out.keep g)
    have U8 := Lib.hid ht'
    clear g hqs T7 ht' Hps
    go_wp2_with fail
    go_loopw [5, 35] (fun u i wr => ∃ k : Nat, k ≤ qs.length ∧ i = .int .i64 k ∧ Gr w8 wr) (fun _ i _ => qs.length - (intOf i).toNat)
    case atStart => exact ⟨0, Nat.zero_le _, rfl, Gr.refl _⟩
    case round =>
      obtain ⟨k, hk, rfl, hgr⟩ := hrel
      have Gw := Lib.hid hgr
      clear hgr
      by_cases hlt : k < qs.length
      · have c1 : ∀ n, (wr.drewN n).cell? ⟨b, k, none⟩ = some (.string qs[k]) := fun n => (T8.out.keep (Gw.out.drewN n)) k hlt
        have c2 : ∀ n, (wr.drewN n).cell? ⟨b', k, none⟩ = some (.string qs[k]) := fun n => (U8.out.keep (Gw.out.drewN n)) k hlt
        have d1 : decide ((qs.length : Int) ≤ (k : Int)) = false := by rw [decide_eq_false_iff_not]; omega
        go_wp2_with fail
        go_quiet (fail)
        go_wp2_with fail
        go_roundw
        case rel => exact ⟨k + 1, by omega, by go_num, Gw.out.drewN _⟩
        case measure => simp [intOf]; omega
      · obtain rfl : k = qs.length := by omega
        go_wp2_with fail
        go_ret
        exact ⟨ret_bool (by simp), grown_trans G8.out Gw.out⟩
theorem names_all (s : ByteArray) (w : World) (hm : Ml w) : Calls Tryd.prog 3 #[.string s] w (Bo true w) := by
  by_cases hl : 4096 < s.size
  · exact names_long s w hm hl
  · cases hg : goodL s.data.toList
    · exact names_no _ s w hm (by omega) hg rfl
    · exact names_yes _ s w hm (by omega) hg rfl
/-FRAME-/
set_option maxRecDepth 100000 in
theorem pathNames_lifted (os : Os) (started : os.Started) (H : Type) (enc : TypeId × Value → H) :
    ReturnsInHanded {} Tryd.checked os 3 .any (fun w args => (Rows.pathNamesSpec.pre enc Tryd.prog Tryd.f3 [] false w args ∧ laidMetH Tryd.prog Rows.pathNamesRow.laid w) ∧ sizedMet enc Tryd.prog Tryd.f3 (OpenSpec.ofChange Rows.pathNamesSpec) false w args)
      (Rows.pathNamesSpec.post enc Tryd.prog Tryd.f3 false true false false) := by
  refine returns_both (C := Tryd.checked) (X := fun w _ => laidMetH Tryd.prog Rows.pathNamesRow.laid w) (fun _ _ _ hh h => h.of_heap hh) Tryd.own started (by kernel_rfl) Tryd.func3
    (ChangeSpec.witness_shaped (enc := enc) (C := Tryd.checked) (os := os) (X := fun w _ => laidMetH Tryd.prog Rows.pathNamesRow.laid w) false (World.laidAll Tryd.prog os Rows.pathNamesRow.laid) #[.string ByteArray.empty] 8 (World.laidAll_os _ _ _)
      (World.shaped_of_ZipB (by kernel_rfl) (by kernel_rfl)) (by kernel_rfl) (by kernel_rfl) (by kernel_rfl)
      (by rw [MakeChecks.laidMetH_plain _ _ _ (by kernel_rfl)]; exact laidMet_laidAll _ (by kernel_rfl) (by kernel_rfl))) ?_
  intro W base args ds gs before hval0 hW _ _ hL hsh _
  have hval : ∀ (j : Nat) t v, Tryd.f3.params[j]? = some t → args[j]? = some v → Value.okWide Tryd.prog W .any base t v := hval0
  have hW' := hW
  obtain ⟨p, q, hA0, hV, rfl, _, _⟩ := hW
  have hA : DataW.TrodAll enc Tryd.prog W 0 (fun _ => true) true Tryd.f3.params.toList args.toList ds p := hA0
  rw [Tryd.params3] at hA hval
  obtain ⟨v0, d0, rfl, rfl, h0⟩ := trodAll_one hA
  obtain ⟨rfl, rfl⟩ := trodVars_none hV
  obtain ⟨x, rfl, rfl, rfl, wx⟩ := open_string Tryd.underlying9 (hval 0 9 v0 rfl rfl) h0
  simp only [List.append_nil] at hW'
  rw [MakeChecks.laidMetH_plain _ _ _ (by kernel_rfl)] at hL
  have hm : Ml W := ml_of W hsh
  clear hA0 hval0
  refine (names_all x W hm).mono fun e W' ⟨he, hb⟩ => ?_
  subst he
  exact ⟨_, rfl, _, _, _, [], [], [], hW', trodAll_mk1 (shut_bool Tryd.underlying4 _), trodAll_mk1 (shut_string Tryd.underlying9 wx), rfl, hb.frame _, fun h => by cases h⟩
theorem pathNames_holds : Rows.PathNamesSaid :=
  OpenClaim.holds_of_wide 3 Tryd.f3 rfl rfl rfl rfl rfl rfl rfl ⟨rfl, rfl, rfl, rfl, rfl⟩ rfl rfl rfl rfl rfl (by kernel_rfl) Tryd.func3 (by kernel_rfl)
    (of_decide_eq_true (by kernel_rfl)) (by unfold Func.isWrapper; first | (rw [if_pos (by decide +kernel)]; kernel_rfl) | (rw [if_neg (by decide +kernel)]; exact ⟨rfl, rfl⟩))
    (fun os started H enc _ => pathNames_lifted os started H enc)
theorem pathNames_card : Rows.PathNamesCardSaid :=
  Claim7.holds_tied_plain_at .later [] [.data, .pinned] true (true, "a8f8bbc15004f66aea69549307893ecb6e2d518abe993fc6358a2cca60c8479f") false pathNames_holds (fun _ h => by cases h) (by kernel_rfl) (fun _ h => by cases h) pathNames_row_tie rfl ⟨rfl, rfl⟩ (by kernel_rfl) rfl
    (fun f fn hf hfn => by
      obtain rfl : f = 3 := Option.some.inj ((show Tryd.prog.funcNamed "sapling/saplinglaw04.PathNames" = some 3 by kernel_rfl).symm.trans hf) |>.symm
      obtain rfl : fn = Tryd.f3 := (Option.some.inj (Tryd.func3.symm.trans hfn)).symm
      exact ⟨by kernel_rfl, fun j t ht => by
        rw [Tryd.params3] at ht
        have hm : t ∈ [9] := by simpa using Array.mem_of_getElem? ht
        have hall : ([9].all fun u => !Tryd.prog.wantsStandIn u) = true := by kernel_rfl
        exact (show Tryd.prog.wantsStandIn t = false by simpa using List.all_eq_true.1 hall t hm)⟩)
    (by kernel_rfl)
#print axioms pathNames_card
end Go.Proofs.YtaiiabhcbeblbaaDoor
