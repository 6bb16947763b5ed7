/- Proved: the statement SpanParses holds for every text. Conditions: the listed package variables read as the program's text lays them (the card ties them); nothing else. -/
import Derived.Test.YtaijhebjjbcdfaaGreatDoorSpRParse
import Derived.Test.YtaijhebjjbcdfaaGreatDoorSpBound
import Derived.Test.YtaijhebjjbcdfaaGreatDoorSpTermL
import Derived.Test.YtaijhebjjbcdfaaGreatDoorCards
import Derived.Test.YtaijhebjjbcdfaaGreatDoorTie

namespace Go.Proofs.YtaijhebjjbcdfaaGreatDoor
set_option linter.unusedVariables false
open Go.ChangeShapes Go.WideShapes Go.ChangeAt Go.RowKit
open Go.ChangeMaps (open_string shut_string)
set_option maxHeartbeats 1000000 in
set_option maxRecDepth 20000 in
theorem rps_any (s : List UInt8) (w : World) (hl : s.length ≤ 4096) : Calls Tryz.prog 10 #[.string (tx s)] w (PsP s w) := by
  have hss : (tx s).size = s.length := tx_size s
  by_cases h1 : 256 < s.length
  · have f0 : decide ((256 : Int) < (s.length : Int)) = true := decide_eq_true (by omega)
    have H1 := Lib.hid h1
    clear h1
    go_enter Tryz.func10, Tryz.ntmps10
    go_wp2_with fail
    go_ret2
    exact ⟨Chg.refl _ _, .inl ⟨H1.out, rfl⟩⟩
  · have f0 : decide ((256 : Int) < (s.length : Int)) = false := decide_eq_false (by omega)
    by_cases h2 : s = noneT
    · have e0 : ((tx s).toList == [110, 111, 110, 101]) = true := by rw [txL, h2]; rfl
      have H1 := Lib.hid h1
      have H2 := Lib.hid h2
      clear h1 h2
      go_enter Tryz.func10, Tryz.ntmps10
      go_wp2_with fail
      go_ret2
      exact ⟨Chg.refl _ _, .inr (.inl ⟨by have := H1.out; omega, H2.out, rfl⟩)⟩
    · exact rparse_main s w (by omega) h2 fun t W ht => bound_any t W (by omega)
def PsV (s : List UInt8) (d : List GapL) (k : Int) : Prop :=
  (256 < s.length ∧ d = [] ∧ k = 3) ∨ (s.length ≤ 256 ∧ s = noneT ∧ d = [] ∧ k = 0) ∨ (s.length ≤ 256 ∧ s ≠ noneT ∧ gapsL s = none ∧ d = [] ∧ k = 21) ∨ (s.length ≤ 256 ∧ s ≠ noneT ∧ ∃ gs, gapsL s = some gs ∧ OpV true (inG gs) d k)
theorem PsV.same {s : List UInt8} {d d' : List GapL} {k k' : Int} (h : PsV s d k) (h' : PsV s d' k') : d = d' ∧ k = k' := by
  rcases h with ⟨a, rfl, rfl⟩ | ⟨a, b, rfl, rfl⟩ | ⟨a, b, c, rfl, rfl⟩ | ⟨a, b, gs, c, h⟩
  · rcases h' with ⟨a', rfl, rfl⟩ | ⟨a', -⟩ | ⟨a', -⟩ | ⟨a', -⟩
    · exact ⟨rfl, rfl⟩
    all_goals omega
  · rcases h' with ⟨a', -⟩ | ⟨a', b', rfl, rfl⟩ | ⟨a', b', -⟩ | ⟨a', b', -⟩
    · omega
    · exact ⟨rfl, rfl⟩
    · exact absurd b b'
    · exact absurd b b'
  · rcases h' with ⟨a', -⟩ | ⟨a', b', -⟩ | ⟨a', b', c', rfl, rfl⟩ | ⟨a', b', gs', c', -⟩
    · omega
    · exact absurd b' b
    · exact ⟨rfl, rfl⟩
    · rw [c] at c'; cases c'
  · rcases h' with ⟨a', -⟩ | ⟨a', b', -⟩ | ⟨a', b', c', -⟩ | ⟨a', b', gs', c', h'⟩
    · omega
    · exact absurd b' b
    · rw [c] at c'; cases c'
    · rw [c] at c'
      cases c'
      exact h.same h'
theorem PsV.good {s : List UInt8} {d : List GapL} (h : PsV s d 0) : goodG d = true := by
  rcases h with ⟨_, _, h⟩ | ⟨_, _, rfl, _⟩ | ⟨_, _, _, _, h⟩ | ⟨_, _, gs, _, h⟩
  · cases h
  · rfl
  · cases h
  · exact h.zero.1
theorem ps_two {s : List UInt8} {w w' : World} {e : Ending} (h : PsP s w e w') : ∃ (q : Option Addr) (m c : Nat) (k : Int) (d : List GapL), e = .returned (.tuple #[.slice q m c, .int .i64 k]) ∧ Chg NoB w w' ∧ m = d.length ∧ w'.ownsRow w.heap.size 37 2 (.slice q m c) m (flatG d) ∧ (∀ g ∈ d, In64 g.1 ∧ In64 g.2) ∧ (k = 0 ∨ k = 3 ∨ k = 13 ∨ k = 21) ∧ PsV s d k := by
  obtain ⟨hc, (⟨h1, h2⟩ | ⟨h0, h1, h2⟩ | ⟨h0, h0', h1, h2⟩ | ⟨h0, h0', gs, d, h1, h2, h3, (⟨h4, h5⟩ | ⟨h4, q, c, h5, h6⟩)⟩)⟩ := h
  · exact ⟨none, 0, 0, 3, [], h2, hc, rfl, World.ownsRow_nil _ _ _ _, (fun g hg => by cases hg), .inr (.inl rfl), .inl ⟨h1, rfl, rfl⟩⟩
  · exact ⟨none, 0, 0, 0, [], h2, hc, rfl, World.ownsRow_nil _ _ _ _, (fun g hg => by cases hg), .inl rfl, .inr (.inl ⟨h0, h1, rfl, rfl⟩)⟩
  · exact ⟨none, 0, 0, 21, [], h2, hc, rfl, World.ownsRow_nil _ _ _ _, (fun g hg => by cases hg), .inr (.inr (.inr rfl)), .inr (.inr (.inl ⟨h0, h0', h1, rfl, rfl⟩))⟩
  · exact ⟨none, 0, 0, 13, [], h5, hc, rfl, World.ownsRow_nil _ _ _ _, (fun g hg => by cases hg), .inr (.inr (.inl rfl)), .inr (.inr (.inr ⟨h0, h0', gs, h1, .inr ⟨rfl, d, h2, h3, .inl ⟨h4, rfl, rfl⟩⟩⟩))⟩
  · exact ⟨q, d.length, c, 0, d, h5, hc, rfl, h6, chain_wf' h2, .inl rfl, .inr (.inr (.inr ⟨h0, h0', gs, h1, .inr ⟨rfl, d, h2, h3, .inr ⟨h4, rfl, rfl⟩⟩⟩))⟩
set_option maxHeartbeats 8000000 in
set_option maxRecDepth 100000 in
theorem spanParses_all (a0 : ByteArray) (W : World) (wa : a0.size ≤ maxLen) (hpw : Pw W.heap.size W) :
    Calls Tryz.prog 3 #[.string a0] W fun e w' => e = .returned (.bool true) ∧ Chg NoB W w' := by
  obtain ⟨s, rfl⟩ : ∃ s, a0 = tx s := ⟨_, (tx_back a0).symm⟩
  have hss : (tx s).size = s.length := tx_size s
  rw [hss] at wa
  unfold maxLen at wa
  have HAL := Lib.hid (alive_any W.heap.size W hpw)
  have Hpw := Lib.hid (fun (W' : World) (h : Chg NoB W W') => hpw.keep h fun k h => h.elim)
  clear hpw
  go_enter Tryz.func3, Tryz.ntmps3
  go_wp2_with fail
  refine HAL.out.mono ?_
  rintro e w2 ⟨rfl, hc2⟩
  have Hc2 := Lib.hid hc2
  clear hc2 HAL
  by_cases la : 4096 < s.length
  · have f0 : decide ((4096 : Int) < (s.length : Int)) = true := decide_eq_true (by omega)
    go_wp2_with fail
    go_ret
    exact ⟨rfl, Hc2.out⟩
  have f0 : decide ((4096 : Int) < (s.length : Int)) = false := decide_eq_false (by omega)
  have HP := Lib.hid (ps_any W.heap.size s w2 (by omega) (Hpw.out w2 Hc2.out))
  go_wp2_with fail
  refine HP.out.mono ?_
  rintro e w3 hps
  obtain ⟨q3, m3, c3, k3, d3, rfl, hc3, hm3, hr3, hwf3, hk3, hv3⟩ := ps_two hps
  have Hm3 := Lib.hid hm3
  have Hr3 := Lib.hid hr3
  have Hw3 := Lib.hid hwf3
  have Hk3 := Lib.hid hk3
  have Hv3 := Lib.hid hv3
  have Hc3 := Lib.hid (Hc2.out.trans hc3)
  have HP2 := Lib.hid (rps_any s w3 (by omega))
  clear hps hc3 hm3 hr3 hwf3 hk3 hv3 HP
  go_wp2_with fail
  refine HP2.out.mono ?_
  rintro e w4 hps
  obtain ⟨q4, m4, c4, k4, d4, rfl, hc4, hm4, hr4, hwf4, -, hv4⟩ := ps_two hps
  obtain ⟨hdd, hkk⟩ := Hv3.out.same hv4
  subst hdd hkk
  obtain ⟨z1, hz1⟩ := GapS.of_row (ownsRow_chg Hr3.out hc4 fun _ _ => id) Hm3.out Hw3.out
  obtain ⟨z2, hz2⟩ := GapS.of_row hr4 hm4 hwf4
  have HSz := Lib.hid (show Calls Tryz.prog 11 #[.slice q3 m3 c3, .slice q4 m4 c4] w4 (fun e w' => e = .returned (.bool true) ∧ Chg NoB w4 w') from by
    have h := same_any d3 d3 _ _ _ _ z1 0 z2 0 w4 hz1 hz2
    rwa [decide_eq_true rfl] at h)
  have HG := Lib.hid (fun (W' : World) (h : Chg NoB w4 W') => good_any d3 _ _ z1 0 W' (hz1.keep h fun _ _ => id))
  have Hc4 := Lib.hid (Hc3.out.trans hc4)
  clear hps hc4 hm4 hr4 hwf4 hv4 hz1 hz2 HP2
  go_wp2_with fail
  refine HSz.out.mono ?_
  rintro e w5 ⟨rfl, hc5⟩
  have HG5 := Lib.hid (HG.out w5 hc5)
  have Hc5 := Lib.hid (Hc4.out.trans hc5)
  clear hc5 HSz
  rcases Hk3.out with rfl | rfl | rfl | rfl
  · rw [Hv3.out.good] at HG5
    go_wp2_with fail
    refine HG5.out.mono ?_
    rintro e w6 ⟨rfl, hc6⟩
    have Hc6 := Lib.hid (Hc5.out.trans hc6)
    clear hc6
    go_wp2_with fail
    go_ret
    exact ⟨rfl, Hc6.out⟩
  all_goals
    go_wp2_with fail
    go_ret
    exact ⟨rfl, Hc5.out⟩
/-FRAME-/
set_option maxRecDepth 100000 in
theorem spanParses_lifted (os : Os) (started : os.Started) (H : Type) (enc : TypeId × Value → H) :
    ReturnsInHanded {} Tryz.checked os 3 .any (fun w args => (Rows.spanParsesSpec.pre enc Tryz.prog Tryz.f3 [] false w args ∧ laidMetH Tryz.prog Rows.spanParsesRow.laid w) ∧ sizedMet enc Tryz.prog Tryz.f3 (OpenSpec.ofChange Rows.spanParsesSpec) false w args)
      (Rows.spanParsesSpec.post enc Tryz.prog Tryz.f3 false true false false) := by
  refine returns_both (C := Tryz.checked) (X := fun w _ => laidMetH Tryz.prog Rows.spanParsesRow.laid w) (fun _ _ _ hh h => h.of_heap hh) Tryz.own started (by kernel_rfl) Tryz.func3
    (ChangeSpec.witness_shaped (enc := enc) (C := Tryz.checked) (os := os) (X := fun w _ => laidMetH Tryz.prog Rows.spanParsesRow.laid w) false (World.laidAll Tryz.prog os Rows.spanParsesRow.laid) #[.string ByteArray.empty] 8 (World.laidAll_os _ _ _)
      (World.shaped_of_ZipB (by kernel_rfl) (by kernel_rfl)) (by kernel_rfl) (by kernel_rfl) (by kernel_rfl)
      (by rw [MakeChecks.laidMetH_plain _ _ _ (by kernel_rfl)]; exact laidMet_laidAll _ (by kernel_rfl) (by kernel_rfl))) ?_
  intro W base args ds gs before hval0 hW _ hsz hL hsh _
  have hval : ∀ (j : Nat) t v, Tryz.f3.params[j]? = some t → args[j]? = some v → Value.okWide Tryz.prog W .any base t v := hval0
  have hW' := hW
  obtain ⟨p, q, hA0, hV, rfl, _, _⟩ := hW
  have hA : DataW.TrodAll enc Tryz.prog W 0 (fun _ => true) true Tryz.f3.params.toList args.toList ds p := hA0
  have hsz1 : (DataW.weightsEach Tryz.prog (Tryz.f3.params.toList ++ Rows.spanParsesSpec.plain.varTypes Tryz.prog) (ds ++ gs)).all (· ≤ reachBytes) = true := hsz
  rw [Tryz.params3] at hA hval hsz1
  obtain ⟨v0, d0, rfl, rfl, h0⟩ := trodAll_one hA
  obtain ⟨rfl, rfl⟩ := trodVars_none hV
  obtain ⟨x0, rfl, rfl, rfl, wx0⟩ := open_string Tryz.underlying9 (hval 0 9 v0 rfl rfl) h0
  simp only [List.append_nil] at hW'
  rw [MakeChecks.laidMetH_plain _ _ _ (by kernel_rfl)] at hL
  have hpw : Pw W.heap.size W := pw_of hL hsh
  clear hA0 hval0
  refine (spanParses_all x0 W wx0 hpw).mono fun e W' ⟨he, hb⟩ => ?_
  subst he
  exact ⟨_, rfl, _, _, _, [], _, [], hW', trodAll_mk1 (shut_bool Tryz.underlying4 _), (trodAll_cons_mk (shut_string Tryz.underlying9 wx0) trodAll_mk0), rfl, hb.below.frame _, fun h => by cases h⟩
theorem spanParses_holds : Rows.SpanParsesSaid :=
  OpenClaim.holds_of_wide 3 Tryz.f3 rfl rfl rfl rfl rfl rfl rfl ⟨rfl, rfl, rfl, rfl, rfl⟩ rfl rfl rfl rfl rfl (by kernel_rfl) Tryz.func3 (by kernel_rfl)
    (of_decide_eq_true (by kernel_rfl)) (by unfold Func.isWrapper; first | (rw [if_pos (by decide +kernel)]; kernel_rfl) | (rw [if_neg (by decide +kernel)]; exact ⟨rfl, rfl⟩))
    (fun os started H enc _ => spanParses_lifted os started H enc)
theorem spanParses_card : Rows.SpanParsesCardSaid :=
  Claim7.holds_tied_plain_at .later [] [.data, .data, .data, .data, .sentinel, .sentinel, .pinned] true (true, "08b08e35c6dc5aaa2b28500e9004efc212e1807fe65932fcd6fc137e44494a1d") true spanParses_holds (fun _ h => by cases h) (by kernel_rfl) (fun _ h => by cases h) spanParses_row_tie rfl ⟨rfl, rfl⟩ (by kernel_rfl) rfl
    (fun f fn hf hfn => by
      obtain rfl : f = 3 := Option.some.inj ((show Tryz.prog.funcNamed "sapling/saplinglaw07.SpanParses" = some 3 by kernel_rfl).symm.trans hf) |>.symm
      obtain rfl : fn = Tryz.f3 := (Option.some.inj (Tryz.func3.symm.trans hfn)).symm
      exact ⟨by kernel_rfl, fun j t ht => by
        rw [Tryz.params3] at ht
        have hm : t ∈ [9] := by simpa using Array.mem_of_getElem? ht
        have hall : ([9].all fun u => !Tryz.prog.wantsStandIn u) = true := by kernel_rfl
        exact (show Tryz.prog.wantsStandIn t = false by simpa using List.all_eq_true.1 hall t hm)⟩)
    (by kernel_rfl)
#print axioms spanParses_card
end Go.Proofs.YtaijhebjjbcdfaaGreatDoor
