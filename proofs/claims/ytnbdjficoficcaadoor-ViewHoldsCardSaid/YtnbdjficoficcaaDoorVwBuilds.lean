/- Proved: the statement ViewBuilds holds for every list of mounts. Conditions: the listed package variables read as the program's text lays them (the card ties them); nothing else. -/
import Derived.Test.YtnbdjficoficcaaDoorVwAlive
import Derived.Test.YtnbdjficoficcaaDoorVwOpen

namespace Go.Proofs.YtnbdjficoficcaaDoor
set_option linter.unusedVariables false
open Go.ChangeShapes Go.WideShapes Go.ChangeAt Go.RowKit
open Go.ChangeMaps (open_string shut_string)
theorem mnts_good : ∀ (l : List MntL) (t u : List FileL), goodF t = true → mntsF t l = .ok u → goodF u = true
  | [], t, u, ht, h => by cases h; exact ht
  | m :: r, t, u, ht, h => by
    rw [mntsF] at h
    cases hm : mountF t m.1 m.2 with
    | error e => rw [hm] at h; cases h
    | ok v => rw [hm] at h; exact mnts_good r v u (mount_good hm) h
theorem build_good (l : List MntL) : goodF (outL (buildF l)) = true := by
  unfold buildF
  cases hc : chkF [] l with
  | some e => rfl
  | none =>
    cases hm : mntsF [] l with
    | error e => rfl
    | ok u => exact mnts_good l [] u rfl hm
theorem small_w {l : List MntL} (h : greatM l = false) : l.length ≤ 1048576 ∧ ∀ m ∈ l, m.1.length ≤ 262144 ∧ m.2.length ≤ 1048576 ∧ ∀ x ∈ m.2, x.1.length ≤ 1048576 ∧ x.2.length ≤ 1048576 := by
  obtain ⟨h1, h2⟩ := great_small h
  exact ⟨by omega, fun m hm => by obtain ⟨a, b, c⟩ := h2 m hm; exact ⟨by omega, by omega, fun x hx => by have := c x hx; omega⟩⟩
theorem good_w {d : List FileL} (h : goodF d = true) : d.length ≤ 1048576 ∧ ∀ x ∈ d, x.1.length ≤ 1048576 ∧ x.2.length ≤ 1048576 := by
  have hg := good_sizes h
  exact ⟨by omega, fun x hx => by have := hg.2 x hx; omega⟩
set_option maxHeartbeats 4000000 in
set_option maxRecDepth 20000 in
theorem viewBuilds_all (l : List MntL) (v : Value) (kb ko : Nat) (W : World) (hs : MntS W (OldB W) v l kb ko) (hr : ReachM l) (hml : Pth.Ml W) :
    Calls Tryd.prog 3 #[v] W fun e w' => e = .returned (.bool true) ∧ Chg NoB W w' := by
  have Hs := Lib.hid hs
  obtain ⟨⟨q, c, rfl, -, -, -⟩, -⟩ := hs
  obtain ⟨n, hn⟩ : ∃ n, n = l.length := ⟨_, rfl⟩
  rw [← hn] at Hs ⊢
  have Hr := Lib.hid hr
  have Hml := Lib.hid hml
  clear hn hr hml
  go_enter Tryd.func3, Tryd.ntmps3
  go_wp2_with fail
  refine (valive_any W Hml.out).mono ?_
  rintro e w1 ⟨rfl, hc1⟩
  have Hc1 := Lib.hid hc1
  have Hgr := Lib.hid (vgreat_any l Hr.out _ _ kb ko w1 (Hs.out.keep hc1 fun _ _ => id))
  obtain ⟨g, hg⟩ : ∃ g, g = greatM l := ⟨_, rfl⟩
  rw [← hg] at Hgr
  have Hg := Lib.hid hg
  clear hc1 hg
  go_wp2_with fail
  refine Hgr.out.mono ?_
  rintro e w2 ⟨rfl, hc2⟩
  have Hc2 := Lib.hid (Hc1.out.trans hc2)
  clear hc2 Hgr
  cases g with
  | true =>
    go_wp2_with fail
    go_ret
    exact ⟨rfl, Hc2.out⟩
  | false =>
  have hsm := small_w Hg.out.symm
  have hgd := build_good l
  have hgw := good_w hgd
  have HA := Lib.hid (fun w' (h : Chg NoB W w') => vbuild_any l hsm.1 hsm.2 _ _ kb ko w' (ml_keep Hml.out h) (Hs.out.keep h fun _ _ => id))
  have HB := Lib.hid (fun w' (h : Chg NoB W w') => rvbuild_any l hsm.1 hsm.2 _ _ kb ko w' (ml_keep Hml.out h) (Hs.out.keep h fun _ _ => id))
  generalize outL (buildF l) = d at *
  generalize outE (buildF l) = y at *
  have Hgd := Lib.hid hgd
  have Hgw := Lib.hid hgw
  clear hsm hgd hgw
  go_wp2_with fail
  refine (HA.out _ Hc2.out).mono ?_
  rintro e w3 ⟨hc3, q3, n3, c3, kb3, ko3, hn3, rfl, hs3⟩
  have Hn3 := Lib.hid hn3
  have Hs3 := Lib.hid hs3
  have Hc3 := Lib.hid (Hc2.out.trans hc3)
  clear hn3 hs3 hc3
  have hal_ := (Chg.refl NoB w3).alloc (.cells #[.slice q3 n3 c3] 27)
  have hb_ := heap_alloc_new w3 (.cells #[.slice q3 n3 c3] 27)
  obtain ⟨b4, hxb_⟩ : ∃ b, b = w3.heap.size := ⟨_, rfl⟩
  obtain ⟨w4, hw_⟩ : ∃ w_, w3.alloc (.cells #[.slice q3 n3 c3] 27) = w_ := ⟨_, rfl⟩
  have hz_ : w4.heap.size = b4 + 1 := by rw [← hw_, hxb_]; exact alloc_size _ _
  rw [hw_] at hal_ hb_
  rw [← hxb_] at hb_
  have Hw4 := Lib.hid hw_
  have Hx4 := Lib.hid hxb_
  have Ha4 := Lib.hid hal_
  have Hb4 := Lib.hid hb_
  have Hz4 := Lib.hid hz_
  clear hal_ hb_ hxb_ hw_ hz_
  have Hc4 := Lib.hid (Hc3.out.trans Ha4.out)
  go_upto_region 6 with fail
  rw [Hw4.out, ← Hx4.out]
  go_wp2_with fail
  refine (HB.out _ Hc4.out).mono ?_
  rintro e w5 ⟨hc5, q5, n5, c5, kb5, ko5, hn5, rfl, hs5⟩
  have Hn5 := Lib.hid hn5
  have Hs5 := Lib.hid hs5
  have Hc5 := Lib.hid (Hc4.out.trans hc5)
  have Hd5 := Lib.hid (Ha4.out.trans hc5)
  have Hb45 := Lib.hid (row_kept hc5 Hb4.out id)
  clear hn5 hs5 hc5
  have hal_ := (Chg.refl NoB w5).alloc (.cells #[.slice q5 n5 c5] 27)
  have hb_ := heap_alloc_new w5 (.cells #[.slice q5 n5 c5] 27)
  obtain ⟨b6, hxb_⟩ : ∃ b, b = w5.heap.size := ⟨_, rfl⟩
  obtain ⟨w6, hw_⟩ : ∃ w_, w5.alloc (.cells #[.slice q5 n5 c5] 27) = w_ := ⟨_, rfl⟩
  have hz_ : w6.heap.size = b6 + 1 := by rw [← hw_, hxb_]; exact alloc_size _ _
  rw [hw_] at hal_ hb_
  rw [← hxb_] at hb_
  have Hw6 := Lib.hid hw_
  have Hx6 := Lib.hid hxb_
  have Ha6 := Lib.hid hal_
  have Hb6 := Lib.hid hb_
  have Hz6 := Lib.hid hz_
  clear hal_ hb_ hxb_ hw_ hz_
  have Hc6 := Lib.hid (Hc5.out.trans Ha6.out)
  have Hb46 := Lib.hid (row_kept Ha6.out Hb45.out id)
  have HS := Lib.hid (rsame_any d d _ _ _ _ _ _ _ _ w6 Hgw.out.1 Hgw.out.1 (Hs3.out.keep (Hd5.out.trans Ha6.out) fun _ _ => id) (Hs5.out.keep Ha6.out fun _ _ => id))
  have HG := Lib.hid (fun w' (h : Chg NoB w6 w') => tgood_any d Hgw.out.1 Hgw.out.2 _ _ _ _ w' (ml_keep Hml.out (Hc6.out.trans h)) (Hs3.out.keep ((Hd5.out.trans Ha6.out).trans h) fun _ _ => id))
  rw [decide_eq_true rfl] at HS
  rw [Hgd.out] at HG
  have t0 := var1 Hb46.out
  have u0 := var1 Hb6.out
  go_upto_region 7 with fail
  rw [Hw6.out, ← Hx6.out]
  go_wp2_with fail
  refine HS.out.mono ?_
  rintro e w7 ⟨rfl, hc7⟩
  have Hc7 := Lib.hid hc7
  have t1 := var1 (row_kept hc7 Hb46.out id)
  clear hc7 t0 u0
  go_wp2_with fail
  refine (HG.out _ Hc7.out).mono ?_
  rintro e w8 ⟨rfl, hc8⟩
  have Hc8 := Lib.hid (Hc6.out.trans (Hc7.out.trans hc8))
  clear hc8 t1
  go_wp2_with fail
  go_ret
  exact ⟨rfl, Hc8.out⟩
/-FRAME-/
set_option maxRecDepth 100000 in
theorem viewBuilds_lifted (os : Os) (started : os.Started) (H : Type) (enc : TypeId × Value → H) :
    ReturnsInHanded {} Tryd.checked os 3 .any (fun w args => (Rows.viewBuildsSpec.pre enc Tryd.prog Tryd.f3 [] false w args ∧ laidMetH Tryd.prog Rows.viewBuildsRow.laid w) ∧ sizedMet enc Tryd.prog Tryd.f3 (OpenSpec.ofChange Rows.viewBuildsSpec) false w args)
      (Rows.viewBuildsSpec.post enc Tryd.prog Tryd.f3 false true false false) := by
  refine returns_both (C := Tryd.checked) (X := fun w _ => laidMetH Tryd.prog Rows.viewBuildsRow.laid w) (fun _ _ _ hh h => h.of_heap hh) Tryd.own started (by kernel_rfl) Tryd.func3
    (ChangeSpec.witness_shaped (enc := enc) (C := Tryd.checked) (os := os) (X := fun w _ => laidMetH Tryd.prog Rows.viewBuildsRow.laid w) false (World.laidAll Tryd.prog os Rows.viewBuildsRow.laid) #[.slice none 0 0] 8 (World.laidAll_os _ _ _)
      (World.shaped_of_ZipB (by kernel_rfl) (by kernel_rfl)) (by kernel_rfl) (by kernel_rfl) (by kernel_rfl)
      (by rw [MakeChecks.laidMetH_plain _ _ _ (by kernel_rfl)]; exact laidMet_laidAll _ (by kernel_rfl) (by kernel_rfl))) ?_
  intro W base args ds gs before hval0 hW _ hsz hL hsh _
  have hval : ∀ (j : Nat) t v, Tryd.f3.params[j]? = some t → args[j]? = some v → Value.okWide Tryd.prog W .any base t v := hval0
  have hW' := hW
  obtain ⟨p, q, hA0, hV, rfl, _, _⟩ := hW
  have hA : DataW.TrodAll enc Tryd.prog W 0 (fun _ => true) true Tryd.f3.params.toList args.toList ds p := hA0
  have hsz1 : (DataW.weightsEach Tryd.prog (Tryd.f3.params.toList ++ Rows.viewBuildsSpec.plain.varTypes Tryd.prog) (ds ++ gs)).all (· ≤ reachBytes) = true := hsz
  rw [Tryd.params3] at hA hval hsz1
  obtain ⟨v0, d0, rfl, rfl, h0⟩ := trodAll_one hA
  obtain ⟨rfl, rfl⟩ := trodVars_none hV
  obtain ⟨l0, kb0, ko0, hn0, hr0⟩ := open_mounts (hval 0 22 v0 rfl rfl) h0 (fun m hm => of_decide_eq_true (List.all_eq_true.1 hsz1 m (DataW.weights_mem_each (j := 0) (t := 22) (d := d0) rfl rfl m hm)))
  simp only [List.append_nil] at hW'
  rw [MakeChecks.laidMetH_plain _ _ _ (by kernel_rfl)] at hL
  have hml : Pth.Ml W := wml_of hsh
  clear hA0 hval0
  refine (viewBuilds_all l0 _ kb0 ko0 W hn0 hr0 hml).mono fun e W' ⟨he, hb⟩ => ?_
  subst he
  exact ⟨_, rfl, _, _, _, [], _, [], hW', trodAll_mk1 (shut_bool Tryd.underlying4 _), (trodAll_cons_mk (mounts_stay h0 hb.below) trodAll_mk0), rfl, hb.below.frame _, fun h => by cases h⟩
theorem viewBuilds_holds : Rows.ViewBuildsSaid :=
  OpenClaim.holds_of_wide 3 Tryd.f3 rfl rfl rfl rfl rfl rfl rfl ⟨rfl, rfl, rfl, rfl, rfl⟩ rfl rfl rfl rfl rfl (by kernel_rfl) Tryd.func3 (by kernel_rfl)
    (of_decide_eq_true (by kernel_rfl)) (by unfold Func.isWrapper; first | (rw [if_pos (by decide +kernel)]; kernel_rfl) | (rw [if_neg (by decide +kernel)]; exact ⟨rfl, rfl⟩))
    (fun os started H enc _ => viewBuilds_lifted os started H enc)
theorem viewBuilds_card : Rows.ViewBuildsCardSaid :=
  Claim7.holds_tied_plain_at .later [] [.data, .pinned] true (true, "86869f4e0d2b7613ef962574d9f579f063d7be76b275564b7df8f38d61515bd3") false viewBuilds_holds (fun _ h => by cases h) (by kernel_rfl) (fun _ h => by cases h) viewBuilds_row_tie rfl ⟨rfl, rfl⟩ (by kernel_rfl) rfl
    (fun f fn hf hfn => by
      obtain rfl : f = 3 := Option.some.inj ((show Tryd.prog.funcNamed "sapling/saplinglaw11.ViewBuilds" = some 3 by kernel_rfl).symm.trans hf) |>.symm
      obtain rfl : fn = Tryd.f3 := (Option.some.inj (Tryd.func3.symm.trans hfn)).symm
      exact ⟨by kernel_rfl, fun j t ht => by
        rw [Tryd.params3] at ht
        have hm : t ∈ [22] := by simpa using Array.mem_of_getElem? ht
        have hall : ([22].all fun u => !Tryd.prog.wantsStandIn u) = true := by kernel_rfl
        exact (show Tryd.prog.wantsStandIn t = false by simpa using List.all_eq_true.1 hall t hm)⟩)
    (by kernel_rfl)
#print axioms viewBuilds_card
end Go.Proofs.YtnbdjficoficcaaDoor
