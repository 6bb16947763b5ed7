/- Proved: the statement VmRuns holds for every program and every tree. Conditions: the listed package variables read as the program's text lays them (the card ties them); nothing else. -/
import Derived.Test.YthehpmffkkogpaaGreatDoorVqH
import Derived.Test.YthehpmffkkogpaaGreatDoorVqU


namespace Go.Proofs.YthehpmffkkogpaaGreatDoor
set_option linter.unusedVariables false
open Go.ChangeShapes Go.WideShapes Go.ChangeAt Go.RowKit
open Go.ChangeMaps (open_string shut_string)
set_option maxHeartbeats 4000000 in
set_option maxRecDepth 20000 in
theorem vmRuns_all (l0 : List InsL) (v0 : Value) (kb0 ko0 : Nat) (l1 : List FileL) (u1 : Value) (kb1 ko1 : Nat) (W : World) (hn0 : InsS W (OldB W) v0 l0 kb0 ko0) (hn1 : InpS W (OldB W) u1 l1 kb1 ko1) (hr1 : Reach l1) (hml : Pth.Ml W) (hlb : Lb W.heap.size W) (hwd : Wd W.heap.size W) :
    Calls Tryz.prog 3 #[v0, .agg #[u1]] W fun e w' => e = .returned (.bool true) ∧ Chg NoB W w' := by
  have hp0_ := hn0
  have hv0_ := hn1
  obtain ⟨⟨pq, pc, rfl, p1_, p2_, -⟩, -⟩ := hn0
  obtain ⟨⟨q, c, rfl, -, -, -⟩, -⟩ := hn1
  obtain ⟨m, hm_⟩ : ∃ m, m = l0.length := ⟨_, rfl⟩
  obtain ⟨n, hn_⟩ : ∃ n, n = l1.length := ⟨_, rfl⟩
  rw [← hm_] at hp0_ p1_ ⊢
  rw [← hn_] at hv0_ ⊢
  have Hpm := Lib.hid hm_
  have Hvn := Lib.hid hn_
  have Hpc := Lib.hid (And.intro p1_ p2_)
  have Hp := Lib.hid hp0_
  have Hv := Lib.hid hv0_
  have Hrc := Lib.hid hr1
  have Hwd := Lib.hid hwd
  have Hlb := Lib.hid hlb
  have Hml := Lib.hid hml
  have HRun := Lib.hid (fun (w' : World) (h : Chg NoB W w') (sm : SmallG l0 l1) => run_any l0 l1 _ _ _ _ kb0 ko0 kb1 ko1 W.heap.size w' (hwd.keep h) (hlb.keep h) (ml_keep hml h) (by have := sm.plen; omega) (by have := sm.vlen; omega) (fun x hx => by have := sm.files x hx; omega) (hp0_.keep h fun _ _ => id) (hv0_.keep h fun _ _ => id))
  have Hwf := Lib.hid hp0_.wfs
  clear hm_ hn_ hp0_ hv0_ p1_ p2_ hr1 hwd hlb hml
  have hal_ := (Chg.refl NoB W).alloc (.cells #[.slice q n c] 25)
  have hb_ := heap_alloc_new W (.cells #[.slice q n c] 25)
  obtain ⟨vb, hxb_⟩ : ∃ b, b = W.heap.size := ⟨_, rfl⟩
  obtain ⟨w1, hw_⟩ : ∃ w_, W.alloc (.cells #[.slice q n c] 25) = w_ := ⟨_, rfl⟩
  have hz_ : w1.heap.size = vb + 1 := by rw [← hw_, hxb_]; exact alloc_size _ _
  rw [hw_] at hal_ hb_
  rw [← hxb_] at hb_
  have Hw1 := Lib.hid hw_
  have Hx1 := Lib.hid hxb_
  have Ha1 := Lib.hid hal_
  have Hb1 := Lib.hid hb_
  have Hz1 := Lib.hid hz_
  clear hal_ hb_ hxb_ hw_ hz_
  go_enter Tryz.func3, Tryz.ntmps3
  go_upto_region 1 with fail
  rw [Hw1.out, ← Hx1.out]
  go_wp2_with fail
  refine (malive_any W.heap.size w1 (Hwd.out.keep Ha1.out) (Hlb.out.keep Ha1.out) (ml_keep Hml.out Ha1.out)).mono ?_
  rintro e w2 ⟨rfl, hc2⟩
  have Hc2 := Lib.hid (Ha1.out.trans hc2)
  have HG := Lib.hid (mgreat_any l0 l1 Hrc.out _ _ _ _ kb0 ko0 kb1 ko1 w2 (Hp.out.keep Hc2.out fun _ _ => id) (Hv.out.keep Hc2.out fun _ _ => id))
  have hb2 := row_kept hc2 Hb1.out id
  have v0 := var1 hb2
  have Hb2 := Lib.hid hb2
  clear hc2 hb2
  go_wp2_with fail
  refine HG.out.mono ?_
  rintro e w3 ⟨hc3, g, rfl, hg⟩
  have Hc3 := Lib.hid (Hc2.out.trans hc3)
  have hb3 := row_kept hc3 Hb2.out id
  have Hb3 := Lib.hid hb3
  have Hg := Lib.hid hg
  clear hc3 hg v0 HG
  cases g with
  | true =>
    clear hb3
    go_wp2_with fail
    go_ret
    exact ⟨rfl, Hc3.out⟩
  | false =>
  have v0 := var1 hb3
  have Hsm := Lib.hid (Hg.out rfl)
  clear hb3
  have HR3 := Lib.hid (HRun.out w3 Hc3.out Hsm.out)
  have HRR := Lib.hid (fun (w' : World) (h : Chg NoB W w') => rrun_any l0 l1 _ _ _ _ kb0 ko0 kb1 ko1 W.heap.size w' (Hlb.out.keep h) (by have := Hsm.out.vlen; omega) (fun x hx => by have := Hsm.out.files x hx; omega) (Hp.out.keep h fun _ _ => id) (Hv.out.keep h fun _ _ => id))
  go_wp2_with fail
  refine HR3.out.mono ?_
  intro e w4 hr
  obtain ⟨hc4, q4, k4, c4, kb4, ko4, hk4, rfl, hs4⟩ := hr.val
  obtain ⟨f1, f2, -, -⟩ := run_facts (view := l1) Hwf.out
  have hgz := good_sizes f1
  obtain ⟨d, hd⟩ : ∃ z, z = runL l0 l1 := ⟨_, rfl⟩
  obtain ⟨sn, hsn⟩ : ∃ z, z = runN l0 l1 := ⟨_, rfl⟩
  obtain ⟨sy, hsy⟩ : ∃ z, z = runE l0 l1 := ⟨_, rfl⟩
  rw [← hd] at hk4 hs4 hgz
  rw [← hsn, ← hsy]
  have Hc4 := Lib.hid (Hc3.out.trans hc4)
  have hb4 := row_kept hc4 Hb3.out id
  have Hb4 := Lib.hid hb4
  have Hs4 := Lib.hid hs4
  have Hk4 := Lib.hid hk4
  have Hd := Lib.hid hd
  have Hsn := Lib.hid hsn
  have Hsy := Lib.hid hsy
  have Hgz := Lib.hid hgz.1
  clear hc4 hs4 hk4 f1 f2 hr HR3 v0 hgz hb4 hd hsn hsy
  have hal_ := (Chg.refl NoB w4).alloc (.cells #[.slice q4 k4 c4] 25)
  have hb_ := heap_alloc_new w4 (.cells #[.slice q4 k4 c4] 25)
  obtain ⟨b5, hxb_⟩ : ∃ b, b = w4.heap.size := ⟨_, rfl⟩
  obtain ⟨w5, hw_⟩ : ∃ w_, w4.alloc (.cells #[.slice q4 k4 c4] 25) = w_ := ⟨_, rfl⟩
  have hz_ : w5.heap.size = b5 + 1 := by rw [← hw_, hxb_]; exact alloc_size _ _
  rw [hw_] at hal_ hb_
  rw [← hxb_] at hb_
  have Hw5 := Lib.hid hw_
  have Hx5 := Lib.hid hxb_
  have Ha5 := Lib.hid hal_
  have Hb5 := Lib.hid hb_
  have Hz5 := Lib.hid hz_
  clear hal_ hb_ hxb_ hw_ hz_
  have v0 := var1 (row_kept Ha5.out Hb4.out id)
  have HR5 := Lib.hid (HRR.out w5 (Hc4.out.trans Ha5.out))
  go_upto_region 6 with fail
  rw [Hw5.out, ← Hx5.out]
  go_wp2_with fail
  refine HR5.out.mono ?_
  intro e w6 hr
  obtain ⟨hc6, q6, k6, c6, kb6, ko6, hk6, rfl, hs6⟩ := hr.val
  rw [← Hd.out] at hk6 hs6
  rw [← Hsn.out, ← Hsy.out]
  have Hc6 := Lib.hid (Hc4.out.trans (Ha5.out.trans hc6))
  have Hs6 := Lib.hid hs6
  have t0 := var1 (row_kept hc6 Hb5.out id)
  have Hd6 := Lib.hid (Ha5.out.trans hc6)
  have Hb56 := Lib.hid (row_kept hc6 Hb5.out id)
  clear hc6 hs6 hk6 hr HR5 v0 t0
  have hal_ := (Chg.refl NoB w6).alloc (.cells #[.slice q6 k6 c6] 25)
  have hb_ := heap_alloc_new w6 (.cells #[.slice q6 k6 c6] 25)
  obtain ⟨b7, hxb_⟩ : ∃ b, b = w6.heap.size := ⟨_, rfl⟩
  obtain ⟨w7, hw_⟩ : ∃ w_, w6.alloc (.cells #[.slice q6 k6 c6] 25) = w_ := ⟨_, rfl⟩
  have hz_ : w7.heap.size = b7 + 1 := by rw [← hw_, hxb_]; exact alloc_size _ _
  rw [hw_] at hal_ hb_
  rw [← hxb_] at hb_
  have Hw7 := Lib.hid hw_
  have Hx7 := Lib.hid hxb_
  have Ha7 := Lib.hid hal_
  have Hb7 := Lib.hid hb_
  have Hz7 := Lib.hid hz_
  clear hal_ hb_ hxb_ hw_ hz_
  have t0 := var1 (row_kept Ha7.out Hb56.out id)
  have t1 := var1 Hb7.out
  have HS := Lib.hid (rsame_any d d _ _ _ _ _ _ _ _ w7 (by have := Hgz.out; omega) (by have := Hgz.out; omega) (Hs4.out.keep (Hd6.out.trans Ha7.out) fun _ _ => id) (Hs6.out.keep Ha7.out fun _ _ => id))
  rw [decide_eq_true rfl] at HS
  go_upto_region 7 with fail
  rw [Hw7.out, ← Hx7.out]
  go_wp2_with fail
  refine HS.out.mono ?_
  rintro e w8 ⟨rfl, hc8⟩
  have Hc8 := Lib.hid (Hc6.out.trans (Ha7.out.trans hc8))
  clear hc8 t0 t1
  go_wp2_with fail
  go_ret
  exact ⟨rfl, Hc8.out⟩
/-FRAME-/
set_option maxRecDepth 100000 in
theorem vmRuns_lifted (os : Os) (started : os.Started) (H : Type) (enc : TypeId × Value → H) :
    ReturnsInHanded {} Tryz.checked os 3 .any (fun w args => (Rows.vmRunsSpec.pre enc Tryz.prog Tryz.f3 [] false w args ∧ laidMetH Tryz.prog Rows.vmRunsRow.laid w) ∧ sizedMet enc Tryz.prog Tryz.f3 (OpenSpec.ofChange Rows.vmRunsSpec) false w args)
      (Rows.vmRunsSpec.post enc Tryz.prog Tryz.f3 false true false false) := by
  refine returns_both (C := Tryz.checked) (X := fun w _ => laidMetH Tryz.prog Rows.vmRunsRow.laid w) (fun _ _ _ hh h => h.of_heap hh) Tryz.own started (by kernel_rfl) Tryz.func3
    (ChangeSpec.witness_shaped (enc := enc) (C := Tryz.checked) (os := os) (X := fun w _ => laidMetH Tryz.prog Rows.vmRunsRow.laid w) false (World.laidAll Tryz.prog os Rows.vmRunsRow.laid) #[.slice none 0 0, .agg #[.slice none 0 0]] 8 (World.laidAll_os _ _ _)
      (World.shaped_of_ZipB (by kernel_rfl) (by kernel_rfl)) (by kernel_rfl) (by kernel_rfl) (by kernel_rfl)
      (by rw [MakeChecks.laidMetH_plain _ _ _ (by kernel_rfl)]; exact laidMet_laidAll _ (by kernel_rfl) (by kernel_rfl))) ?_
  intro W base args ds gs before hval0 hW _ hsz hL hsh _
  have hval : ∀ (j : Nat) t v, Tryz.f3.params[j]? = some t → args[j]? = some v → Value.okWide Tryz.prog W .any base t v := hval0
  have hW' := hW
  obtain ⟨p, q, hA0, hV, rfl, _, _⟩ := hW
  have hA : DataW.TrodAll enc Tryz.prog W 0 (fun _ => true) true Tryz.f3.params.toList args.toList ds p := hA0
  have hsz1 : (DataW.weightsEach Tryz.prog (Tryz.f3.params.toList ++ Rows.vmRunsSpec.plain.varTypes Tryz.prog) (ds ++ gs)).all (· ≤ reachBytes) = true := hsz
  rw [Tryz.params3] at hA hval hsz1
  obtain ⟨v0, v1, d0, d1, p0, p1, rfl, rfl, rfl, h0, h1⟩ := trodAll_two hA
  obtain ⟨rfl, rfl⟩ := trodVars_none hV
  obtain ⟨l0, kb0, ko0, hn0⟩ := open_inss (hval 0 22 v0 rfl rfl) h0 (fun m hm => of_decide_eq_true (List.all_eq_true.1 hsz1 m (DataW.weights_mem_each (j := 0) (t := 22) (d := d0) rfl rfl m hm)))
  obtain ⟨l1, c1, kb1, ko1, rfl, hn1, hr1⟩ := open_tree (hval 1 25 v1 rfl rfl) h1 (fun m hm => of_decide_eq_true (List.all_eq_true.1 hsz1 m (DataW.weights_mem_each (j := 1) (t := 25) (d := d1) rfl rfl m hm)))
  simp only [List.append_nil] at hW'
  rw [MakeChecks.laidMetH_plain _ _ _ (by kernel_rfl)] at hL
  have hml : Pth.Ml W := wml_of hsh
  obtain ⟨hlb, hwd⟩ := lb8_of hL hsh
  clear hA0 hval0
  refine (vmRuns_all l0 _ kb0 ko0 l1 _ kb1 ko1 W hn0 hn1 hr1 hml hlb hwd).mono fun e W' ⟨he, hb⟩ => ?_
  subst he
  exact ⟨_, rfl, _, _, _, [], _, [], hW', trodAll_mk1 (shut_bool Tryz.underlying4 _), (trodAll_cons_mk (inss_stay h0 hb.below) (trodAll_cons_mk (tree_stays h1 hb.below) trodAll_mk0)), rfl, hb.below.frame _, fun h => by cases h⟩
theorem vmRuns_holds : Rows.VmRunsSaid :=
  OpenClaim.holds_of_wide 3 Tryz.f3 rfl rfl rfl rfl rfl rfl rfl ⟨rfl, rfl, rfl, rfl, rfl⟩ rfl rfl rfl rfl rfl (by kernel_rfl) Tryz.func3 (by kernel_rfl)
    (of_decide_eq_true (by kernel_rfl)) (by unfold Func.isWrapper; first | (rw [if_pos (by decide +kernel)]; kernel_rfl) | (rw [if_neg (by decide +kernel)]; exact ⟨rfl, rfl⟩))
    (fun os started H enc _ => vmRuns_lifted os started H enc)
theorem vmRuns_card : Rows.VmRunsCardSaid :=
  Claim7.holds_tied_plain_at .later [] [.data, .data, .data, .data, .sentinel, .sentinel, .widerDeep, .pinned] true (true, "ec86cb7f90a952613a297ea1a1848055ebca9cdb2e48697e77ccb43f8b788bff") true vmRuns_holds (fun _ h => by cases h) (by kernel_rfl) (fun _ h => by cases h) vmRuns_row_tie rfl ⟨rfl, rfl⟩ (by kernel_rfl) rfl
    (fun f fn hf hfn => by
      obtain rfl : f = 3 := Option.some.inj ((show Tryz.prog.funcNamed "sapling/saplinglaw10.VmRuns" = some 3 by kernel_rfl).symm.trans hf) |>.symm
      obtain rfl : fn = Tryz.f3 := (Option.some.inj (Tryz.func3.symm.trans hfn)).symm
      exact ⟨by kernel_rfl, fun j t ht => by
        rw [Tryz.params3] at ht
        have hm : t ∈ [22, 25] := by simpa using Array.mem_of_getElem? ht
        have hall : ([22, 25].all fun u => !Tryz.prog.wantsStandIn u) = true := by kernel_rfl
        exact (show Tryz.prog.wantsStandIn t = false by simpa using List.all_eq_true.1 hall t hm)⟩)
    (by kernel_rfl)
#print axioms vmRuns_card
end Go.Proofs.YthehpmffkkogpaaGreatDoor
