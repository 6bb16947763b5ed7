/- Proved: the statement TreeMakes holds for every list of files. Conditions: the listed package variables read as the program's text lays them (the card ties them); nothing else. -/
import Derived.Test.YtilkcjcmcnlfnaaGreatDoorTrFrame
namespace Go.Proofs.YtilkcjcmcnlfnaaGreatDoor
set_option linter.unusedVariables false
open Go.ChangeShapes Go.WideShapes Go.ChangeAt Go.RowKit
open Go.ChangeMaps (open_string shut_string)
theorem perm_mem {l d : List FileL} (h : makeF l = .ok d) {P : FileL → Prop} (hp : ∀ x ∈ l, P x) : ∀ x ∈ d, P x := fun x hx => hp x ((make_len h).2.mem_iff.1 hx)
theorem sortF_sorted {l : List FileL} (h : Asc l) : sortF l = l := asc_perm (sortF_asc l) h (sortF_perm (asc_nodup h))
theorem make_good {l d : List FileL} (h : makeF l = .ok d) : goodF d = true := by
  obtain ⟨h1, h2, h3, h4, h5⟩ := make_parts h
  obtain ⟨h6, h7⟩ := make_len h
  have hasc : Asc d := by rw [h5]; exact sortF_asc l
  refine good_iff.2 ?_
  have hb : badF d = none := badF_none.2 (perm_mem h h2)
  have hc : clashF d = false := by rw [clashF_perm h7]; exact h4
  have := make_ok (l := d) (by omega) hb (asc_nodup hasc) hc
  rw [this, sortF_sorted hasc]
set_option maxHeartbeats 8000000 in
set_option maxRecDepth 20000 in
theorem treeMakes_all (l : List FileL) (v : Value) (kb ko : Nat) (W : World) (hs : InpS W (OldB W) v l kb ko) (hr : Reach l) (hlb : Lw W.heap.size W) (hml : Pth.Ml W) :
    Calls Tryz.prog 3 #[v] W fun e w' => e = .returned (.bool true) ∧ Chg NoB W w' := by
  have Hs := Lib.hid hs
  obtain ⟨⟨q, c, rfl, -, -, -⟩, -⟩ := hs
  obtain ⟨n, hn⟩ : ∃ n, n = l.length := ⟨_, rfl⟩
  rw [← hn] at Hs ⊢
  have Hn := Lib.hid hn
  have Hr := Lib.hid hr
  have Hlb := Lib.hid hlb
  have Hml := Lib.hid hml
  clear hn hr hlb hml
  go_enter Tryz.func3, Tryz.ntmps3
  go_wp2_with fail
  refine (talive_any _ W Hlb.out Hml.out).mono ?_
  rintro e w1 ⟨rfl, hc1⟩
  have Hc1 := Lib.hid hc1
  have Hgr := Lib.hid (tgreat_any l Hr.out.1 Hr.out.2 _ _ kb ko w1 (Hs.out.keep hc1 fun _ _ => id))
  obtain ⟨g, hg⟩ : ∃ g, g = greatF l := ⟨_, rfl⟩
  rw [← hg] at Hgr
  have Hg := Lib.hid hg
  clear hc1 hg
  go_wp2_with fail
  refine Hgr.out.mono ?_
  rintro e w2 ⟨rfl, hc2⟩
  have Hc2 := Lib.hid (Hc1.out.trans hc2)
  clear hc2 Hgr
  cases g with
  | true =>
    go_wp2_with fail
    go_ret
    exact ⟨rfl, Hc2.out⟩
  | false =>
  obtain ⟨hl, hw0⟩ := great_no Hg.out.symm
  have hw : ∀ x ∈ l, x.1.length ≤ 1048576 ∧ x.2.length ≤ 1048576 := fun x hx => by have := hw0 x hx; omega
  have hl2 : l.length ≤ 1048576 := by omega
  have Hl := Lib.hid hl2
  have Hw := Lib.hid hw
  have HMk := Lib.hid (fun w' (h : Chg NoB W w') => make_any l hl2 hw _ _ kb ko w' (ml_keep Hml.out h) (Hs.out.keep h fun _ _ => id))
  have HRm := Lib.hid (fun w' (h : Chg NoB W w') => rmake_any l hl2 hw _ _ kb ko w' (Hs.out.keep h fun _ _ => id))
  have HGd := Lib.hid (fun w' (h : Chg NoB W w') => tgood_any l hl2 hw _ _ kb ko w' (ml_keep Hml.out h) (Hs.out.keep h fun _ _ => id))
  have HRg := Lib.hid (fun w' (h : Chg NoB W w') => rgood_any l hl2 hw _ _ kb ko w' (Hs.out.keep h fun _ _ => id))
  obtain ⟨gd, hgd⟩ : ∃ g, g = goodF l := ⟨_, rfl⟩
  rw [← hgd] at HGd HRg
  have hself : (gd == gd) = true := by simp
  have Hself := Lib.hid hself
  clear hl hw0 hw hl2 Hg hgd hself
  cases hmf : makeF l with
  | error y =>
    have hyy : (y == y) = true := by simp
    have hgnil : goodF [] = true := by kernel_rfl
    have HGn := Lib.hid (fun w' (h : Chg NoB W w') => tgood_any [] (by decide) (fun x hx => by cases hx) NoB (.slice none 0 0) 0 0 w' (ml_keep Hml.out h) (InpS.nil _ _))
    rw [hgnil] at HGn
    have HSn := Lib.hid (fun w' => rsame_any [] [] NoB NoB (.slice none 0 0) (.slice none 0 0) 0 0 0 0 w' (by decide) (by decide) (InpS.nil _ _) (InpS.nil _ _))
    rw [hmf] at HMk HRm
    unfold MakeP at HMk HRm
    simp only [decide_true] at HSn
    clear hmf hgnil
    have Hyy := Lib.hid hyy
    clear hyy
    go_wp2_with fail
    refine (HMk.out _ Hc2.out).mono ?_
    rintro e w3 ⟨hc3, rfl⟩
    have hal4 := (Chg.refl NoB w3).alloc (.cells #[.slice none 0 0] 26)
    have hb4 := heap_alloc_new w3 (.cells #[.slice none 0 0] 26)
    have Hc4 := Lib.hid (Hc2.out.trans (hc3.trans hal4))
    obtain ⟨tb, htb⟩ : ∃ b, b = w3.heap.size := ⟨_, rfl⟩
    rw [← htb] at hb4
    have Htb := Lib.hid htb
    obtain ⟨w4, hw4⟩ : ∃ w4, w3.alloc (.cells #[.slice none 0 0] 26) = w4 := ⟨_, rfl⟩
    rw [hw4] at hb4 Hc4
    have Hw4 := Lib.hid hw4
    have Hb4 := Lib.hid hb4
    clear hc3 hal4 hb4 htb hw4 HMk
    go_upto_region 6 with fail
    rw [Hw4.out, ← Htb.out]
    go_wp2_with fail
    refine (HRm.out _ Hc4.out).mono ?_
    rintro e w5 ⟨hc5, rfl⟩
    have hal6 := (Chg.refl NoB w5).alloc (.cells #[.slice none 0 0] 26)
    have hb6 := heap_alloc_new w5 (.cells #[.slice none 0 0] 26)
    have Hc6 := Lib.hid (Hc4.out.trans (hc5.trans hal6))
    have Hb46 := Lib.hid (row_kept (hc5.trans hal6) Hb4.out id)
    obtain ⟨ub, hub⟩ : ∃ b, b = w5.heap.size := ⟨_, rfl⟩
    rw [← hub] at hb6
    have Hub := Lib.hid hub
    obtain ⟨w6, hw6⟩ : ∃ w6, w5.alloc (.cells #[.slice none 0 0] 26) = w6 := ⟨_, rfl⟩
    rw [hw6] at hb6 Hc6 Hb46
    have Hw6 := Lib.hid hw6
    have Hb6 := Lib.hid hb6
    clear hc5 hal6 hb6 hub hw6 HRm
    go_upto_region 7 with fail
    rw [Hw6.out, ← Hub.out]
    have t0 := var1 Hb46.out
    have u0 := var1 Hb6.out
    have hyy := Hyy.out
    go_wp2_with fail
    refine (HSn.out _).mono ?_
    rintro e w7 ⟨rfl, hc7⟩
    have Hc7 := Lib.hid (Hc6.out.trans hc7)
    have Hb7 := Lib.hid (row_kept hc7 Hb46.out id)
    clear hc7 t0 u0 hyy
    go_wp2_with fail
    refine (HGd.out _ Hc7.out).mono ?_
    rintro e w8 ⟨rfl, hc8⟩
    have Hc8 := Lib.hid (Hc7.out.trans hc8)
    have Hb8 := Lib.hid (row_kept hc8 Hb7.out id)
    clear hc8
    go_wp2_with fail
    refine (HRg.out _ Hc8.out).mono ?_
    rintro e w9 ⟨rfl, hc9⟩
    have Hc9 := Lib.hid (Hc8.out.trans hc9)
    have Hb9 := Lib.hid (row_kept hc9 Hb8.out id)
    clear hc9
    have t0 := var1 Hb9.out
    have hself := Hself.out
    go_wp2_with fail
    refine (HGn.out _ Hc9.out).mono ?_
    rintro e w10 ⟨rfl, hc10⟩
    have Hc10 := Lib.hid (Hc9.out.trans hc10)
    clear hc10 t0 hself
    go_wp2_with fail
    go_ret
    exact ⟨rfl, Hc10.out⟩
  | ok d =>
    have hgd2 := make_good hmf
    obtain ⟨hdl, hdp⟩ := make_len hmf
    have hdw := perm_mem hmf Hw.out
    have hdl2 : d.length ≤ 1048576 := by rw [hdl]; exact Hl.out
    have Hdl2 := Lib.hid hdl2
    have Hdw := Lib.hid hdw
    have Hgd2 := Lib.hid hgd2
    rw [hmf] at HMk HRm
    unfold MakeP at HMk HRm
    clear hmf hgd2 hdl hdp hdw hdl2
    go_wp2_with fail
    refine (HMk.out _ Hc2.out).mono ?_
    rintro e w3 ⟨hc3, v3, rfl, hrow3⟩
    obtain ⟨vq, vc, hv3, -, -⟩ := row_shape hrow3
    obtain ⟨nb, hns⟩ := InpS.of_row hrow3
    obtain ⟨m, hm⟩ : ∃ m, m = d.length := ⟨_, rfl⟩
    rw [← hm] at hv3
    subst hv3
    have Hm := Lib.hid hm
    have hal4 := (Chg.refl NoB w3).alloc (.cells #[.slice vq m vc] 26)
    have hb4 := heap_alloc_new w3 (.cells #[.slice vq m vc] 26)
    have Hc4 := Lib.hid (Hc2.out.trans (hc3.trans hal4))
    have Hns := Lib.hid (hns.keep hal4 fun _ _ => id)
    obtain ⟨tb, htb⟩ : ∃ b, b = w3.heap.size := ⟨_, rfl⟩
    rw [← htb] at hb4
    have Htb := Lib.hid htb
    obtain ⟨w4, hw4⟩ : ∃ w4, w3.alloc (.cells #[.slice vq m vc] 26) = w4 := ⟨_, rfl⟩
    rw [hw4] at hb4 Hc4 Hns
    have Hw4 := Lib.hid hw4
    have Hb4 := Lib.hid hb4
    clear hc3 hal4 hb4 htb hw4 HMk hrow3 hns hm
    go_upto_region 6 with fail
    rw [Hw4.out, ← Htb.out]
    go_wp2_with fail
    refine (HRm.out _ Hc4.out).mono ?_
    rintro e w5 ⟨hc5, v5, rfl, hrow5⟩
    obtain ⟨uq, uc, hv5, -, -⟩ := row_shape hrow5
    obtain ⟨ob, hos⟩ := InpS.of_row hrow5
    rw [← Hm.out] at hv5
    subst hv5
    have hal6 := (Chg.refl NoB w5).alloc (.cells #[.slice uq m uc] 26)
    have hb6 := heap_alloc_new w5 (.cells #[.slice uq m uc] 26)
    have Hc46 := Lib.hid (hc5.trans hal6)
    have Hc6 := Lib.hid (Hc4.out.trans Hc46.out)
    have Hb46 := Lib.hid (row_kept (hc5.trans hal6) Hb4.out id)
    have Hos := Lib.hid (hos.keep hal6 fun _ _ => id)
    obtain ⟨ub, hub⟩ : ∃ b, b = w5.heap.size := ⟨_, rfl⟩
    rw [← hub] at hb6
    have Hub := Lib.hid hub
    obtain ⟨w6, hw6⟩ : ∃ w6, w5.alloc (.cells #[.slice uq m uc] 26) = w6 := ⟨_, rfl⟩
    rw [hw6] at hb6 Hc6 Hb46 Hos Hc46
    have Hw6 := Lib.hid hw6
    have Hb6 := Lib.hid hb6
    have Hns6 := Lib.hid (Hns.out.keep Hc46.out fun _ _ => id)
    have HSn := Lib.hid (rsame_any d d _ _ _ _ nb 0 ob 0 w6 Hdl2.out Hdl2.out Hns6.out Hos.out)
    simp only [decide_true] at HSn
    have hm2 := Hm.out
    have HGn := Lib.hid (fun w' (h : Chg NoB W w') (h6 : Chg NoB w6 w') => tgood_any d Hdl2.out Hdw.out _ _ nb 0 w' (ml_keep Hml.out h) (Hns6.out.keep h6 fun _ _ => id))
    rw [Hgd2.out] at HGn
    clear hc5 hal6 hb6 hub hw6 HRm hrow5 hos hm2
    go_upto_region 7 with fail
    rw [Hw6.out, ← Hub.out]
    have t0 := var1 Hb46.out
    have u0 := var1 Hb6.out
    go_wp2_with fail
    refine HSn.out.mono ?_
    rintro e w7 ⟨rfl, hc7⟩
    have Hc7 := Lib.hid (Hc6.out.trans hc7)
    have Hd7 := Lib.hid hc7
    have Hb7 := Lib.hid (row_kept hc7 Hb46.out id)
    clear hc7 t0 u0
    go_wp2_with fail
    refine (HGd.out _ Hc7.out).mono ?_
    rintro e w8 ⟨rfl, hc8⟩
    have Hc8 := Lib.hid (Hc7.out.trans hc8)
    have Hd8 := Lib.hid (Hd7.out.trans hc8)
    have Hb8 := Lib.hid (row_kept hc8 Hb7.out id)
    clear hc8
    go_wp2_with fail
    refine (HRg.out _ Hc8.out).mono ?_
    rintro e w9 ⟨rfl, hc9⟩
    have Hc9 := Lib.hid (Hc8.out.trans hc9)
    have Hd9 := Lib.hid (Hd8.out.trans hc9)
    have Hb9 := Lib.hid (row_kept hc9 Hb8.out id)
    clear hc9
    have t0 := var1 Hb9.out
    have hself := Hself.out
    go_wp2_with fail
    refine (HGn.out _ Hc9.out Hd9.out).mono ?_
    rintro e w10 ⟨rfl, hc10⟩
    have Hc10 := Lib.hid (Hc9.out.trans hc10)
    clear hc10 t0 hself
    go_wp2_with fail
    go_ret
    exact ⟨rfl, Hc10.out⟩
/-FRAME-/
set_option maxRecDepth 100000 in
theorem treeMakes_lifted (os : Os) (started : os.Started) (H : Type) (enc : TypeId × Value → H) :
    ReturnsInHanded {} Tryz.checked os 3 .any (fun w args => (Rows.treeMakesSpec.pre enc Tryz.prog Tryz.f3 [] false w args ∧ laidMetH Tryz.prog Rows.treeMakesRow.laid w) ∧ sizedMet enc Tryz.prog Tryz.f3 (OpenSpec.ofChange Rows.treeMakesSpec) false w args)
      (Rows.treeMakesSpec.post enc Tryz.prog Tryz.f3 false true false false) := by
  refine returns_both (C := Tryz.checked) (X := fun w _ => laidMetH Tryz.prog Rows.treeMakesRow.laid w) (fun _ _ _ hh h => h.of_heap hh) Tryz.own started (by kernel_rfl) Tryz.func3
    (ChangeSpec.witness_shaped (enc := enc) (C := Tryz.checked) (os := os) (X := fun w _ => laidMetH Tryz.prog Rows.treeMakesRow.laid w) false (World.laidAll Tryz.prog os Rows.treeMakesRow.laid) #[.slice none 0 0] 8 (World.laidAll_os _ _ _)
      (World.shaped_of_ZipB (by kernel_rfl) (by kernel_rfl)) (by kernel_rfl) (by kernel_rfl) (by kernel_rfl)
      (by rw [MakeChecks.laidMetH_plain _ _ _ (by kernel_rfl)]; exact laidMet_laidAll _ (by kernel_rfl) (by kernel_rfl))) ?_
  intro W base args ds gs before hval0 hW _ hsz hL hsh _
  have hval : ∀ (j : Nat) t v, Tryz.f3.params[j]? = some t → args[j]? = some v → Value.okWide Tryz.prog W .any base t v := hval0
  have hW' := hW
  obtain ⟨p, q, hA0, hV, rfl, _, _⟩ := hW
  have hA : DataW.TrodAll enc Tryz.prog W 0 (fun _ => true) true Tryz.f3.params.toList args.toList ds p := hA0
  have hsz1 : (DataW.weightsEach Tryz.prog (Tryz.f3.params.toList ++ Rows.treeMakesSpec.plain.varTypes Tryz.prog) (ds ++ gs)).all (· ≤ reachBytes) = true := hsz
  rw [Tryz.params3] at hA hval hsz1
  obtain ⟨v0, d0, rfl, rfl, h0⟩ := trodAll_one hA
  obtain ⟨rfl, rfl⟩ := trodVars_none hV
  obtain ⟨l0, kb0, ko0, hn0, hr0⟩ := open_files (hval 0 22 v0 rfl rfl) h0 (fun m hm => of_decide_eq_true (List.all_eq_true.1 hsz1 m (DataW.weights_mem_each (j := 0) (t := 22) (d := d0) rfl rfl m hm)))
  simp only [List.append_nil] at hW'
  rw [MakeChecks.laidMetH_plain _ _ _ (by kernel_rfl)] at hL
  have hL' : laidMet Tryz.prog [("math/bits.deBruijn32tab", Rows.laid_math_bits_deBruijn32tab), ("math/bits.deBruijn64tab", Rows.laid_math_bits_deBruijn64tab), ("internal/strconv.uint64pow10", Rows.laid_internal_strconv_uint64pow10), ("unicode/utf8.acceptRanges", Rows.laid_unicode_utf8_acceptRanges), ("unicode/utf8.first", Rows.laid_unicode_utf8_first)] W := hL
  have hlb : Lw W.heap.size W := lw_of hL' (.tail _ (.tail _ (.head _)))
  have hml : Pth.Ml W := wml_of hsh
  clear hA0 hval0
  refine (treeMakes_all l0 _ kb0 ko0 W hn0 hr0 hlb hml).mono fun e W' ⟨he, hb⟩ => ?_
  subst he
  exact ⟨_, rfl, _, _, _, [], _, [], hW', trodAll_mk1 (shut_bool Tryz.underlying4 _), (trodAll_cons_mk (files_stay h0 hb.below) trodAll_mk0), rfl, hb.below.frame _, fun h => by cases h⟩
theorem treeMakes_holds : Rows.TreeMakesSaid :=
  OpenClaim.holds_of_wide 3 Tryz.f3 rfl rfl rfl rfl rfl rfl rfl ⟨rfl, rfl, rfl, rfl, rfl⟩ rfl rfl rfl rfl rfl (by kernel_rfl) Tryz.func3 (by kernel_rfl)
    (of_decide_eq_true (by kernel_rfl)) (by unfold Func.isWrapper; first | (rw [if_pos (by decide +kernel)]; kernel_rfl) | (rw [if_neg (by decide +kernel)]; exact ⟨rfl, rfl⟩))
    (fun os started H enc _ => treeMakes_lifted os started H enc)
theorem treeMakes_card : Rows.TreeMakesCardSaid :=
  Claim7.holds_tied_plain_at .later [] [.data, .data, .data, .data, .pinned] true (true, "ae40126c67c6ca9ad63bc136dd30ebf461b3d4ff067546d356e722ee9505be06") true treeMakes_holds (fun _ h => by cases h) (by kernel_rfl) (fun _ h => by cases h) treeMakes_row_tie rfl ⟨rfl, rfl⟩ (by kernel_rfl) rfl
    (fun f fn hf hfn => by
      obtain rfl : f = 3 := Option.some.inj ((show Tryz.prog.funcNamed "sapling/saplinglaw05.TreeMakes" = some 3 by kernel_rfl).symm.trans hf) |>.symm
      obtain rfl : fn = Tryz.f3 := (Option.some.inj (Tryz.func3.symm.trans hfn)).symm
      exact ⟨by kernel_rfl, fun j t ht => by
        rw [Tryz.params3] at ht
        have hm : t ∈ [22] := by simpa using Array.mem_of_getElem? ht
        have hall : ([22].all fun u => !Tryz.prog.wantsStandIn u) = true := by kernel_rfl
        exact (show Tryz.prog.wantsStandIn t = false by simpa using List.all_eq_true.1 hall t hm)⟩)
    (by kernel_rfl)
#print axioms treeMakes_card
end Go.Proofs.YtilkcjcmcnlfnaaGreatDoor
