/- Proved: the statement DrvWrites holds for every build and width. Conditions: the listed package variables read as the program's text lays them (the card ties them); nothing else. -/
import Derived.Test.YtnipiphhkcafhaaDoorDvLaw
import Derived.Test.YtnipiphhkcafhaaDoorDvFrame
namespace Go.Proofs.YtnipiphhkcafhaaDoor
set_option linter.unusedVariables false
open Go.ChangeShapes Go.WideShapes Go.ChangeAt Go.RowKit
open Go.ChangeMaps (open_string shut_string)
set_option maxHeartbeats 4000000 in
set_option maxRecDepth 20000 in
theorem drvWrites_all (d : DrvL) (v : Value) (k : Int) (W : World) (hw : d.wf0) (hv : DrvV W (OldB W) v d) (hl : Lw W.heap.size W) : Calls Tryd.prog 3 #[v, .int .i64 k] W fun e w' => e = .returned (.bool true) ∧ Chg NoB W w' := by
  obtain ⟨s, kb, ko, rfl, hs⟩ := hv
  have hs0 := hs
  obtain ⟨⟨q, c, rfl, h1, h2, h3⟩, hat⟩ := hs
  have hD : ∀ w', Chg NoB W w' → DrvV w' (OldB W) (.agg (drvC d (.slice q d.ins.length c))) d := fun w' h => ⟨_, kb, ko, rfl, hs0.keep h fun _ _ => id⟩
  have HD := Lib.hid hD
  clear hD
  have hal := (Chg.refl NoB W).alloc (.cells (drvC d (.slice q d.ins.length c)) 28)
  have hb := heap_alloc_new W (.cells (drvC d (.slice q d.ins.length c)) 28)
  unfold drvC at *
  have Hl := Lib.hid hl
  have Hw := Lib.hid hw
  clear hs0 hl hat h3 h1 h2 hw
  obtain ⟨len, hle⟩ : ∃ l, l = d.ins.length := ⟨_, rfl⟩
  rw [← hle] at HD hal hb ⊢
  clear hle
  obtain ⟨name, hnm⟩ : ∃ x, d.name = x := ⟨_, rfl⟩
  obtain ⟨tool, htl⟩ : ∃ x, d.tool = x := ⟨_, rfl⟩
  obtain ⟨da, hda⟩ : ∃ x, d.a = x := ⟨_, rfl⟩
  obtain ⟨db, hdb⟩ : ∃ x, d.b = x := ⟨_, rfl⟩
  obtain ⟨dc, hdc⟩ : ∃ x, d.c = x := ⟨_, rfl⟩
  rw [hnm, htl, hda, hdb, hdc] at HD hal hb ⊢
  clear hnm htl hda hdb hdc
  obtain ⟨vb, hvb⟩ : ∃ b, b = W.heap.size := ⟨_, rfl⟩
  rw [← hvb] at hb
  have Hvb := Lib.hid hvb
  obtain ⟨w1, hw1⟩ : ∃ w1, W.alloc (.cells #[.string (tx name), .int .i64 da, .int .i64 db, .int .i64 dc, .string (tx tool), .slice q len c] 28) = w1 := ⟨_, rfl⟩
  rw [hw1] at hal hb
  have Hw1 := Lib.hid hw1
  have Hc1 := Lib.hid hal
  have Hb1 := Lib.hid hb
  clear hal hb hvb hw1
  go_enter Tryd.func3, Tryd.ntmps3
  go_upto_region 1 with fail
  rw [Hw1.out, ← Hvb.out]
  obtain ⟨f0, f1, f2, f3, f4, f5⟩ := var6 Hb1.out
  go_wp2_with fail
  refine (alive_any _ w1 (Hl.out.keep Hc1.out)).mono ?_
  rintro e w2 ⟨rfl, hc2⟩
  have Hc2 := Lib.hid (Hc1.out.trans hc2)
  have Hb2 := Lib.hid (row_kept hc2 Hb1.out id)
  clear f0 f1 f2 f3 f4 f5 hc2
  obtain ⟨f0, f1, f2, f3, f4, f5⟩ := var6 Hb2.out
  go_wp2_with fail
  have Hgr := Lib.hid (great_any d Hw.out _ _ w2 (HD.out _ Hc2.out))
  obtain ⟨gr, hgr⟩ : ∃ g, g = greatD d := ⟨_, rfl⟩
  rw [← hgr] at Hgr
  have Hg := Lib.hid hgr
  clear hgr
  refine Hgr.out.mono ?_
  rintro e w3 ⟨rfl, hc3⟩
  have Hc3 := Lib.hid (Hc2.out.trans hc3)
  have Hb3 := Lib.hid (row_kept hc3 Hb2.out id)
  clear f0 f1 f2 f3 f4 f5 hc3 Hgr
  cases gr with
  | true =>
    go_wp2_with fail
    go_ret
    exact ⟨rfl, Hc3.out⟩
  | false =>
  have hwf := wf_of Hw.out Hg.out.symm
  have Hwf := Lib.hid hwf
  have HE := Lib.hid (fun w' (h : Chg NoB W w') => dencode_any d hwf _ _ _ w' (Hl.out.keep h) (HD.out _ h))
  have HRE := Lib.hid (fun w' (h : Chg NoB W w') => refEncode_any d hwf _ _ _ w' (Hl.out.keep h) (HD.out _ h))
  have HK := Lib.hid (fun w' (h : Chg NoB W w') => dkey_any d hwf k _ _ _ w' (Hl.out.keep h) (HD.out _ h))
  have HRK := Lib.hid (fun w' (h : Chg NoB W w') => refKey_any d hwf k _ _ _ w' (Hl.out.keep h) (HD.out _ h))
  have HGd := Lib.hid (fun w' (h : Chg NoB W w') => dgood_any d hwf _ _ w' (HD.out _ h))
  have HRG := Lib.hid (fun w' (h : Chg NoB W w') => refGood_any d hwf _ _ w' (HD.out _ h))
  obtain ⟨x1, hx1⟩ : ∃ x, x = (encD d).1 := ⟨_, rfl⟩
  obtain ⟨x2, hx2⟩ : ∃ x, x = (encD d).2 := ⟨_, rfl⟩
  obtain ⟨y1, hy1⟩ : ∃ x, x = (keyD d k).1 := ⟨_, rfl⟩
  obtain ⟨y2, hy2⟩ : ∃ x, x = (keyD d k).2 := ⟨_, rfl⟩
  obtain ⟨gd, hgd⟩ : ∃ x, x = goodD d := ⟨_, rfl⟩
  rw [← hx1, ← hx2] at HE HRE
  rw [← hy1, ← hy2] at HK HRK
  rw [← hgd] at HGd HRG
  clear hwf hx1 hx2 hy1 hy2 hgd HD Hg Hwf
  obtain ⟨f0, f1, f2, f3, f4, f5⟩ := var6 Hb3.out
  go_wp2_with fail
  refine (HE.out _ Hc3.out).mono ?_
  rintro e w4 ⟨hc4, rfl⟩
  have Hc4 := Lib.hid (Hc3.out.trans hc4)
  have Hb4 := Lib.hid (row_kept hc4 Hb3.out id)
  clear f0 f1 f2 f3 f4 f5 hc4
  obtain ⟨f0, f1, f2, f3, f4, f5⟩ := var6 Hb4.out
  go_wp2_with fail
  refine (HRE.out _ Hc4.out).mono ?_
  rintro e w5 ⟨hc5, rfl⟩
  have Hc5 := Lib.hid (Hc4.out.trans hc5)
  have Hb5 := Lib.hid (row_kept hc5 Hb4.out id)
  clear f0 f1 f2 f3 f4 f5 hc5
  obtain ⟨f0, f1, f2, f3, f4, f5⟩ := var6 Hb5.out
  go_wp2_with fail
  refine (HK.out _ Hc5.out).mono ?_
  rintro e w6 ⟨hc6, rfl⟩
  have Hc6 := Lib.hid (Hc5.out.trans hc6)
  have Hb6 := Lib.hid (row_kept hc6 Hb5.out id)
  clear f0 f1 f2 f3 f4 f5 hc6
  obtain ⟨f0, f1, f2, f3, f4, f5⟩ := var6 Hb6.out
  go_wp2_with fail
  refine (HRK.out _ Hc6.out).mono ?_
  rintro e w7 ⟨hc7, rfl⟩
  have Hc7 := Lib.hid (Hc6.out.trans hc7)
  have Hb7 := Lib.hid (row_kept hc7 Hb6.out id)
  clear f0 f1 f2 f3 f4 f5 hc7
  have hdr : Chg NoB w7 w7.drew := (Chg.refl NoB w7).drew
  obtain ⟨f0, f1, f2, f3, f4, f5⟩ := var6 Hb7.out
  have hS : ∀ w', Chg NoB w7 w' → (w'.cell? ⟨vb, 0, none⟩ = some (.string (tx name)) ∧ w'.cell? ⟨vb, 1, none⟩ = some (.int .i64 da) ∧ w'.cell? ⟨vb, 2, none⟩ = some (.int .i64 db) ∧ w'.cell? ⟨vb, 3, none⟩ = some (.int .i64 dc) ∧ w'.cell? ⟨vb, 4, none⟩ = some (.string (tx tool)) ∧ w'.cell? ⟨vb, 5, none⟩ = some (.slice q len c)) := fun w' h => ⟨h.keep f0, h.keep f1, h.keep f2, h.keep f3, h.keep f4, h.keep f5⟩
  have HS := Lib.hid hS
  have hA := hS _ (Chg.refl _ _)
  have hA2 := hS _ hdr
  clear hS f0 f1 f2 f3 f4 f5
  go_wp2_with fail
  go_region_held3 (fun w' => w'.cell? ⟨vb, 0, none⟩ = some (.string (tx name)) ∧ w'.cell? ⟨vb, 1, none⟩ = some (.int .i64 da) ∧ w'.cell? ⟨vb, 2, none⟩ = some (.int .i64 db) ∧ w'.cell? ⟨vb, 3, none⟩ = some (.int .i64 dc) ∧ w'.cell? ⟨vb, 4, none⟩ = some (.string (tx tool)) ∧ w'.cell? ⟨vb, 5, none⟩ = some (.slice q len c))
    (first | with_reducible exact hA | with_reducible exact hA2 | with_reducible exact hB | with_reducible exact hC)
    (first
      | (go_at_call 11; refine (HGd.out w7.drew (Hc7.out.trans hdr)).mono ?_; rintro e w8 ⟨rfl, hc8'⟩; have hc8 : Chg NoB w7 w8 := hdr.trans hc8'; have hB := HS.out _ hc8)
      | (go_at_call 12; refine (HRG.out w8 (Hc7.out.trans hc8)).mono ?_; rintro e w9 ⟨rfl, hc9'⟩; have hc9 := hc8.trans hc9'; have hC := HS.out _ hc9; have Hc9 := Lib.hid (Hc7.out.trans hc9)))
  all_goals
    clear hA hA2 hB hC
    try clear hHeld
    go_wp2_with fail
    go_ret
    exact ⟨rfl, Hc9.out⟩
/-FRAME-/
set_option maxRecDepth 100000 in
theorem drvWrites_lifted (os : Os) (started : os.Started) (H : Type) (enc : TypeId × Value → H) :
    ReturnsInHanded {} Tryd.checked os 3 .any (fun w args => (Rows.drvWritesSpec.pre enc Tryd.prog Tryd.f3 [] false w args ∧ laidMetH Tryd.prog Rows.drvWritesRow.laid w) ∧ sizedMet enc Tryd.prog Tryd.f3 (OpenSpec.ofChange Rows.drvWritesSpec) false w args)
      (Rows.drvWritesSpec.post enc Tryd.prog Tryd.f3 false true false false) := by
  refine returns_both (C := Tryd.checked) (X := fun w _ => laidMetH Tryd.prog Rows.drvWritesRow.laid w) (fun _ _ _ hh h => h.of_heap hh) Tryd.own started (by kernel_rfl) Tryd.func3
    (ChangeSpec.witness_shaped (enc := enc) (C := Tryd.checked) (os := os) (X := fun w _ => laidMetH Tryd.prog Rows.drvWritesRow.laid w) false (World.laidAll Tryd.prog os Rows.drvWritesRow.laid) #[.agg #[.string ByteArray.empty, .int .i64 0, .int .i64 0, .int .i64 0, .string ByteArray.empty, .slice none 0 0], .int .i64 0] 8 (World.laidAll_os _ _ _)
      (World.shaped_of_ZipB (by kernel_rfl) (by kernel_rfl)) (by kernel_rfl) (by kernel_rfl) (by kernel_rfl)
      (by rw [MakeChecks.laidMetH_plain _ _ _ (by kernel_rfl)]; exact laidMet_laidAll _ (by kernel_rfl) (by kernel_rfl))) ?_
  intro W base args ds gs before hval0 hW _ hsz hL hsh _
  have hval : ∀ (j : Nat) t v, Tryd.f3.params[j]? = some t → args[j]? = some v → Value.okWide Tryd.prog W .any base t v := hval0
  have hW' := hW
  obtain ⟨p, q, hA0, hV, rfl, _, _⟩ := hW
  have hA : DataW.TrodAll enc Tryd.prog W 0 (fun _ => true) true Tryd.f3.params.toList args.toList ds p := hA0
  have hsz1 : (DataW.weightsEach Tryd.prog (Tryd.f3.params.toList ++ Rows.drvWritesSpec.plain.varTypes Tryd.prog) (ds ++ gs)).all (· ≤ reachBytes) = true := hsz
  rw [Tryd.params3] at hA hval hsz1
  obtain ⟨v0, v1, d0, d1, p0, p1, rfl, rfl, rfl, h0, h1⟩ := trodAll_two hA
  obtain ⟨rfl, rfl⟩ := trodVars_none hV
  obtain ⟨D0, hw0, hn0⟩ := open_drv (hval 0 28 v0 rfl rfl) h0 (fun m hm => of_decide_eq_true (List.all_eq_true.1 hsz1 m (DataW.weights_mem_each (j := 0) (t := 28) (d := d0) rfl rfl m hm)))
  obtain ⟨x1, rfl, rfl, rfl, wx1⟩ := open_int Tryd.underlying3 (hval 1 3 v1 rfl rfl) h1
  simp only [List.append_nil] at hW'
  rw [MakeChecks.laidMetH_plain _ _ _ (by kernel_rfl)] at hL
  have hL' : laidMet Tryd.prog [("math/bits.deBruijn32tab", Rows.laid_math_bits_deBruijn32tab), ("math/bits.deBruijn64tab", Rows.laid_math_bits_deBruijn64tab), ("internal/strconv.uint64pow10", Rows.laid_internal_strconv_uint64pow10)] W := hL
  have hlb : Lw W.heap.size W := lw_of hL' (.tail _ (.tail _ (.head _)))
  clear hA0 hval0
  refine (drvWrites_all D0 _ x1 W hw0 hn0 hlb).mono fun e W' ⟨he, hb⟩ => ?_
  subst he
  exact ⟨_, rfl, _, _, _, [], _, [], hW', trodAll_mk1 (shut_bool Tryd.underlying4 _), (trodAll_cons_mk (drv_stays h0 hb.below) (trodAll_cons_mk (shut_int Tryd.underlying3 wx1) trodAll_mk0)), rfl, hb.below.frame _, fun h => by cases h⟩
theorem drvWrites_holds : Rows.DrvWritesSaid :=
  OpenClaim.holds_of_wide 3 Tryd.f3 rfl rfl rfl rfl rfl rfl rfl ⟨rfl, rfl, rfl, rfl, rfl⟩ rfl rfl rfl rfl rfl (by kernel_rfl) Tryd.func3 (by kernel_rfl)
    (of_decide_eq_true (by kernel_rfl)) (by unfold Func.isWrapper; first | (rw [if_pos (by decide +kernel)]; kernel_rfl) | (rw [if_neg (by decide +kernel)]; exact ⟨rfl, rfl⟩))
    (fun os started H enc _ => drvWrites_lifted os started H enc)
theorem drvWrites_card : Rows.DrvWritesCardSaid :=
  Claim7.holds_tied_plain_at .later [] [.data, .data, .data] true (true, "5cc813bd2af3009976ad7e83c6d7ed04faf454e9199cf750540c15f70c026c99") true drvWrites_holds (fun _ h => by cases h) (by kernel_rfl) (fun _ h => by cases h) drvWrites_row_tie rfl ⟨rfl, rfl⟩ (by kernel_rfl) rfl
    (fun f fn hf hfn => by
      obtain rfl : f = 3 := Option.some.inj ((show Tryd.prog.funcNamed "sapling/saplinglaw18.DrvWrites" = some 3 by kernel_rfl).symm.trans hf) |>.symm
      obtain rfl : fn = Tryd.f3 := (Option.some.inj (Tryd.func3.symm.trans hfn)).symm
      exact ⟨by kernel_rfl, fun j t ht => by
        rw [Tryd.params3] at ht
        have hm : t ∈ [28, 3] := by simpa using Array.mem_of_getElem? ht
        have hall : ([28, 3].all fun u => !Tryd.prog.wantsStandIn u) = true := by kernel_rfl
        exact (show Tryd.prog.wantsStandIn t = false by simpa using List.all_eq_true.1 hall t hm)⟩)
    (by kernel_rfl)
#print axioms drvWrites_card
end Go.Proofs.YtnipiphhkcafhaaDoor
