/- Proved: the statement DrvReads holds for every text. Conditions: the listed package variables read as the program's text lays them (the card ties them); nothing else. -/
import Derived.Test.YtnipiphhkcafhaaGreatDoorDvRefDec
import Derived.Test.YtnipiphhkcafhaaGreatDoorDvLaw
import Derived.Test.YtnipiphhkcafhaaGreatDoorDvFrame
namespace Go.Proofs.YtnipiphhkcafhaaGreatDoor
set_option linter.unusedVariables false
open Go.ChangeShapes Go.WideShapes Go.ChangeAt Go.RowKit
open Go.ChangeMaps (open_string shut_string)
theorem gSyn : Tryz.prog.globalNamed "strconv.ErrSyntax" = some 2 := by kernel_rfl
theorem gRng : Tryz.prog.globalNamed "strconv.ErrRange" = some 3 := by kernel_rfl
theorem ml_of (W : World) (h : W.ShapedOpen Tryz.prog) : ∃ m, W.cell? ⟨1, 0, none⟩ = some (.int .i64 m) :=
  cell_of_shapedOpen_int (k := .i64) h (of_decide_eq_true (by kernel_rfl)) (t := 3) (zero := #[.int .i64 0]) (by kernel_rfl) rfl (by kernel_rfl) (by kernel_rfl) (by kernel_rfl)
theorem star_es : "*" ++ "errors.errorString" = "*errors.errorString" := by decide
theorem row_es (u : TypeId) (h : Tryz.prog.typeName? 3 u = some "*errors.errorString") : u = 147 :=
  typeName_ptr_named (nm := "errors.errorString") (by rw [star_es]; kernel_rfl) (by kernel_rfl) (by decide) u (by rw [star_es]; exact h)
theorem syn_of {r : List (String × DataW Unit)} {W : World} (h : laidMet Tryz.prog (("strconv.ErrSyntax", Rows.laid_strconv_ErrSyntax) :: r) W) : ∃ tp p, W.var? Tryz.prog "strconv.ErrSyntax" = some #[.iface tp p] := by
  obtain ⟨a, s, hv, _⟩ := laid_sentinel h gSyn (ti := 98) (by kernel_rfl) Tryz.underlying98 row_es Tryz.underlying147 Tryz.underlying149 rfl rfl Tryz.underlying9 (by kernel_rfl) (by kernel_rfl)
  exact ⟨_, _, hv⟩
theorem rng_of {r : List (String × DataW Unit)} {W : World} (h : laidMet Tryz.prog (("strconv.ErrRange", Rows.laid_strconv_ErrRange) :: r) W) : ∃ tp p, W.var? Tryz.prog "strconv.ErrRange" = some #[.iface tp p] := by
  obtain ⟨a, s, hv, _⟩ := laid_sentinel h gRng (ti := 98) (by kernel_rfl) Tryz.underlying98 row_es Tryz.underlying147 Tryz.underlying149 rfl rfl Tryz.underlying9 (by kernel_rfl) (by kernel_rfl)
  exact ⟨_, _, hv⟩
theorem lb_of {W : World} (h : laidMet Tryz.prog [("math/bits.deBruijn32tab", Rows.laid_math_bits_deBruijn32tab), ("math/bits.deBruijn64tab", Rows.laid_math_bits_deBruijn64tab), ("internal/strconv.uint64pow10", Rows.laid_internal_strconv_uint64pow10), ("unicode/utf8.acceptRanges", Rows.laid_unicode_utf8_acceptRanges), ("strconv.ErrRange", Rows.laid_strconv_ErrRange), ("strconv.ErrSyntax", Rows.laid_strconv_ErrSyntax), ("unicode/utf8.first", Rows.laid_unicode_utf8_first)] W) (hs : W.ShapedOpen Tryz.prog) : Lb W.heap.size W := by
  obtain ⟨tp, p, h1⟩ := syn_of h.tail.tail.tail.tail.tail
  obtain ⟨tq, q, h2⟩ := rng_of h.tail.tail.tail.tail
  obtain ⟨m, h3⟩ := ml_of W hs
  refine ⟨Nat.le_refl _, Lib.tabBelow_of_tabIs (tb_of h (.tail _ (.tail _ (.head _)))), ⟨tp, p, fun w' hb => Joins.var_stays gSyn h1 hb (Nat.le_refl _)⟩, ⟨tq, q, fun w' hb => Joins.var_stays gRng h2 hb (Nat.le_refl _)⟩, ⟨m, fun w' hb => ?_⟩⟩
  rw [← h3]
  exact World.cell?_of_block (hb.block _ (World.block_lt_of_cell? W _ h3))
def dZ : DrvL := ⟨[], 0, 0, 0, [], []⟩
theorem dZ_wf : dZ.wf := ⟨by decide, by decide, by decide, by decide, by decide, by decide, fun i hi => by simp [dZ] at hi⟩
theorem dZ_v (w : World) : DrvV w NoB (.agg #[.string ⟨#[]⟩, .int .i64 0, .int .i64 0, .int .i64 0, .string ⟨#[]⟩, .slice none 0 0]) dZ := ⟨.slice none 0 0, 0, 0, rfl, InpS.nil _ _⟩
theorem decD_wf {s : List UInt8} {d : DrvL} (h : decD s = .ok d) : d.wf := by
  obtain ⟨h1, h2⟩ := decD_ok h
  exact raw_wf (dec_count h1) (raw_form h2)
set_option maxHeartbeats 8000000 in
set_option maxRecDepth 20000 in
theorem drvReads_all (x : ByteArray) (W : World) (wx : x.size ≤ maxLen) (hlb : Lb W.heap.size W) :
    Calls Tryz.prog 3 #[.string x] W fun e w' => e = .returned (.bool true) ∧ Chg NoB W w' := by
  obtain ⟨s, rfl⟩ : ∃ s, x = tx s := ⟨_, (tx_back x).symm⟩
  have hss : (tx s).size = s.length := tx_size s
  obtain ⟨sl, hsl⟩ : ∃ sl, sl = s.length := ⟨_, rfl⟩
  rw [← hsl] at hss
  rw [hss] at wx
  unfold maxLen at wx
  have Hsl := Lib.hid hsl
  have Hlb := Lib.hid hlb
  clear hsl hlb
  go_enter Tryz.func3, Tryz.ntmps3
  go_wp2_with fail
  refine (alive_any _ W Hlb.out.lw).mono ?_
  rintro e w2 ⟨rfl, hc2⟩
  have Hc2 := Lib.hid hc2
  clear hc2
  by_cases hg : 131072 < sl
  · go_wp2_with fail
    go_ret
    exact ⟨rfl, Hc2.out⟩
  have Hd := Lib.hid (ddec_any s W.heap.size w2 (Hlb.out.keep Hc2.out) (by have := Hsl.out; omega))
  have Hr := Lib.hid (fun (w' : World) (h : Chg NoB W w') => rddec_any s W.heap.size w' (Hlb.out.keep h) (by have := Hsl.out; omega))
  cases hcd : decD s with
  | error y =>
    obtain ⟨y0, y1⟩ := decD_err hcd
    have hyb : (y != 0) = true := by rw [bne_iff_ne]; omega
    have hyy : (y != y) = false := by simp
    rw [hcd] at Hd Hr
    unfold DDecP zD6 at Hd Hr
    clear hcd
    go_wp2_with fail
    refine Hd.out.mono ?_
    rintro e w3 ⟨hc3, rfl⟩
    have hal4 := (Chg.refl NoB w3).alloc (.cells #[.string ⟨#[]⟩, .int .i64 0, .int .i64 0, .int .i64 0, .string ⟨#[]⟩, .slice none 0 0] 29)
    have hb4 := heap_alloc_new w3 (.cells #[.string ⟨#[]⟩, .int .i64 0, .int .i64 0, .int .i64 0, .string ⟨#[]⟩, .slice none 0 0] 29)
    have Hc4 := Lib.hid (Hc2.out.trans (hc3.trans hal4))
    clear hc3 hal4 Hd
    go_upto_region 6 with fail
    obtain ⟨xb, hxb⟩ : ∃ b, b = w3.heap.size := ⟨_, rfl⟩
    rw [← hxb] at hb4 ⊢
    have Hb4 := Lib.hid hb4
    clear hxb hb4
    generalize w3.alloc (.cells #[.string ⟨#[]⟩, .int .i64 0, .int .i64 0, .int .i64 0, .string ⟨#[]⟩, .slice none 0 0] 29) = w4 at *
    go_wp2_with fail
    refine (Hr.out w4 Hc4.out).mono ?_
    rintro e w5 ⟨hc5, rfl⟩
    have hal6 := (Chg.refl NoB w5).alloc (.cells #[.string ⟨#[]⟩, .int .i64 0, .int .i64 0, .int .i64 0, .string ⟨#[]⟩, .slice none 0 0] 29)
    have hb6 := heap_alloc_new w5 (.cells #[.string ⟨#[]⟩, .int .i64 0, .int .i64 0, .int .i64 0, .string ⟨#[]⟩, .slice none 0 0] 29)
    have Hc6 := Lib.hid (Hc4.out.trans (hc5.trans hal6))
    have Hb46 := Lib.hid (row_kept (hc5.trans hal6) Hb4.out id)
    clear hc5 hal6 Hr Hb4
    go_upto_region 7 with fail
    obtain ⟨yb, hyb'⟩ : ∃ b, b = w5.heap.size := ⟨_, rfl⟩
    rw [← hyb'] at hb6 ⊢
    have Hb6 := Lib.hid hb6
    clear hyb' hb6
    generalize w5.alloc (.cells #[.string ⟨#[]⟩, .int .i64 0, .int .i64 0, .int .i64 0, .string ⟨#[]⟩, .slice none 0 0] 29) = w6 at *
    obtain ⟨f0, f1, f2, f3, f4, f5⟩ := var6 Hb46.out
    obtain ⟨g0, g1, g2, g3, g4, g5⟩ := var6 Hb6.out
    have Hsm := Lib.hid (dsame_any dZ dZ dZ_wf dZ_wf NoB NoB _ _ w6 (dZ_v w6) (dZ_v w6) (by decide))
    go_wp2_with fail
    refine Hsm.out.mono ?_
    rintro e w7 ⟨⟨cb, rfl, hcb⟩, hc7⟩
    obtain rfl : cb = true := hcb.2 rfl
    have Hc7 := Lib.hid (Hc6.out.trans hc7)
    have Hb47 := Lib.hid (row_kept hc7 Hb46.out id)
    clear f0 f1 f2 f3 f4 f5 g0 g1 g2 g3 g4 g5 hcb hc7 Hsm
    obtain ⟨f0, f1, f2, f3, f4, f5⟩ := var6 Hb47.out
    have Hen := Lib.hid (dencode_any dZ dZ_wf NoB _ W.heap.size w7 (Hlb.out.keep Hc7.out).lw (dZ_v w7))
    obtain ⟨z1, hz1⟩ : ∃ z, z = (encD dZ).1 := ⟨_, rfl⟩
    obtain ⟨z2, hz2⟩ : ∃ z, z = (encD dZ).2 := ⟨_, rfl⟩
    rw [← hz1, ← hz2] at Hen
    clear hz1 hz2
    go_wp2_with fail
    refine Hen.out.mono ?_
    rintro e w8 ⟨hc8, rfl⟩
    have Hc8 := Lib.hid (Hc7.out.trans hc8)
    clear f0 f1 f2 f3 f4 f5 hc8 Hen
    go_wp2_with fail
    go_ret
    exact ⟨rfl, Hc8.out⟩
  | ok d =>
    have Hwf := Lib.hid (decD_wf hcd)
    have Hen0 := Lib.hid (encD_read hcd)
    rw [hcd] at Hd Hr
    unfold DDecP at Hd Hr
    clear hcd
    go_wp2_with fail
    refine Hd.out.mono ?_
    rintro e w3 ⟨hc3, v3, rfl, hv3⟩
    obtain ⟨s3, kb3, ko3, rfl, hs3⟩ := hv3
    have hs30 := hs3
    obtain ⟨⟨q3, c3, rfl, -, -, -⟩, -⟩ := hs3
    have hv3 : ∀ w', Chg NoB w3 w' → DrvV w' (NewB w2 w3) (.agg (drvC d (.slice q3 d.ins.length c3))) d := fun w' h => ⟨_, kb3, ko3, rfl, hs30.keep h fun _ _ => id⟩
    have Hv3 := Lib.hid hv3
    have hal4 := (Chg.refl NoB w3).alloc (.cells (drvC d (.slice q3 d.ins.length c3)) 29)
    have hb4 := heap_alloc_new w3 (.cells (drvC d (.slice q3 d.ins.length c3)) 29)
    have Hc4 := Lib.hid (Hc2.out.trans (hc3.trans hal4))
    have Hal4 := Lib.hid hal4
    unfold drvC at *
    obtain ⟨ln, hln⟩ : ∃ l, l = d.ins.length := ⟨_, rfl⟩
    rw [← hln] at Hv3 hb4 Hc4 Hal4 ⊢
    have Hln := Lib.hid hln
    clear hc3 hal4 Hd hv3 hs30 hln
    go_upto_region 6 with fail
    obtain ⟨xb, hxb⟩ : ∃ b, b = w3.heap.size := ⟨_, rfl⟩
    rw [← hxb] at hb4 ⊢
    have Hb4 := Lib.hid hb4
    clear hxb hb4
    generalize w3.alloc (.cells #[.string (tx d.name), .int .i64 d.a, .int .i64 d.b, .int .i64 d.c, .string (tx d.tool), .slice q3 ln c3] 29) = w4 at *
    go_wp2_with fail
    refine (Hr.out w4 Hc4.out).mono ?_
    rintro e w5 ⟨hc5, v5, rfl, hv5⟩
    obtain ⟨s5, kb5, ko5, rfl, hs5⟩ := hv5
    have hs50 := hs5
    obtain ⟨⟨q5, c5, rfl, -, -, -⟩, -⟩ := hs5
    have hv5 : ∀ w', Chg NoB w5 w' → DrvV w' (NewB w4 w5) (.agg (drvC d (.slice q5 d.ins.length c5))) d := fun w' h => ⟨_, kb5, ko5, rfl, hs50.keep h fun _ _ => id⟩
    have Hv5 := Lib.hid hv5
    have hal6 := (Chg.refl NoB w5).alloc (.cells (drvC d (.slice q5 d.ins.length c5)) 29)
    have hb6 := heap_alloc_new w5 (.cells (drvC d (.slice q5 d.ins.length c5)) 29)
    have Hc6 := Lib.hid (Hc4.out.trans (hc5.trans hal6))
    have Hal46 := Lib.hid (Hal4.out.trans (hc5.trans hal6))
    have Hb46 := Lib.hid (row_kept (hc5.trans hal6) Hb4.out id)
    have Hal6 := Lib.hid hal6
    unfold drvC at *
    rw [← Hln.out] at Hv5 hb6 Hc6 Hal46 Hb46 Hal6 ⊢
    clear hc5 hal6 Hr hv5 hs50 Hb4
    go_upto_region 7 with fail
    obtain ⟨yb, hyb'⟩ : ∃ b, b = w5.heap.size := ⟨_, rfl⟩
    rw [← hyb'] at hb6 ⊢
    have Hb6 := Lib.hid hb6
    clear hyb' hb6
    generalize w5.alloc (.cells #[.string (tx d.name), .int .i64 d.a, .int .i64 d.b, .int .i64 d.c, .string (tx d.tool), .slice q5 ln c5] 29) = w6 at *
    have Hsm := Lib.hid (dsame_any d d Hwf.out Hwf.out _ _ _ _ w6 (Hv3.out w6 Hal46.out) (Hv5.out w6 Hal6.out) (by have := Hwf.out.len; omega))
    obtain ⟨f0, f1, f2, f3, f4, f5⟩ := var6 Hb46.out
    obtain ⟨g0, g1, g2, g3, g4, g5⟩ := var6 Hb6.out
    go_wp2_with fail
    refine Hsm.out.mono ?_
    rintro e w7 ⟨⟨cb, rfl, hcb⟩, hc7⟩
    obtain rfl : cb = true := hcb.2 rfl
    have Hc7 := Lib.hid (Hc6.out.trans hc7)
    have Hb47 := Lib.hid (row_kept hc7 Hb46.out id)
    have Hen := Lib.hid (dencode_any d Hwf.out _ _ W.heap.size w7 (Hlb.out.keep Hc7.out).lw (Hv3.out w7 (Hal46.out.trans hc7)))
    rw [Hen0.out] at Hen
    clear f0 f1 f2 f3 f4 f5 g0 g1 g2 g3 g4 g5 hcb hc7 Hsm
    obtain ⟨f0, f1, f2, f3, f4, f5⟩ := var6 Hb47.out
    go_wp2_with fail
    refine Hen.out.mono ?_
    rintro e w8 ⟨hc8, rfl⟩
    have Hc8 := Lib.hid (Hc7.out.trans hc8)
    have hself : ((tx s).toList == (tx s).toList) = true := by simp
    clear f0 f1 f2 f3 f4 f5 hc8 Hen
    go_wp2_with fail
    go_ret
    exact ⟨rfl, Hc8.out⟩
/-FRAME-/
set_option maxRecDepth 100000 in
theorem drvReads_lifted (os : Os) (started : os.Started) (H : Type) (enc : TypeId × Value → H) :
    ReturnsInHanded {} Tryz.checked os 3 .any (fun w args => (Rows.drvReadsSpec.pre enc Tryz.prog Tryz.f3 [] false w args ∧ laidMetH Tryz.prog Rows.drvReadsRow.laid w) ∧ sizedMet enc Tryz.prog Tryz.f3 (OpenSpec.ofChange Rows.drvReadsSpec) false w args)
      (Rows.drvReadsSpec.post enc Tryz.prog Tryz.f3 false true false false) := by
  refine returns_both (C := Tryz.checked) (X := fun w _ => laidMetH Tryz.prog Rows.drvReadsRow.laid w) (fun _ _ _ hh h => h.of_heap hh) Tryz.own started (by kernel_rfl) Tryz.func3
    (ChangeSpec.witness_shaped (enc := enc) (C := Tryz.checked) (os := os) (X := fun w _ => laidMetH Tryz.prog Rows.drvReadsRow.laid w) false (World.laidAll Tryz.prog os Rows.drvReadsRow.laid) #[.string ByteArray.empty] 8 (World.laidAll_os _ _ _)
      (World.shaped_of_ZipB (by kernel_rfl) (by kernel_rfl)) (by kernel_rfl) (by kernel_rfl) (by kernel_rfl)
      (by rw [MakeChecks.laidMetH_plain _ _ _ (by kernel_rfl)]; exact laidMet_laidAll _ (by kernel_rfl) (by kernel_rfl))) ?_
  intro W base args ds gs before hval0 hW _ hsz hL hsh _
  have hval : ∀ (j : Nat) t v, Tryz.f3.params[j]? = some t → args[j]? = some v → Value.okWide Tryz.prog W .any base t v := hval0
  have hW' := hW
  obtain ⟨p, q, hA0, hV, rfl, _, _⟩ := hW
  have hA : DataW.TrodAll enc Tryz.prog W 0 (fun _ => true) true Tryz.f3.params.toList args.toList ds p := hA0
  have hsz1 : (DataW.weightsEach Tryz.prog (Tryz.f3.params.toList ++ Rows.drvReadsSpec.plain.varTypes Tryz.prog) (ds ++ gs)).all (· ≤ reachBytes) = true := hsz
  rw [Tryz.params3] at hA hval hsz1
  obtain ⟨v0, d0, rfl, rfl, h0⟩ := trodAll_one hA
  obtain ⟨rfl, rfl⟩ := trodVars_none hV
  obtain ⟨x0, rfl, rfl, rfl, wx0⟩ := open_string Tryz.underlying9 (hval 0 9 v0 rfl rfl) h0
  simp only [List.append_nil] at hW'
  rw [MakeChecks.laidMetH_plain _ _ _ (by kernel_rfl)] at hL
  have hL' : laidMet Tryz.prog [("math/bits.deBruijn32tab", Rows.laid_math_bits_deBruijn32tab), ("math/bits.deBruijn64tab", Rows.laid_math_bits_deBruijn64tab), ("internal/strconv.uint64pow10", Rows.laid_internal_strconv_uint64pow10), ("unicode/utf8.acceptRanges", Rows.laid_unicode_utf8_acceptRanges), ("strconv.ErrRange", Rows.laid_strconv_ErrRange), ("strconv.ErrSyntax", Rows.laid_strconv_ErrSyntax), ("unicode/utf8.first", Rows.laid_unicode_utf8_first)] W := hL
  have hlb : Lb W.heap.size W := lb_of hL' hsh
  clear hA0 hval0
  refine (drvReads_all x0 W wx0 hlb).mono fun e W' ⟨he, hb⟩ => ?_
  subst he
  exact ⟨_, rfl, _, _, _, [], _, [], hW', trodAll_mk1 (shut_bool Tryz.underlying4 _), (trodAll_cons_mk (shut_string Tryz.underlying9 wx0) trodAll_mk0), rfl, hb.below.frame _, fun h => by cases h⟩
theorem drvReads_holds : Rows.DrvReadsSaid :=
  OpenClaim.holds_of_wide 3 Tryz.f3 rfl rfl rfl rfl rfl rfl rfl ⟨rfl, rfl, rfl, rfl, rfl⟩ rfl rfl rfl rfl rfl (by kernel_rfl) Tryz.func3 (by kernel_rfl)
    (of_decide_eq_true (by kernel_rfl)) (by unfold Func.isWrapper; first | (rw [if_pos (by decide +kernel)]; kernel_rfl) | (rw [if_neg (by decide +kernel)]; exact ⟨rfl, rfl⟩))
    (fun os started H enc _ => drvReads_lifted os started H enc)
theorem drvReads_card : Rows.DrvReadsCardSaid :=
  Claim7.holds_tied_plain_at .later [] [.data, .data, .data, .data, .sentinel, .sentinel, .pinned] true (true, "08ef2b7694537ee4fcbdafa510d4035e9a80e2b02cedf9d1b6dfea58bc1a2bf6") true drvReads_holds (fun _ h => by cases h) (by kernel_rfl) (fun _ h => by cases h) drvReads_row_tie rfl ⟨rfl, rfl⟩ (by kernel_rfl) rfl
    (fun f fn hf hfn => by
      obtain rfl : f = 3 := Option.some.inj ((show Tryz.prog.funcNamed "sapling/saplinglaw18.DrvReads" = some 3 by kernel_rfl).symm.trans hf) |>.symm
      obtain rfl : fn = Tryz.f3 := (Option.some.inj (Tryz.func3.symm.trans hfn)).symm
      exact ⟨by kernel_rfl, fun j t ht => by
        rw [Tryz.params3] at ht
        have hm : t ∈ [9] := by simpa using Array.mem_of_getElem? ht
        have hall : ([9].all fun u => !Tryz.prog.wantsStandIn u) = true := by kernel_rfl
        exact (show Tryz.prog.wantsStandIn t = false by simpa using List.all_eq_true.1 hall t hm)⟩)
    (by kernel_rfl)
#print axioms drvReads_card
end Go.Proofs.YtnipiphhkcafhaaGreatDoor
