/- RecipeParses: the program's Parse and the document's answer alike, of any text. Condition: the keywords read as listed. -/
import Derived.Test.YtdgcpgbknfojhaaDoorRcAlive
import Derived.Test.YtdgcpgbknfojhaaDoorRcRParse
import Derived.Test.YtdgcpgbknfojhaaDoorRcSameR
import Derived.Test.YtdgcpgbknfojhaaDoorRcGoodM
import Derived.Test.YtdgcpgbknfojhaaDoorRcOpen
import Derived.Test.YtdgcpgbknfojhaaDoorCards
import Derived.Test.YtdgcpgbknfojhaaDoorTie
import Derived.ChangeMaps


namespace Go.Proofs.YtdgcpgbknfojhaaDoor
set_option linter.unusedVariables false
open Go.ChangeShapes Go.WideShapes Go.ChangeAt Go.RowKit
open Go.ChangeMaps (open_string shut_string)
theorem smallE_of {x : ExL} (h : goodE x = true) : SmallE x := by
  unfold goodE at h
  rw [Bool.and_eq_true, decide_eq_true_eq] at h
  unfold SmallE
  omega
theorem smallR_of {r : RcpL} (h : goodR r = true) : SmallR r := by
  obtain ⟨h1, h2, h3, h4⟩ := goodR_parts h
  refine ⟨smallE_of h2, smallE_of h3, fun f hf => ?_, by omega⟩
  obtain ⟨_, a, b⟩ := goodFl_parts (List.all_eq_true.1 h4 f hf)
  exact ⟨smallE_of a, smallE_of b⟩
theorem small_parse (s : List UInt8) : SmallR (resF (parseF s)).1 := by
  cases h : parseF s with
  | ok r => exact smallR_of (parse_good h).1
  | error x =>
    have hz : (resF (.error x)).1 = zeroR := rfl
    rw [hz]
    exact ⟨by unfold SmallE; decide, by unfold SmallE; decide, (fun f hf => by cases hf), by decide⟩
set_option maxHeartbeats 4000000 in
set_option maxRecDepth 20000 in
theorem recipeParses_all (a0 : ByteArray) (W : World) (wa : a0.size ≤ maxLen) (hk : Kw W.heap.size W) : Calls Tryd.prog 4 #[.string a0] W (SayB true W) := by
  obtain ⟨t, rfl⟩ : ∃ t, a0 = tx t := ⟨_, (tx_back a0).symm⟩
  have hzt : (tx t).size = t.length := tx_size t
  have HAL := Lib.hid (alive_any W.heap.size W hk)
  have HP := Lib.hid (fun w (h : Chg NoB W w) => parse_any t W.heap.size w (hk.keep h))
  have HR := Lib.hid (fun w => rparse_any t w)
  have Hsm := Lib.hid (small_parse t)
  generalize resF (parseF t) = X at *
  obtain ⟨r, a, e⟩ := X
  clear hk wa
  go_enter Tryd.func4, Tryd.ntmps4
  go_wp2_with fail
  refine HAL.out.mono ?_
  rintro e2 w2 ⟨rfl, hc2⟩
  have Hc2 := Lib.hid hc2
  clear hc2 HAL
  by_cases h1 : (8192 : Int) < (t.length : Int)
  · go_wp2_with fail
    go_ret
    exact ⟨rfl, Hc2.out⟩
  · have HP2 := Lib.hid (HP.out _ Hc2.out)
    clear HP
    go_wp2_with fail
    refine HP2.out.mono ?_
    rintro e3 w3 ⟨hc3, v, rfl, hv⟩
    have Hc3 := Lib.hid (Hc2.out.trans hc3)
    have hV := hv
    obtain ⟨d, h, f, kb, ko, kb2, ko2, fb, fo, rfl, ⟨hl1, hs1⟩, ⟨hl2, hs2⟩, hf⟩ := hv
    obtain ⟨qd, cd, rfl, -⟩ := hs1.sh
    obtain ⟨qh, ch, rfl, -⟩ := hs2.sh
    obtain ⟨qf, cf, rfl, -⟩ := hf.sh
    have hal_ := (Chg.refl NoB w3).alloc (.cells #[.int .i64 r.name.kind, .string (tx r.name.s), .slice qd r.name.kids.length cd, .int .i64 r.version.kind, .string (tx r.version.s), .slice qh r.version.kids.length ch, .slice qf r.fields.length cf] 29)
    have hb_ := heap_alloc_new w3 (.cells #[.int .i64 r.name.kind, .string (tx r.name.s), .slice qd r.name.kids.length cd, .int .i64 r.version.kind, .string (tx r.version.s), .slice qh r.version.kids.length ch, .slice qf r.fields.length cf] 29)
    obtain ⟨b3, hxb_⟩ : ∃ b, b = w3.heap.size := ⟨_, rfl⟩
    obtain ⟨w4, hw_⟩ : ∃ w_, w3.alloc (.cells #[.int .i64 r.name.kind, .string (tx r.name.s), .slice qd r.name.kids.length cd, .int .i64 r.version.kind, .string (tx r.version.s), .slice qh r.version.kids.length ch, .slice qf r.fields.length cf] 29) = w_ := ⟨_, rfl⟩
    have hz_ : w4.heap.size = b3 + 1 := by rw [← hw_, hxb_]; exact alloc_size _ _
    rw [hw_] at hal_ hb_
    rw [← hxb_] at hb_
    have Hw3 := Lib.hid hw_
    have Hx3 := Lib.hid hxb_
    have Ha3 := Lib.hid hal_
    have Hb3 := Lib.hid hb_
    have Hz3 := Lib.hid hz_
    clear hal_ hb_ hxb_ hw_ hz_
    have HV := Lib.hid (hV.keep Ha3.out fun _ _ => id)
    clear hc3 hV hs1 hs2 hf HP2
    go_upto_region 6 with fail
    rw [Hw3.out, ← Hx3.out]
    have HR4 := Lib.hid (HR.out w4)
    go_wp2_with fail
    refine HR4.out.mono ?_
    rintro e5 w5 ⟨hc5, u, rfl, hu⟩
    have Hc5 := Lib.hid ((Hc3.out.trans Ha3.out).trans hc5)
    have hU := hu
    obtain ⟨d', h', f', kb', ko', kb2', ko2', fb', fo', rfl, ⟨hl1', hs1'⟩, ⟨hl2', hs2'⟩, hf'⟩ := hu
    obtain ⟨qd', cd', rfl, -⟩ := hs1'.sh
    obtain ⟨qh', ch', rfl, -⟩ := hs2'.sh
    obtain ⟨qf', cf', rfl, -⟩ := hf'.sh
    have hal_ := (Chg.refl NoB w5).alloc (.cells #[.int .i64 r.name.kind, .string (tx r.name.s), .slice qd' r.name.kids.length cd', .int .i64 r.version.kind, .string (tx r.version.s), .slice qh' r.version.kids.length ch', .slice qf' r.fields.length cf'] 29)
    have hb_ := heap_alloc_new w5 (.cells #[.int .i64 r.name.kind, .string (tx r.name.s), .slice qd' r.name.kids.length cd', .int .i64 r.version.kind, .string (tx r.version.s), .slice qh' r.version.kids.length ch', .slice qf' r.fields.length cf'] 29)
    obtain ⟨b6, hxb_⟩ : ∃ b, b = w5.heap.size := ⟨_, rfl⟩
    obtain ⟨w6, hw_⟩ : ∃ w_, w5.alloc (.cells #[.int .i64 r.name.kind, .string (tx r.name.s), .slice qd' r.name.kids.length cd', .int .i64 r.version.kind, .string (tx r.version.s), .slice qh' r.version.kids.length ch', .slice qf' r.fields.length cf'] 29) = w_ := ⟨_, rfl⟩
    have hz_ : w6.heap.size = b6 + 1 := by rw [← hw_, hxb_]; exact alloc_size _ _
    rw [hw_] at hal_ hb_
    rw [← hxb_] at hb_
    have Hw6 := Lib.hid hw_
    have Hx6 := Lib.hid hxb_
    have Ha6 := Lib.hid hal_
    have Hb6 := Lib.hid hb_
    have Hz6 := Lib.hid hz_
    clear hal_ hb_ hxb_ hw_ hz_
    have HS := Lib.hid (sameR_any Hsm.out ((HV.out.keep hc5 fun _ _ => id).keep Ha6.out fun _ _ => id) (hU.keep Ha6.out fun _ _ => id))
    have hsame : sameR r r = true := (sameR_iff r r).2 rfl
    rw [hsame] at HS
    have hb36 := row_kept Ha6.out (row_kept hc5 Hb3.out id) id
    obtain ⟨v0, v1, v2, v3, v4, v5, v6⟩ := var7 hb36
    obtain ⟨u0, u1, u2, u3, u4, u5, u6⟩ := var7 Hb6.out
    have Hc6 := Lib.hid (Hc5.out.trans Ha6.out)
    clear hc5 hU hs1' hs2' hf' HR4 HR HV hsame hb36
    go_upto_region 7 with fail
    rw [Hw6.out, ← Hx6.out]
    go_wp2_with fail
    refine HS.out.mono ?_
    rintro e7 w7 ⟨rfl, hc7⟩
    have Hc7 := Lib.hid (Hc6.out.trans hc7)
    clear hc7
    go_wp2_with fail
    go_ret
    exact ⟨rfl, Hc7.out⟩
/-FRAME-/
set_option maxRecDepth 100000 in
theorem recipeParses_lifted (os : Os) (started : os.Started) (H : Type) (enc : TypeId × Value → H) :
    ReturnsInHanded {} Tryd.checked os 4 .any (fun w args => (Rows.recipeParsesSpec.pre enc Tryd.prog Tryd.f4 [] false w args ∧ laidMetH Tryd.prog Rows.recipeParsesRow.laid w) ∧ sizedMet enc Tryd.prog Tryd.f4 (OpenSpec.ofChange Rows.recipeParsesSpec) false w args)
      (Rows.recipeParsesSpec.post enc Tryd.prog Tryd.f4 false true false false) := by
  refine returns_both (C := Tryd.checked) (X := fun w _ => laidMetH Tryd.prog Rows.recipeParsesRow.laid w) (fun _ _ _ hh h => h.of_heap hh) Tryd.own started (by kernel_rfl) Tryd.func4
    (ChangeSpec.witness_shaped (enc := enc) (C := Tryd.checked) (os := os) (X := fun w _ => laidMetH Tryd.prog Rows.recipeParsesRow.laid w) false (World.laidAll Tryd.prog os Rows.recipeParsesRow.laid) #[.string ByteArray.empty] 8 (World.laidAll_os _ _ _)
      (World.shaped_of_ZipB (by kernel_rfl) (by kernel_rfl)) (by kernel_rfl) (by kernel_rfl) (by kernel_rfl)
      (by rw [MakeChecks.laidMetH_plain _ _ _ (by kernel_rfl)]; exact laidMet_laidAll _ (by kernel_rfl) (by kernel_rfl))) ?_
  intro W base args ds gs before hval0 hW _ hsz hL hsh _
  have hval : ∀ (j : Nat) t v, Tryd.f4.params[j]? = some t → args[j]? = some v → Value.okWide Tryd.prog W .any base t v := hval0
  have hW' := hW
  obtain ⟨p, q, hA0, hV, rfl, _, _⟩ := hW
  have hA : DataW.TrodAll enc Tryd.prog W 0 (fun _ => true) true Tryd.f4.params.toList args.toList ds p := hA0
  have hsz1 : (DataW.weightsEach Tryd.prog (Tryd.f4.params.toList ++ Rows.recipeParsesSpec.plain.varTypes Tryd.prog) (ds ++ gs)).all (· ≤ reachBytes) = true := hsz
  rw [Tryd.params4] at hA hval hsz1
  obtain ⟨v0, d0, rfl, rfl, h0⟩ := trodAll_one hA
  obtain ⟨rfl, rfl⟩ := trodVars_none hV
  obtain ⟨x0, rfl, rfl, rfl, wx0⟩ := open_string Tryd.underlying9 (hval 0 9 v0 rfl rfl) h0
  simp only [List.append_nil] at hW'
  rw [MakeChecks.laidMetH_plain _ _ _ (by kernel_rfl)] at hL
  have hk := kw_of hL (by simp [Rows.recipeParsesRow]) hsh
  clear hA0 hval0
  refine (recipeParses_all x0 W wx0 hk).mono fun e W' ⟨he, hb⟩ => ?_
  subst he
  exact ⟨_, rfl, _, _, _, [], _, [], hW', trodAll_mk1 (shut_bool Tryd.underlying4 _), (trodAll_cons_mk (shut_string Tryd.underlying9 wx0) trodAll_mk0), rfl, hb.below.frame _, fun h => by cases h⟩
theorem recipeParses_holds : Rows.RecipeParsesSaid :=
  OpenClaim.holds_of_wide 4 Tryd.f4 rfl rfl rfl rfl rfl rfl rfl ⟨rfl, rfl, rfl, rfl, rfl⟩ rfl rfl rfl rfl rfl (by kernel_rfl) Tryd.func4 (by kernel_rfl)
    (of_decide_eq_true (by kernel_rfl)) (by unfold Func.isWrapper; first | (rw [if_pos (by decide +kernel)]; kernel_rfl) | (rw [if_neg (by decide +kernel)]; exact ⟨rfl, rfl⟩))
    (fun os started H enc _ => recipeParses_lifted os started H enc)
theorem recipeParses_card : Rows.RecipeParsesCardSaid :=
  Claim7.holds_tied_plain_at .later [] [.data, .widerDeep, .pinned] true (true, "84dcae1c79bcd0c5d1b5619793b6401619c3e41100eef341743cfb2d3a165d15") true recipeParses_holds (fun _ h => by cases h) (by kernel_rfl) (fun _ h => by cases h) recipeParses_row_tie rfl ⟨rfl, rfl⟩ (by kernel_rfl) rfl
    (fun f fn hf hfn => by
      obtain rfl : f = 4 := Option.some.inj ((show Tryd.prog.funcNamed "sapling/saplinglaw12.RecipeParses" = some 4 by kernel_rfl).symm.trans hf) |>.symm
      obtain rfl : fn = Tryd.f4 := (Option.some.inj (Tryd.func4.symm.trans hfn)).symm
      exact ⟨by kernel_rfl, fun j t ht => by
        rw [Tryd.params4] at ht
        have hm : t ∈ [9] := by simpa using Array.mem_of_getElem? ht
        have hall : ([9].all fun u => !Tryd.prog.wantsStandIn u) = true := by kernel_rfl
        exact (show Tryd.prog.wantsStandIn t = false by simpa using List.all_eq_true.1 hall t hm)⟩)
    (by kernel_rfl)
#print axioms recipeParses_card
end Go.Proofs.YtdgcpgbknfojhaaDoor
