/- Proved: the statement VersionTexts holds for every array of three numbers and every text. Conditions: the listed package variables read as the program's text lays them (the card ties them); nothing else. -/
import Derived.Test.YtfcanopbgikmcaaDoorFrame
import Derived.Test.YtfcanopbgikmcaaDoorWalkM
import Derived.Test.YtfcanopbgikmcaaDoorCards
import Derived.Test.YtfcanopbgikmcaaDoorTie
import Derived.Stop.LaidErr
namespace Go.Proofs.YtfcanopbgikmcaaDoor
open Go.ChangeShapes Go.WideShapes Go.ChangeAt Go.RowKit
set_option linter.unusedVariables false
open Go.Sort
open Go.ChangeMaps (open_string shut_string)
theorem star_es : "*" ++ "errors.errorString" = "*errors.errorString" := by decide
theorem row_es (u : TypeId) (h : Tryd.prog.typeName? 3 u = some "*errors.errorString") : u = 96 :=
  typeName_ptr_named (nm := "errors.errorString") (by rw [star_es]; kernel_rfl) (by kernel_rfl) (by decide) u (by rw [star_es]; exact h)
theorem er_of {r : List (String × DataW Unit)} {W : World} (h : laidMet Tryd.prog (("strconv.ErrSyntax", Rows.laid_strconv_ErrSyntax) :: r) W) : Er W := by
  obtain ⟨a, s, hv, _⟩ := laid_sentinel h gSyn (ti := 49) (by kernel_rfl) Tryd.underlying49 row_es Tryd.underlying96 Tryd.underlying98 rfl rfl Tryd.underlying9 (by kernel_rfl) (by kernel_rfl)
  exact ⟨_, _, hv⟩
theorem texts_long (m : Int) (a b c : Int) (s : ByteArray) (w : World) (hm : w.cell? ⟨1, 0, none⟩ = some (.int .i64 m)) (hl : (1024 : Int) < (s.size : Int)) :
    Calls Tryd.prog 3 #[.agg #[.int .i64 a, .int .i64 b, .int .i64 c], .string s] w fun e w' => e = .returned (.bool true) ∧ Gr w w' := by
  have Hm := Lib.hid hm
  clear hm
  go_enter Tryd.func3, Tryd.ntmps3
  go_wp2_with fail
  refine (alive_any m _ (((Gr.refl w).alloc _ _).keep Hm.out)).mono ?_
  rintro e w1 ⟨rfl, g1⟩
  go_wp2_with fail
  go_ret
  exact ⟨rfl, grown_trans ((Gr.refl w).alloc _ _) g1⟩
theorem dot_size (a b c : Int) (ha : 0 ≤ a ∧ a ≤ 999) (hb : 0 ≤ b ∧ b ≤ 999) (hc : 0 ≤ c ∧ c ≤ 999) : (dot (it a) (it b) (it c)).size ≤ 65536 := by
  have l0 : (it a).size ≤ 21 := Lib.itoa_length_le a (by omega) (by omega)
  have l1 : (it b).size ≤ 21 := Lib.itoa_length_le b (by omega) (by omega)
  have l2 : (it c).size ≤ 21 := Lib.itoa_length_le c (by omega) (by omega)
  have e1 : (⟨#[46]⟩ : ByteArray).size = 1 := rfl
  unfold dot
  simp only [ByteArray.size_append, e1]
  omega
theorem texts_any (m : Int) (a b c : Int) (s : ByteArray) (w : World) (hm : w.cell? ⟨1, 0, none⟩ = some (.int .i64 m)) (he : Er w) (ht : Tb w) :
    Calls Tryd.prog 3 #[.agg #[.int .i64 a, .int .i64 b, .int .i64 c], .string s] w fun e w' => e = .returned (.bool true) ∧ Gr w w' := by
  by_cases hl : (s.size : Int) ≤ 1024
  · have hs : s.size ≤ 65536 := by omega
    have hS := fun w hm he ht => parse_any m s w hm he ht hs
    have hR := fun w => parseR_any s w hs
    cases hv : verL s.data.toList with
    | none =>
      rw [hv] at hS hR
      cases hg : goodB a b c with
      | true =>
        obtain ⟨g1, g2, g3, g4, g5, g6⟩ := good_iff.1 hg
        refine texts_yn m a b c 0 0 0 s (dot (it a) (it b) (it c)) w hm he ht hl (fun w t => text_good a b c w t hg) (fun w t => textR_good a b c w t hg) (fun w => by rw [← hg]; exact good_any a b c w) (fun w => by rw [← hg]; exact goodR_any a b c w) (fun w hm he ht => ?_) hS hR
        have := parse_any m (dot (it a) (it b) (it c)) w hm he ht (dot_size a b c ⟨g1, g2⟩ ⟨g3, g4⟩ ⟨g5, g6⟩)
        obtain ⟨a, rfl⟩ := Int.eq_ofNat_of_zero_le g1
        obtain ⟨b, rfl⟩ := Int.eq_ofNat_of_zero_le g3
        obtain ⟨c, rfl⟩ := Int.eq_ofNat_of_zero_le g5
        rw [dot_list, verL_dot (by omega) (by omega) (by omega)] at this
        exact this
      | false =>
        exact texts_nn m a b c 0 0 0 s ⟨#[]⟩ w hm he ht hl (fun w _ => text_bad a b c w hg) (fun w _ => textR_bad a b c w hg) (fun w => by rw [← hg]; exact good_any a b c w) (fun w => by rw [← hg]; exact goodR_any a b c w) (fun w hm he ht => parse_any m ⟨#[]⟩ w hm he ht (by decide)) hS hR
    | some v =>
      obtain ⟨x, y, z⟩ := v
      rw [hv] at hS hR
      obtain ⟨e1, hx, hy, hz⟩ := verL_text hv
      have hsd : dot (it x) (it y) (it z) = s := by
        apply ByteArray.ext; apply Array.ext'; rw [dot_list, e1]
      have k8 : ∀ w, Tb w → Calls Tryd.prog 8 #[.agg #[.int .i64 x, .int .i64 y, .int .i64 z]] w fun e w' => e = .returned (.string s) ∧ Gr w w' := fun w t => by
        have := text_good x y z w t (good_yes (by omega))
        rwa [hsd] at this
      cases hg : goodB a b c with
      | true =>
        obtain ⟨g1, g2, g3, g4, g5, g6⟩ := good_iff.1 hg
        refine texts_yy m a b c x y z s (dot (it a) (it b) (it c)) w hm he ht hl (fun w t => text_good a b c w t hg) (fun w t => textR_good a b c w t hg) (fun w => by rw [← hg]; exact good_any a b c w) (fun w => by rw [← hg]; exact goodR_any a b c w) (fun w hm he ht => ?_) hS hR k8
        have := parse_any m (dot (it a) (it b) (it c)) w hm he ht (dot_size a b c ⟨g1, g2⟩ ⟨g3, g4⟩ ⟨g5, g6⟩)
        obtain ⟨a, rfl⟩ := Int.eq_ofNat_of_zero_le g1
        obtain ⟨b, rfl⟩ := Int.eq_ofNat_of_zero_le g3
        obtain ⟨c, rfl⟩ := Int.eq_ofNat_of_zero_le g5
        rw [dot_list, verL_dot (by omega) (by omega) (by omega)] at this
        exact this
      | false =>
        exact texts_ny m a b c x y z s ⟨#[]⟩ w hm he ht hl (fun w _ => text_bad a b c w hg) (fun w _ => textR_bad a b c w hg) (fun w => by rw [← hg]; exact good_any a b c w) (fun w => by rw [← hg]; exact goodR_any a b c w) (fun w hm he ht => parse_any m ⟨#[]⟩ w hm he ht (by decide)) hS hR k8
  · exact texts_long m a b c s w hm (by omega)
set_option maxRecDepth 100000 in
theorem texts_lifted (os : Os) (started : os.Started) (H : Type) (enc : TypeId × Value → H) :
    ReturnsInHanded {} Tryd.checked os 3 .any (fun w args => (Rows.versionTextsSpec.pre enc Tryd.prog Tryd.f3 [] false w args ∧ laidMetH Tryd.prog Rows.versionTextsRow.laid w) ∧ sizedMet enc Tryd.prog Tryd.f3 (OpenSpec.ofChange Rows.versionTextsSpec) false w args)
      (Rows.versionTextsSpec.post enc Tryd.prog Tryd.f3 false true false false) := by
  refine returns_both (C := Tryd.checked) (X := fun w _ => laidMetH Tryd.prog Rows.versionTextsRow.laid w) (fun _ _ _ hh h => h.of_heap hh) Tryd.own started (by kernel_rfl) Tryd.func3
    (ChangeSpec.witness_shaped (enc := enc) (C := Tryd.checked) (os := os) (X := fun w _ => laidMetH Tryd.prog Rows.versionTextsRow.laid w) false (World.laidAll Tryd.prog os Rows.versionTextsRow.laid) #[.agg #[.int .i64 0, .int .i64 0, .int .i64 0], .string ByteArray.empty] 8 (World.laidAll_os _ _ _)
      (World.shaped_of_ZipB (by kernel_rfl) (by kernel_rfl)) (by kernel_rfl) (by kernel_rfl) (by kernel_rfl)
      (by rw [MakeChecks.laidMetH_plain _ _ _ (by kernel_rfl)]; exact laidMet_laidAll _ (by kernel_rfl) (by kernel_rfl))) ?_
  intro W base args ds gs before hval0 hW _ _ hL hsh _
  have hval : ∀ (j : Nat) t v, Tryd.f3.params[j]? = some t → args[j]? = some v → Value.okWide Tryd.prog W .any base t v := hval0
  have hW' := hW
  obtain ⟨p, q, hA0, hV, rfl, _, _⟩ := hW
  have hA : DataW.TrodAll enc Tryd.prog W 0 (fun _ => true) true Tryd.f3.params.toList args.toList ds p := hA0
  rw [Tryd.params3] at hA hval
  obtain ⟨v0, v1, d0, d1, p0, p1, rfl, rfl, rfl, h0, h1⟩ := trodAll_two hA
  obtain ⟨rfl, rfl⟩ := trodVars_none hV
  obtain ⟨a, b, c, rfl, rfl, wa, wb, wc, h0'⟩ := open_three (hval 0 23 v0 rfl rfl) h0
  obtain ⟨x, rfl, rfl, rfl, wx⟩ := open_string Tryd.underlying9 (hval 1 9 v1 rfl rfl) h1
  simp only [List.append_nil] at hW'
  obtain ⟨m, hm⟩ := maxLen W hsh
  rw [MakeChecks.laidMetH_plain _ _ _ (by kernel_rfl)] at hL
  have ht : Tb W := tb_of hL (.tail _ (.tail _ (.head _)))
  have he : Er W := er_of hL.tail.tail.tail.tail.tail
  clear hA0 hval0
  refine (texts_any m a b c x W hm he ht).mono fun e W' ⟨he, hb⟩ => ?_
  subst he
  exact ⟨_, rfl, _, _, _, [], [], [], hW', trodAll_mk1 (shut_bool Tryd.underlying4 _), trodAll_mk2 (h0' _ _) (shut_string Tryd.underlying9 wx), rfl, hb.frame _, fun h => by cases h⟩
theorem texts_holds : Rows.VersionTextsSaid :=
  OpenClaim.holds_of_wide 3 Tryd.f3 rfl rfl rfl rfl rfl rfl rfl ⟨rfl, rfl, rfl, rfl, rfl⟩ rfl rfl rfl rfl rfl (by kernel_rfl) Tryd.func3 (by kernel_rfl)
    (of_decide_eq_true (by kernel_rfl)) (by unfold Func.isWrapper; first | (rw [if_pos (by decide +kernel)]; kernel_rfl) | (rw [if_neg (by decide +kernel)]; exact ⟨rfl, rfl⟩))
    (fun os started H enc _ => texts_lifted os started H enc)
theorem texts_card : Rows.VersionTextsCardSaid :=
  Claim7.holds_tied_plain_at .later [] [.data, .data, .data, .data, .sentinel, .sentinel, .pinned] true (true, "702362ee254ecb3e7ca066136635e167c6ef886c855adaeb92b1a21272733413") true texts_holds (fun _ h => by cases h) (by kernel_rfl) (fun _ h => by cases h) versionTexts_row_tie rfl ⟨rfl, rfl⟩ (by kernel_rfl) rfl
    (fun f fn hf hfn => by
      obtain rfl : f = 3 := Option.some.inj ((show Tryd.prog.funcNamed "sapling/saplinglaw06.VersionTexts" = some 3 by kernel_rfl).symm.trans hf) |>.symm
      obtain rfl : fn = Tryd.f3 := (Option.some.inj (Tryd.func3.symm.trans hfn)).symm
      exact ⟨by kernel_rfl, fun j t ht => by
        rw [Tryd.params3] at ht
        have hm : t ∈ [23, 9] := by simpa using Array.mem_of_getElem? ht
        have hall : ([23, 9].all fun u => !Tryd.prog.wantsStandIn u) = true := by kernel_rfl
        exact (show Tryd.prog.wantsStandIn t = false by simpa using List.all_eq_true.1 hall t hm)⟩)
    (by kernel_rfl)
#print axioms texts_card
end Go.Proofs.YtfcanopbgikmcaaDoor
