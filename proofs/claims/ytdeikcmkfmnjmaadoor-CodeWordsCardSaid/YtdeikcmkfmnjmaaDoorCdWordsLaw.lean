/- Proved: the statement CodeWords holds for every number and text. Conditions: the listed package variables read as the program's text lays them (the card ties them); nothing else. -/
import Derived.Test.YtdeikcmkfmnjmaaDoorCdAlive
import Derived.Test.YtdeikcmkfmnjmaaDoorCdFrame
namespace Go.Proofs.YtdeikcmkfmnjmaaDoor
open Go.ChangeShapes Go.WideShapes Go.ChangeAt Go.RowKit
set_option linter.unusedVariables false
open Go.ChangeMaps (open_string shut_string)
set_option maxHeartbeats 1000000 in
set_option maxRecDepth 20000 in
theorem codeWords_all (op : Int) (x : ByteArray) (W : World) (wop : (Lit.int .i64 op).wf = true) (wx : x.size ≤ maxLen) (hev : Ev W.heap.size W) :
    Calls Tryd.prog 3 #[.int .i64 op, .string x] W fun e w' => e = .returned (.bool true) ∧ Chg NoB W w' := by
  obtain ⟨s, rfl⟩ : ∃ s, x = tx s := ⟨_, (tx_back x).symm⟩
  have hss : (tx s).size = s.length := tx_size s
  have hwf := bounds_i64 wop
  have Hev := Lib.hid hev
  have Hal := Lib.hid (alive_any _ W hev)
  clear hev wop wx
  by_cases hlong : 1024 < s.length
  · go_enter Tryd.func3, Tryd.ntmps3
    go_wp2_with fail
    refine Hal.out.mono ?_
    rintro e w2 ⟨rfl, hc2⟩
    go_wp2_with fail
    go_ret
    exact ⟨rfl, hc2⟩
  · have hself : ((tx (wordL op)).toList == (tx (wordL op)).toList) = true := by simp
    go_enter Tryd.func3, Tryd.ntmps3
    go_wp2_with fail
    refine Hal.out.mono ?_
    rintro e w2 ⟨rfl, hc2⟩
    have Hc2 := Lib.hid hc2
    have Hw := Lib.hid (word_any op _ w2 (Hev.out.keep hc2).wd)
    clear hc2 Hal
    go_wp2_with fail
    refine Hw.out.mono ?_
    rintro e w3 ⟨rfl, hc3⟩
    have Hc3 := Lib.hid (Hc2.out.trans hc3)
    have Hrw := Lib.hid (refWord_any op hwf.1 hwf.2 w3)
    clear hc3 Hw
    go_wp2_with fail
    refine Hrw.out.mono ?_
    rintro e w4 ⟨rfl, hc4⟩
    have Hc4 := Lib.hid (Hc3.out.trans hc4)
    have Ho := Lib.hid (op_any s _ w4 (Hev.out.keep Hc4.out).wd)
    clear hc4 Hrw
    go_wp2_with fail
    refine Ho.out.mono ?_
    rintro e w5 ⟨rfl, hc5⟩
    have Hc5 := Lib.hid (Hc4.out.trans hc5)
    have Hro := Lib.hid (refOp_any s w5)
    clear hc5 Ho
    go_wp2_with fail
    refine Hro.out.mono ?_
    rintro e w6 ⟨rfl, hc6⟩
    have Hc6 := Lib.hid (Hc5.out.trans hc6)
    have Ht := Lib.hid (takes_any op w6)
    clear hc6 Hro
    go_wp2_with fail
    refine Ht.out.mono ?_
    rintro e w7 ⟨rfl, hc7⟩
    have Hc7 := Lib.hid (Hc6.out.trans hc7)
    have Hrt := Lib.hid (refTakes_any op hwf.1 hwf.2 w7)
    clear hc7 Ht
    go_wp2_with fail
    refine Hrt.out.mono ?_
    rintro e w8 ⟨rfl, hc8⟩
    have Hc8 := Lib.hid (Hc7.out.trans hc8)
    clear hc8 Hrt
    by_cases hw0 : wordL op = []
    · rw [hw0]
      unfold tx
      go_wp2_with fail
      go_ret
      exact ⟨rfl, Hc8.out⟩
    · have hwb : ((tx (wordL op)).toList == []) = false := by rw [Lib.toList_data, tx_list, beq_eq_false_iff_ne]; exact hw0
      have hop : 1 ≤ op ∧ op < 31 := Classical.byContradiction fun h => hw0 ((wordL_nil op).2 h)
      have hoe := opF_wordL op (by omega)
      have hob : ((opF (wordL op) : Int) == op) = true := by rw [beq_iff_eq]; exact hoe
      have Ho := Lib.hid (op_any (wordL op) _ w8 (Hev.out.keep Hc8.out).wd)
      rw [hoe] at Ho
      clear hob hoe hop hw0
      go_wp2_with fail
      refine Ho.out.mono ?_
      rintro e w9 ⟨rfl, hc9⟩
      go_wp2_with fail
      go_ret
      exact ⟨rfl, Hc8.out.trans hc9⟩
/-FRAME-/
set_option maxRecDepth 100000 in
theorem codeWords_lifted (os : Os) (started : os.Started) (H : Type) (enc : TypeId × Value → H) :
    ReturnsInHanded {} Tryd.checked os 3 .any (fun w args => (Rows.codeWordsSpec.pre enc Tryd.prog Tryd.f3 [] false w args ∧ laidMetH Tryd.prog Rows.codeWordsRow.laid w) ∧ sizedMet enc Tryd.prog Tryd.f3 (OpenSpec.ofChange Rows.codeWordsSpec) false w args)
      (Rows.codeWordsSpec.post enc Tryd.prog Tryd.f3 false true false false) := by
  refine returns_both (C := Tryd.checked) (X := fun w _ => laidMetH Tryd.prog Rows.codeWordsRow.laid w) (fun _ _ _ hh h => h.of_heap hh) Tryd.own started (by kernel_rfl) Tryd.func3
    (ChangeSpec.witness_shaped (enc := enc) (C := Tryd.checked) (os := os) (X := fun w _ => laidMetH Tryd.prog Rows.codeWordsRow.laid w) false (World.laidAll Tryd.prog os Rows.codeWordsRow.laid) #[.int .i64 0, .string ByteArray.empty] 8 (World.laidAll_os _ _ _)
      (World.shaped_of_ZipB (by kernel_rfl) (by kernel_rfl)) (by kernel_rfl) (by kernel_rfl) (by kernel_rfl)
      (by rw [MakeChecks.laidMetH_plain _ _ _ (by kernel_rfl)]; exact laidMet_laidAll _ (by kernel_rfl) (by kernel_rfl))) ?_
  intro W base args ds gs before hval0 hW _ hsz hL hsh _
  have hval : ∀ (j : Nat) t v, Tryd.f3.params[j]? = some t → args[j]? = some v → Value.okWide Tryd.prog W .any base t v := hval0
  have hW' := hW
  obtain ⟨p, q, hA0, hV, rfl, _, _⟩ := hW
  have hA : DataW.TrodAll enc Tryd.prog W 0 (fun _ => true) true Tryd.f3.params.toList args.toList ds p := hA0
  rw [Tryd.params3] at hA hval
  obtain ⟨v0, v1, d0, d1, p0, p1, rfl, rfl, rfl, h0, h1⟩ := trodAll_two hA
  obtain ⟨rfl, rfl⟩ := trodVars_none hV
  obtain ⟨x0, rfl, rfl, rfl, wx0⟩ := open_int Tryd.underlying3 (hval 0 3 v0 rfl rfl) h0
  obtain ⟨x1, rfl, rfl, rfl, wx1⟩ := open_string Tryd.underlying9 (hval 1 9 v1 rfl rfl) h1
  simp only [List.append_nil] at hW'
  rw [MakeChecks.laidMetH_plain _ _ _ (by kernel_rfl)] at hL
  have hL' : laidMet Tryd.prog [("math/bits.deBruijn32tab", Rows.laid_math_bits_deBruijn32tab), ("math/bits.deBruijn64tab", Rows.laid_math_bits_deBruijn64tab), ("internal/strconv.uint64pow10", Rows.laid_internal_strconv_uint64pow10), ("sapling/code.words", Rows.laid_sapling_code_words)] W := hL
  have hlb : Ev W.heap.size W := ev_of hL' (.tail _ (.tail _ (.head _))) (.tail _ (.tail _ (.tail _ (.head _))))
  clear hA0 hval0
  refine (codeWords_all x0 x1 W wx0 wx1 hlb).mono fun e W' ⟨he, hb⟩ => ?_
  subst he
  exact ⟨_, rfl, _, _, _, [], _, [], hW', trodAll_mk1 (shut_bool Tryd.underlying4 _), (trodAll_cons_mk (shut_int Tryd.underlying3 wx0) (trodAll_cons_mk (shut_string Tryd.underlying9 wx1) trodAll_mk0)), rfl, hb.below.frame _, fun h => by cases h⟩
theorem codeWords_holds : Rows.CodeWordsSaid :=
  OpenClaim.holds_of_wide 3 Tryd.f3 rfl rfl rfl rfl rfl rfl rfl ⟨rfl, rfl, rfl, rfl, rfl⟩ rfl rfl rfl rfl rfl (by kernel_rfl) Tryd.func3 (by kernel_rfl)
    (of_decide_eq_true (by kernel_rfl)) (by unfold Func.isWrapper; first | (rw [if_pos (by decide +kernel)]; kernel_rfl) | (rw [if_neg (by decide +kernel)]; exact ⟨rfl, rfl⟩))
    (fun os started H enc _ => codeWords_lifted os started H enc)
theorem codeWords_card : Rows.CodeWordsCardSaid :=
  Claim7.holds_tied_plain_at .later [] [.data, .data, .data, .widerDeep] true (true, "166fac47c3a1e9ae55e0ab713b98f5f77e3cfb8c98394ef8a9c8f24cf41118a9") true codeWords_holds (fun _ h => by cases h) (by kernel_rfl) (fun _ h => by cases h) codeWords_row_tie rfl ⟨rfl, rfl⟩ (by kernel_rfl) rfl
    (fun f fn hf hfn => by
      obtain rfl : f = 3 := Option.some.inj ((show Tryd.prog.funcNamed "sapling/saplinglaw08.CodeWords" = some 3 by kernel_rfl).symm.trans hf) |>.symm
      obtain rfl : fn = Tryd.f3 := (Option.some.inj (Tryd.func3.symm.trans hfn)).symm
      exact ⟨by kernel_rfl, fun j t ht => by
        rw [Tryd.params3] at ht
        have hm : t ∈ [3, 9] := by simpa using Array.mem_of_getElem? ht
        have hall : ([3, 9].all fun u => !Tryd.prog.wantsStandIn u) = true := by kernel_rfl
        exact (show Tryd.prog.wantsStandIn t = false by simpa using List.all_eq_true.1 hall t hm)⟩)
    (by kernel_rfl)
#print axioms codeWords_card
end Go.Proofs.YtdeikcmkfmnjmaaDoor
