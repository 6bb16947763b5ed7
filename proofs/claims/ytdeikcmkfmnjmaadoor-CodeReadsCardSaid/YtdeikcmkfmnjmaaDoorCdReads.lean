/- Proved: the statement CodeReads holds for every text. Conditions: the listed package variables read as the program's text lays them (the card ties them); nothing else. -/
import Derived.Test.YtdeikcmkfmnjmaaDoorCdRefDec
import Derived.Test.YtdeikcmkfmnjmaaDoorCdLb
import Derived.Test.YtdeikcmkfmnjmaaDoorCdSame
import Derived.Test.YtdeikcmkfmnjmaaDoorCdAlive
namespace Go.Proofs.YtdeikcmkfmnjmaaDoor
open Go.ChangeShapes Go.WideShapes Go.ChangeAt Go.RowKit
set_option linter.unusedVariables false
open Go.ChangeMaps (open_string shut_string)
theorem insS_nil (w : World) (S : Nat → Prop) : InsS w S (.slice none 0 0) [] 0 0 := ⟨⟨none, 0, rfl, Nat.le_refl _, Nat.zero_le _, fun h => absurd rfl h⟩, fun i hi => by simp at hi⟩
theorem encF_read {s : List UInt8} {ps : List InsL} (h : cdecF s = .ok ps) : encF ps = (tx s, 0) := by
  obtain ⟨h1, h2, _⟩ := cdecF_ok h
  unfold encF
  rw [if_pos h2, enc_dec h1]
  rfl
set_option maxHeartbeats 8000000 in
set_option maxRecDepth 20000 in
theorem codeReads_all (x : ByteArray) (W : World) (wx : x.size ≤ maxLen) (hev : Ev W.heap.size W) (hlb : Lb W.heap.size W) :
    Calls Tryd.prog 5 #[.string x] W fun e w' => e = .returned (.bool true) ∧ Chg NoB W w' := by
  obtain ⟨s, rfl⟩ : ∃ s, x = tx s := ⟨_, (tx_back x).symm⟩
  have hss : (tx s).size = s.length := tx_size s
  obtain ⟨sl, hsl⟩ : ∃ sl, sl = s.length := ⟨_, rfl⟩
  rw [← hsl] at hss
  rw [hss] at wx
  unfold maxLen at wx
  have Hsl := Lib.hid hsl
  have Hev := Lib.hid hev
  have Hlb := Lib.hid hlb
  clear hsl hev hlb
  go_enter Tryd.func5, Tryd.ntmps5
  go_wp2_with fail
  refine (alive_any _ W Hev.out).mono ?_
  rintro e w2 ⟨rfl, hc2⟩
  have Hc2 := Lib.hid hc2
  clear hc2
  by_cases hg : 131072 < sl
  · go_wp2_with fail
    go_ret
    exact ⟨rfl, Hc2.out⟩
  have Hd := Lib.hid (cdec_any s W.heap.size w2 (Hlb.out.keep Hc2.out) (Hev.out.wd.keep Hc2.out) (by have := Hsl.out; omega))
  have Hr := fun (w' : World) (h : Chg NoB W w') => rcdec_any s W.heap.size w' (Hlb.out.keep h) (Hev.out.keep h) (by have := Hsl.out; omega)
  cases hcd : cdecF s with
  | error y =>
    obtain ⟨y0, y1⟩ := cdecF_err hcd
    have hyb : (y != 0) = true := by rw [bne_iff_ne]; omega
    have hyy : (y != y) = false := by simp
    rw [hcd] at Hd Hr
    unfold CDecP at Hd Hr
    simp only at Hd Hr
    have HR := Lib.hid Hr
    clear Hr hcd
    go_wp2_with fail
    refine Hd.out.mono ?_
    rintro e w3 ⟨hc3, rfl⟩
    have Hc3 := Lib.hid (Hc2.out.trans hc3)
    clear hc3 Hd
    go_wp2_with fail
    refine (HR.out w3 Hc3.out).mono ?_
    rintro e w4 ⟨hc4, rfl⟩
    have Hc4 := Lib.hid (Hc3.out.trans hc4)
    have Hsm := Lib.hid (same_any [] [] NoB NoB _ _ 0 0 0 0 w4 (insS_nil _ _) (insS_nil _ _) (by decide))
    clear hc4 HR
    go_wp2_with fail
    refine Hsm.out.mono ?_
    rintro e w5 ⟨⟨b, rfl, hb⟩, hc5⟩
    obtain rfl : b = true := hb.2 rfl
    have Hc5 := Lib.hid (Hc4.out.trans hc5)
    clear hb hc5 Hsm
    go_wp2_with fail
    go_ret
    exact ⟨rfl, Hc5.out⟩
  | ok ps =>
    obtain ⟨_, hck, hwf⟩ := cdecF_ok hcd
    have hlp : ps.length ≤ 131072 := by have := (check_ok hck).1.2; omega
    have hwf' : ∀ i (hi : i < ps.length), ps[i].wf := fun i hi => hwf _ (List.getElem_mem hi)
    have henc := encF_read hcd
    rw [hcd] at Hd Hr
    unfold CDecP at Hd Hr
    simp only at Hd Hr
    have HR := Lib.hid Hr
    have Hwf := Lib.hid hwf'
    have Hlp := Lib.hid hlp
    have Henc := Lib.hid henc
    clear Hr hcd hck hwf hwf' hlp henc
    go_wp2_with fail
    refine Hd.out.mono ?_
    rintro e w3 ⟨hc3, v3, rfl, ho3⟩
    have Hc3 := Lib.hid (Hc2.out.trans hc3)
    obtain ⟨kb3, hs3⟩ := InsS.of_row ho3 Hwf.out
    have Hs3 := Lib.hid hs3
    clear hc3 Hd ho3 hs3
    go_wp2_with fail
    refine (HR.out w3 Hc3.out).mono ?_
    rintro e w4 ⟨hc4, v4, rfl, ho4⟩
    have Hc4 := Lib.hid (Hc3.out.trans hc4)
    obtain ⟨kb4, hs4⟩ := InsS.of_row ho4 Hwf.out
    have Hs34 := Lib.hid (Hs3.out.keep hc4 fun _ _ => id)
    have Hsm := Lib.hid (same_any ps ps _ _ _ _ kb3 0 kb4 0 w4 Hs34.out hs4 Hlp.out)
    clear hc4 HR ho4 hs4
    go_wp2_with fail
    refine Hsm.out.mono ?_
    rintro e w5 ⟨⟨b, rfl, hb⟩, hc5⟩
    obtain rfl : b = true := hb.2 rfl
    have Hc5 := Lib.hid (Hc4.out.trans hc5)
    have He := encode_any ps _ _ kb3 0 W.heap.size w5 (Hev.out.keep Hc5.out) Hlp.out (Hs34.out.keep hc5 fun _ _ => id)
    rw [Henc.out] at He
    simp only at He
    have HE := Lib.hid He
    clear hb hc5 Hsm He
    go_wp2_with fail
    refine HE.out.mono ?_
    rintro e w6 ⟨hc6, rfl⟩
    have Hc6 := Lib.hid (Hc5.out.trans hc6)
    have hself : ((tx s).toList == (tx s).toList) = true := by simp
    clear hc6 HE
    go_wp2_with fail
    go_ret
    exact ⟨rfl, Hc6.out⟩
/-FRAME-/
set_option maxRecDepth 100000 in
theorem codeReads_lifted (os : Os) (started : os.Started) (H : Type) (enc : TypeId × Value → H) :
    ReturnsInHanded {} Tryd.checked os 5 .any (fun w args => (Rows.codeReadsSpec.pre enc Tryd.prog Tryd.f5 [] false w args ∧ laidMetH Tryd.prog Rows.codeReadsRow.laid w) ∧ sizedMet enc Tryd.prog Tryd.f5 (OpenSpec.ofChange Rows.codeReadsSpec) false w args)
      (Rows.codeReadsSpec.post enc Tryd.prog Tryd.f5 false true false false) := by
  refine returns_both (C := Tryd.checked) (X := fun w _ => laidMetH Tryd.prog Rows.codeReadsRow.laid w) (fun _ _ _ hh h => h.of_heap hh) Tryd.own started (by kernel_rfl) Tryd.func5
    (ChangeSpec.witness_shaped (enc := enc) (C := Tryd.checked) (os := os) (X := fun w _ => laidMetH Tryd.prog Rows.codeReadsRow.laid w) false (World.laidAll Tryd.prog os Rows.codeReadsRow.laid) #[.string ByteArray.empty] 8 (World.laidAll_os _ _ _)
      (World.shaped_of_ZipB (by kernel_rfl) (by kernel_rfl)) (by kernel_rfl) (by kernel_rfl) (by kernel_rfl)
      (by rw [MakeChecks.laidMetH_plain _ _ _ (by kernel_rfl)]; exact laidMet_laidAll _ (by kernel_rfl) (by kernel_rfl))) ?_
  intro W base args ds gs before hval0 hW _ hsz hL hsh _
  have hval : ∀ (j : Nat) t v, Tryd.f5.params[j]? = some t → args[j]? = some v → Value.okWide Tryd.prog W .any base t v := hval0
  have hW' := hW
  obtain ⟨p, q, hA0, hV, rfl, _, _⟩ := hW
  have hA : DataW.TrodAll enc Tryd.prog W 0 (fun _ => true) true Tryd.f5.params.toList args.toList ds p := hA0
  have hsz1 : (DataW.weightsEach Tryd.prog (Tryd.f5.params.toList ++ Rows.codeReadsSpec.plain.varTypes Tryd.prog) (ds ++ gs)).all (· ≤ reachBytes) = true := hsz
  rw [Tryd.params5] at hA hval hsz1
  obtain ⟨v0, d0, rfl, rfl, h0⟩ := trodAll_one hA
  obtain ⟨rfl, rfl⟩ := trodVars_none hV
  obtain ⟨x0, rfl, rfl, rfl, wx0⟩ := open_string Tryd.underlying9 (hval 0 9 v0 rfl rfl) h0
  simp only [List.append_nil] at hW'
  rw [MakeChecks.laidMetH_plain _ _ _ (by kernel_rfl)] at hL
  have hL' : laidMet Tryd.prog [("math/bits.deBruijn32tab", Rows.laid_math_bits_deBruijn32tab), ("math/bits.deBruijn64tab", Rows.laid_math_bits_deBruijn64tab), ("internal/strconv.uint64pow10", Rows.laid_internal_strconv_uint64pow10), ("strconv.ErrRange", Rows.laid_strconv_ErrRange), ("strconv.ErrSyntax", Rows.laid_strconv_ErrSyntax), ("sapling/code.words", Rows.laid_sapling_code_words)] W := hL
  have hlb : Ev W.heap.size W := ev_of hL' (.tail _ (.tail _ (.head _))) (.tail _ (.tail _ (.tail _ (.tail _ (.tail _ (.head _))))))
  have hlb2 : Lb W.heap.size W := lb_of hL' hsh
  clear hA0 hval0
  refine (codeReads_all x0 W wx0 hlb hlb2).mono fun e W' ⟨he, hb⟩ => ?_
  subst he
  exact ⟨_, rfl, _, _, _, [], _, [], hW', trodAll_mk1 (shut_bool Tryd.underlying4 _), (trodAll_cons_mk (shut_string Tryd.underlying9 wx0) trodAll_mk0), rfl, hb.below.frame _, fun h => by cases h⟩
theorem codeReads_holds : Rows.CodeReadsSaid :=
  OpenClaim.holds_of_wide 5 Tryd.f5 rfl rfl rfl rfl rfl rfl rfl ⟨rfl, rfl, rfl, rfl, rfl⟩ rfl rfl rfl rfl rfl (by kernel_rfl) Tryd.func5 (by kernel_rfl)
    (of_decide_eq_true (by kernel_rfl)) (by unfold Func.isWrapper; first | (rw [if_pos (by decide +kernel)]; kernel_rfl) | (rw [if_neg (by decide +kernel)]; exact ⟨rfl, rfl⟩))
    (fun os started H enc _ => codeReads_lifted os started H enc)
theorem codeReads_card : Rows.CodeReadsCardSaid :=
  Claim7.holds_tied_plain_at .later [] [.data, .data, .data, .sentinel, .sentinel, .widerDeep] true (true, "166fac47c3a1e9ae55e0ab713b98f5f77e3cfb8c98394ef8a9c8f24cf41118a9") true codeReads_holds (fun _ h => by cases h) (by kernel_rfl) (fun _ h => by cases h) codeReads_row_tie rfl ⟨rfl, rfl⟩ (by kernel_rfl) rfl
    (fun f fn hf hfn => by
      obtain rfl : f = 5 := Option.some.inj ((show Tryd.prog.funcNamed "sapling/saplinglaw08.CodeReads" = some 5 by kernel_rfl).symm.trans hf) |>.symm
      obtain rfl : fn = Tryd.f5 := (Option.some.inj (Tryd.func5.symm.trans hfn)).symm
      exact ⟨by kernel_rfl, fun j t ht => by
        rw [Tryd.params5] at ht
        have hm : t ∈ [9] := by simpa using Array.mem_of_getElem? ht
        have hall : ([9].all fun u => !Tryd.prog.wantsStandIn u) = true := by kernel_rfl
        exact (show Tryd.prog.wantsStandIn t = false by simpa using List.all_eq_true.1 hall t hm)⟩)
    (by kernel_rfl)
#print axioms codeReads_card
end Go.Proofs.YtdeikcmkfmnjmaaDoor

