/- AsmReads: the program's Assemble and the document's answer alike. Conditions: the library's variables and the list of words read as listed. -/
import Derived.Test.YtaihgciokfkonaaDoorAmRAsm
import Derived.Test.YtaihgciokfkonaaDoorCards
import Derived.Test.YtaihgciokfkonaaDoorTie
import Derived.ChangeMaps

namespace Go.Proofs.YtaihgciokfkonaaDoor
set_option linter.unusedVariables false
open Go.ChangeShapes Go.WideShapes Go.ChangeAt Go.RowKit
open Go.ChangeMaps (open_string shut_string)
set_option maxHeartbeats 8000000 in
set_option maxRecDepth 20000 in
theorem asmReads_all (a0 : ByteArray) (W : World) (wa : a0.size ≤ maxLen) (hlb : Lb W.heap.size W) (hwd : Wd W.heap.size W) (hml : 3 < W.heap.size) : Calls Tryd.prog 3 #[.string a0] W (SayB true W) := by
  obtain ⟨t, rfl⟩ : ∃ t, a0 = tx t := ⟨_, (tx_back a0).symm⟩
  have hzt : (tx t).size = t.length := tx_size t
  have Hav := Lib.hid (show Av W.heap.size W from ⟨hlb, hwd⟩)
  have HAL := Lib.hid (alive_any W.heap.size W Hav.out hml)
  have Hml := Lib.hid hml
  clear hlb hwd hml wa
  go_enter Tryd.func3, Tryd.ntmps3
  go_wp2_with fail
  refine HAL.out.mono ?_
  rintro e w2 ⟨rfl, hc2⟩
  have Hc2 := Lib.hid hc2
  clear hc2 HAL
  by_cases h1 : (131072 : Int) < (t.length : Int)
  · go_wp2_with fail
    go_ret
    exact ⟨rfl, Hc2.out⟩
  · have HA := Lib.hid (fun w (h : Chg NoB W w) => asm_any W.heap.size t w (Hav.out.keep h) Hml.out)
    have HR := Lib.hid (fun w (h : Chg NoB W w) => rasm_any t W.heap.size w (Hav.out.keep h).lb (by omega))
    have Hal := Lib.hid (asmF_len t)
    have Haw := Lib.hid (asmF_wf t)
    go_wp2_with fail
    refine (HA.out _ Hc2.out).mono ?_
    rintro e w8 ⟨hc8, v8, rfl, hrow8⟩
    have Hc8 := Lib.hid (Hc2.out.trans hc8)
    obtain ⟨q8, c8, rfl, -, -⟩ := row_shape hrow8
    have Hrow8 := Lib.hid hrow8
    clear hc8 hrow8
    go_wp2_with fail
    refine (HR.out _ Hc8.out).mono ?_
    rintro e w9 ⟨hc9, v9, rfl, hrow9⟩
    have Hc9 := Lib.hid (Hc8.out.trans hc9)
    obtain ⟨q9, c9, rfl, -, -⟩ := row_shape hrow9
    have Hrow9 := Lib.hid hrow9
    have Hrow8' := Lib.hid (ownsRow_chg Hrow8.out hc9 fun _ _ => id)
    clear hc9 hrow9 HA HR
    generalize asmF t = r1 at *
    obtain ⟨ps, x, er⟩ := r1
    simp only at Hal Haw Hrow8 Hrow8' Hrow9 ⊢
    obtain ⟨lp, hlp⟩ : ∃ n, n = ps.length := ⟨_, rfl⟩
    have hwf : ∀ i (hi : i < ps.length), ps[i].wf := fun i hi => Haw.out _ (List.getElem_mem hi)
    obtain ⟨kx, hx⟩ := InsS.of_row Hrow8'.out hwf
    obtain ⟨ky, hy⟩ := InsS.of_row Hrow9.out hwf
    have HSm := Lib.hid (isame_any ps ps _ _ _ _ kx 0 ky 0 w9 hx hy (by have := Hal.out; omega))
    rw [← hlp] at HSm ⊢
    clear hwf hx hy hlp
    go_wp2_with fail
    refine HSm.out.mono ?_
    rintro e wD ⟨⟨bb, rfl, hbb⟩, hcD⟩
    have hbt : bb = true := hbb.2 rfl
    rw [hbt]
    have HcD := Lib.hid (Hc9.out.trans hcD)
    clear hcD hbb hbt
    go_wp2_with fail
    go_ret
    exact ⟨rfl, HcD.out⟩
/-FRAME-/
set_option maxRecDepth 100000 in
theorem asmReads_lifted (os : Os) (started : os.Started) (H : Type) (enc : TypeId × Value → H) :
    ReturnsInHanded {} Tryd.checked os 3 .any (fun w args => (Rows.asmReadsSpec.pre enc Tryd.prog Tryd.f3 [] false w args ∧ laidMetH Tryd.prog Rows.asmReadsRow.laid w) ∧ sizedMet enc Tryd.prog Tryd.f3 (OpenSpec.ofChange Rows.asmReadsSpec) false w args)
      (Rows.asmReadsSpec.post enc Tryd.prog Tryd.f3 false true false false) := by
  refine returns_both (C := Tryd.checked) (X := fun w _ => laidMetH Tryd.prog Rows.asmReadsRow.laid w) (fun _ _ _ hh h => h.of_heap hh) Tryd.own started (by kernel_rfl) Tryd.func3
    (ChangeSpec.witness_shaped (enc := enc) (C := Tryd.checked) (os := os) (X := fun w _ => laidMetH Tryd.prog Rows.asmReadsRow.laid w) false (World.laidAll Tryd.prog os Rows.asmReadsRow.laid) #[.string ByteArray.empty] 8 (World.laidAll_os _ _ _)
      (World.shaped_of_ZipB (by kernel_rfl) (by kernel_rfl)) (by kernel_rfl) (by kernel_rfl) (by kernel_rfl)
      (by rw [MakeChecks.laidMetH_plain _ _ _ (by kernel_rfl)]; exact laidMet_laidAll _ (by kernel_rfl) (by kernel_rfl))) ?_
  intro W base args ds gs before hval0 hW _ hsz hL hsh _
  have hval : ∀ (j : Nat) t v, Tryd.f3.params[j]? = some t → args[j]? = some v → Value.okWide Tryd.prog W .any base t v := hval0
  have hW' := hW
  obtain ⟨p, q, hA0, hV, rfl, _, _⟩ := hW
  have hA : DataW.TrodAll enc Tryd.prog W 0 (fun _ => true) true Tryd.f3.params.toList args.toList ds p := hA0
  have hsz1 : (DataW.weightsEach Tryd.prog (Tryd.f3.params.toList ++ Rows.asmReadsSpec.plain.varTypes Tryd.prog) (ds ++ gs)).all (· ≤ reachBytes) = true := hsz
  rw [Tryd.params3] at hA hval hsz1
  obtain ⟨v0, d0, rfl, rfl, h0⟩ := trodAll_one hA
  obtain ⟨rfl, rfl⟩ := trodVars_none hV
  obtain ⟨x0, rfl, rfl, rfl, wx0⟩ := open_string Tryd.underlying9 (hval 0 9 v0 rfl rfl) h0
  simp only [List.append_nil] at hW'
  rw [MakeChecks.laidMetH_plain _ _ _ (by kernel_rfl)] at hL
  obtain ⟨hlb, hwd⟩ := lb8_of hL hsh
  have hml := ml_lt hsh
  clear hA0 hval0
  refine (asmReads_all x0 W wx0 hlb hwd hml).mono fun e W' ⟨he, hb⟩ => ?_
  subst he
  exact ⟨_, rfl, _, _, _, [], _, [], hW', trodAll_mk1 (shut_bool Tryd.underlying4 _), (trodAll_cons_mk (shut_string Tryd.underlying9 wx0) trodAll_mk0), rfl, hb.below.frame _, fun h => by cases h⟩
theorem asmReads_holds : Rows.AsmReadsSaid :=
  OpenClaim.holds_of_wide 3 Tryd.f3 rfl rfl rfl rfl rfl rfl rfl ⟨rfl, rfl, rfl, rfl, rfl⟩ rfl rfl rfl rfl rfl (by kernel_rfl) Tryd.func3 (by kernel_rfl)
    (of_decide_eq_true (by kernel_rfl)) (by unfold Func.isWrapper; first | (rw [if_pos (by decide +kernel)]; kernel_rfl) | (rw [if_neg (by decide +kernel)]; exact ⟨rfl, rfl⟩))
    (fun os started H enc _ => asmReads_lifted os started H enc)
theorem asmReads_card : Rows.AsmReadsCardSaid :=
  Claim7.holds_tied_plain_at .later [] [.data, .data, .data, .data, .sentinel, .sentinel, .widerDeep, .pinned] true (true, "aa88663d2f6238ae8a16603652b38a6635f2e0c3772bf95b981f2b479d7df801") true asmReads_holds (fun _ h => by cases h) (by kernel_rfl) (fun _ h => by cases h) asmReads_row_tie rfl ⟨rfl, rfl⟩ (by kernel_rfl) rfl
    (fun f fn hf hfn => by
      obtain rfl : f = 3 := Option.some.inj ((show Tryd.prog.funcNamed "sapling/saplinglaw09.AsmReads" = some 3 by kernel_rfl).symm.trans hf) |>.symm
      obtain rfl : fn = Tryd.f3 := (Option.some.inj (Tryd.func3.symm.trans hfn)).symm
      exact ⟨by kernel_rfl, fun j t ht => by
        rw [Tryd.params3] at ht
        have hm : t ∈ [9] := by simpa using Array.mem_of_getElem? ht
        have hall : ([9].all fun u => !Tryd.prog.wantsStandIn u) = true := by kernel_rfl
        exact (show Tryd.prog.wantsStandIn t = false by simpa using List.all_eq_true.1 hall t hm)⟩)
    (by kernel_rfl)
#print axioms asmReads_card
end Go.Proofs.YtaihgciokfkonaaDoor
