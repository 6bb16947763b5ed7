/- What the program writes of a program is what the document's text writes, and it reads back as that program: true for every input. Conditions: the library's variables and the list of words read as listed, as the card says. -/
import Derived.Test.YtaihgciokfkonaaDoorAmInsL
import Derived.Test.YtaihgciokfkonaaDoorAmRDis
import Derived.Test.YtaihgciokfkonaaDoorCards
import Derived.Test.YtaihgciokfkonaaDoorTie

namespace Go.Proofs.YtaihgciokfkonaaDoor
set_option linter.unusedVariables false
open Go.ChangeShapes Go.WideShapes Go.ChangeAt Go.RowKit
theorem asmF_long {D : List UInt8} (h : 65536 < D.length) : asmF D = ([], 0, 3) := by unfold asmF; rw [if_pos h]
set_option maxHeartbeats 8000000 in
set_option maxRecDepth 20000 in
theorem asmBack_all (ps : List InsL) (va : Value) (ka oa : Nat) (W : World) (hp : InsS W (OldB W) va ps ka oa) (hlb : Lb W.heap.size W) (hwd : Wd W.heap.size W) (hml : 3 < W.heap.size) : Calls Tryd.prog 4 #[va] W (SayB true W) := by
  have Hav := Lib.hid (show Av W.heap.size W from ⟨hlb, hwd⟩)
  have HAL := Lib.hid (alive_any W.heap.size W Hav.out hml)
  have Hml := Lib.hid hml
  have HGp := Lib.hid (fun w (h : Chg NoB W w) => great_any ps (OldB W) va ka oa w (hp.keep h fun _ _ => id))
  have Hp := Lib.hid hp
  obtain ⟨⟨qa, ca, rfl, a1, a2, a3⟩, pat⟩ := hp
  obtain ⟨la, hla⟩ : ∃ n, n = ps.length := ⟨_, rfl⟩
  have Hat := Lib.hid pat
  have Hla := Lib.hid hla
  rw [← hla] at a1 HGp ⊢
  clear pat a3 hlb hwd hml hla
  go_enter Tryd.func4, Tryd.ntmps4
  go_wp2_with fail
  refine HAL.out.mono ?_
  rintro e w2 ⟨rfl, hc2⟩
  have Hc2 := Lib.hid hc2
  clear hc2 HAL
  go_wp2_with fail
  refine (HGp.out _ Hc2.out).mono ?_
  rintro e w3 ⟨rfl, hc3⟩
  have Hc3 := Lib.hid (Hc2.out.trans hc3)
  clear hc3 HGp
  by_cases g1 : 131072 < sumF ps
  · rw [decide_eq_true g1]
    clear g1
    go_wp2_with fail
    go_ret
    exact ⟨rfl, Hc3.out⟩
  · have hlen : la ≤ 131072 := by rw [Hla.out]; have := sumF_len ps; omega
    rw [decide_eq_false g1]
    clear g1
    have hwf : ∀ x ∈ ps, x.wf := fun x hx => by obtain ⟨i, hi, rfl⟩ := List.getElem_of_mem hx; exact (Hat.out i hi).1
    have Hwf := Lib.hid hwf
    obtain ⟨wA, hwA⟩ : ∃ X, w3.alloc (.cells #[] 38) = X := ⟨_, rfl⟩
    have HwA := Lib.hid hwA
    have HcA := Lib.hid (show Chg NoB w3 wA by rw [← hwA]; exact (Chg.refl NoB w3).alloc _)
    have HoA := Lib.hid (show wA.ownsRow w3.heap.size 38 3 (.slice (some ⟨w3.heap.size, 0, none⟩) 0 0) 0 (flatI []) by
      rw [← hwA]; exact World.ownsRow_lit w3 #[] 0 (Nat.le_refl _) (by decide) rfl)
    have hpA := Hp.out.keep (w' := wA) (Hc3.out.trans HcA.out) (fun _ _ => id)
    rw [← Hla.out] at hpA
    have HpA := Lib.hid hpA
    clear hwA hpA hwf
    go_wp2_with (at_builtin; (rw [HwA.out]); go_loud (refine wpList_insL (l := []) (us := ps) (q := qa) (m := la) (c := ca) (by rfl) _ _ rfl rfl rfl HoA.out HpA.out (by omega) HcA.out.size ?_); intro vB wB hoB hcB; simp only [Nat.zero_add, List.nil_append] at hoB; obtain ⟨qB, cB, rfl, -, -⟩ := row_shape hoB)
    have HcB := Lib.hid ((Hc3.out.trans HcA.out).above hcB fun k e => by have := (World.ownsRow.lt HoA.out k e).1; have := Hc3.out.size; omega)
    obtain ⟨ky, hmine⟩ : ∃ ky, InsS wB (fun k => w3.heap.size ≤ k ∧ k < wB.heap.size) (.slice qB la cB) ps ky 0 := by
      rw [Hla.out] at hoB ⊢
      exact InsS.of_row hoB (fun i hi => Hwf.out _ (List.getElem_mem hi))
    have Hmine := Lib.hid hmine
    have HD := Lib.hid (dis_any ps _ _ ky 0 W.heap.size wB (Hav.out.keep HcB.out) (fun k h => h.2) (by rw [← Hla.out]; omega) hmine)
    have HoB := Lib.hid hoB
    clear hcB hoB hmine
    refine HD.out.mono ?_
    rintro e w5 ⟨rfl, hc5⟩
    have Hc5 := Lib.hid (HcB.out.trans hc5)
    have Hmine5 := Lib.hid (Hmine.out.keep hc5 fun _ _ => id)
    have HR := Lib.hid (rdis_any ps (OldB W) _ ka oa W.heap.size w5 (Hav.out.keep Hc5.out).lb (fun i h => Nat.lt_of_lt_of_le h Hc5.out.size) (by rw [← Hla.out]; omega) (Hp.out.keep Hc5.out fun _ _ => id))
    rw [← Hla.out] at HR
    clear hc5 HD
    go_wp2_with fail
    refine HR.out.mono ?_
    rintro e w6 ⟨rfl, hc6⟩
    have Hc6 := Lib.hid (Hc5.out.trans hc6)
    have HSm := Lib.hid (isame_any ps ps _ _ _ _ ky 0 ka oa w6 (Hmine5.out.keep hc6 fun _ _ => id) (Hp.out.keep Hc6.out fun _ _ => id) (by rw [← Hla.out]; omega))
    rw [← Hla.out] at HSm
    have HB := Lib.hid (fun h hs => asm_dis (p := ps) h Hwf.out hs)
    have hde := dis_err ps
    have hdl := dis_len Hwf.out
    rw [← hde] at HB
    clear hc6 HR hde
    generalize disF ps = r1 at *
    obtain ⟨D, er⟩ := r1
    simp only at hdl HB ⊢
    have hzD : (tx D).size = D.length := tx_size D
    go_wp2_with fail
    refine HSm.out.mono ?_
    rintro e w7 ⟨⟨bb, rfl, hbb⟩, hc7⟩
    have hbt : bb = true := hbb.2 rfl
    rw [hbt]
    have Hc7 := Lib.hid (Hc6.out.trans hc7)
    clear hc7 hbb hbt HSm
    by_cases h1 : er = 0
    · have h1b : (er != 0) = false := by simp [h1]
      have HA := Lib.hid (asm_any W.heap.size D w7 (Hav.out.keep Hc7.out) Hml.out)
      by_cases h3 : (65536 : Int) < (D.length : Int)
      · rw [asmF_long (by omega)] at HA
        clear h1 HB
        go_wp2_with fail
        refine HA.out.mono ?_
        rintro e w8 ⟨hc8, v8, rfl, hrow8⟩
        have Hc8 := Lib.hid (Hc7.out.trans hc8)
        obtain ⟨q8, c8, rfl, -, -⟩ := row_shape hrow8
        clear hc8 hrow8
        go_wp2_with fail
        go_ret
        exact ⟨rfl, Hc8.out⟩
      · rw [HB.out h1 (by omega)] at HA
        clear h1 HB
        go_wp2_with fail
        refine HA.out.mono ?_
        rintro e w8 ⟨hc8, v8, rfl, hrow8⟩
        have Hc8 := Lib.hid (Hc7.out.trans hc8)
        obtain ⟨q8, c8, rfl, -, -⟩ := row_shape hrow8
        obtain ⟨kx, hx⟩ := InsS.of_row hrow8 (fun i hi => Hwf.out _ (List.getElem_mem hi))
        have HSn := Lib.hid (isame_any ps ps _ _ _ _ kx 0 ka oa w8 hx (Hp.out.keep Hc8.out fun _ _ => id) (by rw [← Hla.out]; omega))
        rw [← Hla.out] at HSn
        rw [← Hla.out]
        clear hc8 hrow8 hx
        go_wp2_with fail
        refine HSn.out.mono ?_
        rintro e w9 ⟨⟨bb, rfl, hbb⟩, hc9⟩
        have hbt : bb = true := hbb.2 rfl
        rw [hbt]
        have Hc9 := Lib.hid (Hc8.out.trans hc9)
        clear hc9 hbb hbt
        go_wp2_with fail
        go_ret
        exact ⟨rfl, Hc9.out⟩
    · have h1b : (er != 0) = true := by simp [h1]
      clear h1
      go_wp2_with fail
      go_ret
      exact ⟨rfl, Hc7.out⟩
/-FRAME-/
set_option maxRecDepth 100000 in
theorem asmBack_lifted (os : Os) (started : os.Started) (H : Type) (enc : TypeId × Value → H) :
    ReturnsInHanded {} Tryd.checked os 4 .any (fun w args => (Rows.asmBackSpec.pre enc Tryd.prog Tryd.f4 [] false w args ∧ laidMetH Tryd.prog Rows.asmBackRow.laid w) ∧ sizedMet enc Tryd.prog Tryd.f4 (OpenSpec.ofChange Rows.asmBackSpec) false w args)
      (Rows.asmBackSpec.post enc Tryd.prog Tryd.f4 false true false false) := by
  refine returns_both (C := Tryd.checked) (X := fun w _ => laidMetH Tryd.prog Rows.asmBackRow.laid w) (fun _ _ _ hh h => h.of_heap hh) Tryd.own started (by kernel_rfl) Tryd.func4
    (ChangeSpec.witness_shaped (enc := enc) (C := Tryd.checked) (os := os) (X := fun w _ => laidMetH Tryd.prog Rows.asmBackRow.laid w) false (World.laidAll Tryd.prog os Rows.asmBackRow.laid) #[.slice none 0 0] 8 (World.laidAll_os _ _ _)
      (World.shaped_of_ZipB (by kernel_rfl) (by kernel_rfl)) (by kernel_rfl) (by kernel_rfl) (by kernel_rfl)
      (by rw [MakeChecks.laidMetH_plain _ _ _ (by kernel_rfl)]; exact laidMet_laidAll _ (by kernel_rfl) (by kernel_rfl))) ?_
  intro W base args ds gs before hval0 hW _ hsz hL hsh _
  have hval : ∀ (j : Nat) t v, Tryd.f4.params[j]? = some t → args[j]? = some v → Value.okWide Tryd.prog W .any base t v := hval0
  have hW' := hW
  obtain ⟨p, q, hA0, hV, rfl, _, _⟩ := hW
  have hA : DataW.TrodAll enc Tryd.prog W 0 (fun _ => true) true Tryd.f4.params.toList args.toList ds p := hA0
  have hsz1 : (DataW.weightsEach Tryd.prog (Tryd.f4.params.toList ++ Rows.asmBackSpec.plain.varTypes Tryd.prog) (ds ++ gs)).all (· ≤ reachBytes) = true := hsz
  rw [Tryd.params4] at hA hval hsz1
  obtain ⟨v0, d0, rfl, rfl, h0⟩ := trodAll_one hA
  obtain ⟨rfl, rfl⟩ := trodVars_none hV
  obtain ⟨l0, kb0, ko0, hn0⟩ := open_inss (hval 0 23 v0 rfl rfl) h0 (fun m hm => of_decide_eq_true (List.all_eq_true.1 hsz1 m (DataW.weights_mem_each (j := 0) (t := 23) (d := d0) rfl rfl m hm)))
  simp only [List.append_nil] at hW'
  rw [MakeChecks.laidMetH_plain _ _ _ (by kernel_rfl)] at hL
  obtain ⟨hlb, hwd⟩ := lb8_of hL hsh
  have hml := ml_lt hsh
  clear hA0 hval0
  refine (asmBack_all l0 _ kb0 ko0 W hn0 hlb hwd hml).mono fun e W' ⟨he, hb⟩ => ?_
  subst he
  exact ⟨_, rfl, _, _, _, [], _, [], hW', trodAll_mk1 (shut_bool Tryd.underlying4 _), (trodAll_cons_mk (inss_stay h0 hb.below) trodAll_mk0), rfl, hb.below.frame _, fun h => by cases h⟩
theorem asmBack_holds : Rows.AsmBackSaid :=
  OpenClaim.holds_of_wide 4 Tryd.f4 rfl rfl rfl rfl rfl rfl rfl ⟨rfl, rfl, rfl, rfl, rfl⟩ rfl rfl rfl rfl rfl (by kernel_rfl) Tryd.func4 (by kernel_rfl)
    (of_decide_eq_true (by kernel_rfl)) (by unfold Func.isWrapper; first | (rw [if_pos (by decide +kernel)]; kernel_rfl) | (rw [if_neg (by decide +kernel)]; exact ⟨rfl, rfl⟩))
    (fun os started H enc _ => asmBack_lifted os started H enc)
theorem asmBack_card : Rows.AsmBackCardSaid :=
  Claim7.holds_tied_plain_at .later [] [.data, .data, .data, .data, .sentinel, .sentinel, .widerDeep, .pinned] true (true, "aa88663d2f6238ae8a16603652b38a6635f2e0c3772bf95b981f2b479d7df801") true asmBack_holds (fun _ h => by cases h) (by kernel_rfl) (fun _ h => by cases h) asmBack_row_tie rfl ⟨rfl, rfl⟩ (by kernel_rfl) rfl
    (fun f fn hf hfn => by
      obtain rfl : f = 4 := Option.some.inj ((show Tryd.prog.funcNamed "sapling/saplinglaw09.AsmBack" = some 4 by kernel_rfl).symm.trans hf) |>.symm
      obtain rfl : fn = Tryd.f4 := (Option.some.inj (Tryd.func4.symm.trans hfn)).symm
      exact ⟨by kernel_rfl, fun j t ht => by
        rw [Tryd.params4] at ht
        have hm : t ∈ [23] := by simpa using Array.mem_of_getElem? ht
        have hall : ([23].all fun u => !Tryd.prog.wantsStandIn u) = true := by kernel_rfl
        exact (show Tryd.prog.wantsStandIn t = false by simpa using List.all_eq_true.1 hall t hm)⟩)
    (by kernel_rfl)
#print axioms asmBack_card
end Go.Proofs.YtaihgciokfkonaaDoor
