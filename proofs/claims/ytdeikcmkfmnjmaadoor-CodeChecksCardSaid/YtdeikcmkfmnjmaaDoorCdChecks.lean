/- Proved: the statement CodeChecks holds for every list of instructions. Conditions: the listed package variables read as the program's text lays them (the card ties them); nothing else. -/
import Derived.Test.YtdeikcmkfmnjmaaDoorCdRef
import Derived.Test.YtdeikcmkfmnjmaaDoorCdAlive
import Derived.Test.YtdeikcmkfmnjmaaDoorCdOpen
namespace Go.Proofs.YtdeikcmkfmnjmaaDoor
open Go.ChangeShapes Go.WideShapes Go.ChangeAt Go.RowKit
set_option linter.unusedVariables false
open Go.ChangeMaps (open_string shut_string)
set_option maxHeartbeats 1000000 in
set_option maxRecDepth 20000 in
theorem refEncode_any (ps : List InsL) (S : Nat → Prop) (v : Value) (kb ko : Nat) (base : Nat) (w : World) (h : Ev base w) (hs : InsS w S v ps kb ko) :
    Calls Tryd.prog 19 #[v] w fun e w' => Chg NoB w w' ∧ e = .returned (.tuple #[.string (encF ps).1, .int .i64 (encF ps).2]) := by
  have Hs := Lib.hid hs
  have Hck := Lib.hid (refCheck_any ps S v kb ko w hs)
  obtain ⟨⟨q, c, rfl, -, -, -⟩, hat⟩ := hs
  have Hat := Lib.hid hat
  have Hev := Lib.hid h
  obtain ⟨len, hlen⟩ : ∃ len, len = ps.length := ⟨_, rfl⟩
  rw [← hlen] at Hs Hck ⊢
  obtain ⟨r1, hr1⟩ : ∃ r, r = (checkF ps).1 := ⟨_, rfl⟩
  rw [← hr1] at Hck
  clear hat h hr1
  by_cases hy : (checkF ps).2 = 0
  · obtain ⟨⟨hl1, hl2⟩, hst⟩ := check_ok hy
    have henc : encF ps = encO (putN (progF ps) 0 []) := if_pos hy
    rw [hy] at Hck
    have hcnt : (progF ps).count ≤ 1048576 := by
      unfold progF
      rw [Nd.count]
      have h0 : (⟨#[]⟩ : ByteArray).size = 0 := rfl
      have := counts_map ps fun x hx => by
        obtain ⟨i, hi, rfl⟩ := List.getElem_of_mem hx
        exact node_count (stands_len (hst i hi)) (Hat.out i hi).1
      omega
    have Hcnt := Lib.hid hcnt
    have Henc := Lib.hid henc
    have Hst := Lib.hid (fun i (hi : i < ps.length) => stands_len (hst i hi))
    have Hl2 := Lib.hid hl2
    clear hy hst henc hcnt hl1 hl2 hlen
    go_enter Tryd.func19, Tryd.ntmps19
    go_wp2_with fail
    refine Hck.out.mono ?_
    rintro e w1 ⟨rfl, hc1⟩
    have Hc1 := Lib.hid hc1
    have Hnode := Lib.hid (refNode_any ps S _ kb ko base w1 (Hev.out.keep hc1) Hl2.out Hst.out (Hs.out.keep hc1 fun _ _ => id))
    clear hc1 Hck
    go_wp2_with fail
    refine Hnode.out.mono ?_
    rintro e w2 ⟨hc2, v2, rfl, hv2⟩
    have Hc2 := Lib.hid (Hc1.out.trans hc2)
    have Hpn := Lib.hid ((encR_any (progF ps) Hcnt.out _ v2 w2 hv2 (fun k hk => hk.2) ((Hev.out.keep (Hc1.out.trans hc2)).lw.top)).mono fun e w' h => h.val)
    clear hc2 hv2 Hnode
    go_wp2_with fail
    refine Hpn.out.mono ?_
    rintro e w3 ⟨hc3, rfl⟩
    rw [← Henc.out]
    go_wp2_with fail
    go_ret2
    exact ⟨Hc2.out.trans hc3, rfl⟩
  · have henc : encF ps = (⟨#[]⟩, (checkF ps).2) := if_neg hy
    have hyb : ((checkF ps).2 == 0) = false := by rw [beq_eq_false_iff_ne]; exact hy
    rw [henc]
    generalize (checkF ps).2 = y at *
    clear henc hlen
    go_enter Tryd.func19, Tryd.ntmps19
    go_wp2_with fail
    refine Hck.out.mono ?_
    rintro e w1 ⟨rfl, hc1⟩
    go_wp2_with fail
    go_ret2
    exact ⟨hc1, rfl⟩
set_option maxHeartbeats 1000000 in
set_option maxRecDepth 20000 in
theorem codeChecks_all (ps : List InsL) (v : Value) (kb ko : Nat) (W : World) (hs : InsS W (OldB W) v ps kb ko) (hev : Ev W.heap.size W) :
    Calls Tryd.prog 4 #[v] W fun e w' => e = .returned (.bool true) ∧ Chg NoB W w' := by
  have Hs := Lib.hid hs
  obtain ⟨⟨q, c, rfl, -, -, -⟩, -⟩ := hs
  obtain ⟨len, hlen⟩ : ∃ len, len = ps.length := ⟨_, rfl⟩
  rw [← hlen] at Hs ⊢
  have Hev := Lib.hid hev
  clear hev hlen
  go_enter Tryd.func4, Tryd.ntmps4
  go_wp2_with fail
  refine (alive_any _ W Hev.out).mono ?_
  rintro e w2 ⟨rfl, hc2⟩
  have Hc2 := Lib.hid hc2
  have Hs2 := Lib.hid (Hs.out.keep hc2 fun _ _ => id)
  have Hgr := Lib.hid (great_any ps _ _ kb ko w2 Hs2.out)
  clear hc2
  go_wp2_with fail
  by_cases hg : 131072 < sumF ps
  · rw [decide_eq_true hg] at Hgr
    refine Hgr.out.mono ?_
    rintro e w3 ⟨rfl, hc3⟩
    go_wp2_with fail
    go_ret
    exact ⟨rfl, Hc2.out.trans hc3⟩
  · rw [decide_eq_false hg] at Hgr
    have hpl : ps.length ≤ 131072 := by have := sumF_len ps; omega
    have Hpl := Lib.hid hpl
    clear hg hpl
    refine Hgr.out.mono ?_
    rintro e w3 ⟨rfl, hc3⟩
    have Hc3 := Lib.hid (Hc2.out.trans hc3)
    have Hs3 := Lib.hid (Hs2.out.keep hc3 fun _ _ => id)
    have Hk := Lib.hid (check_any ps _ _ kb ko _ w3 (Hev.out.keep Hc3.out).wd Hpl.out Hs3.out)
    clear hc3 Hgr
    obtain ⟨c1, hc1⟩ : ∃ c1, c1 = (checkF ps).1 := ⟨_, rfl⟩
    obtain ⟨c2, hc2⟩ : ∃ c2, c2 = (checkF ps).2 := ⟨_, rfl⟩
    rw [← hc1, ← hc2] at Hk
    have H1 := Lib.hid hc1
    have H2 := Lib.hid hc2
    clear hc1 hc2
    go_wp2_with fail
    refine Hk.out.mono ?_
    rintro e w4 ⟨rfl, hc4⟩
    have Hc4 := Lib.hid (Hc3.out.trans hc4)
    have Hs4 := Lib.hid (Hs3.out.keep hc4 fun _ _ => id)
    have Hrk := Lib.hid (refCheck_any ps _ _ kb ko w4 Hs4.out)
    rw [← H1.out, ← H2.out] at Hrk
    clear hc4 Hk
    go_wp2_with fail
    refine Hrk.out.mono ?_
    rintro e w5 ⟨rfl, hc5⟩
    have Hc5 := Lib.hid (Hc4.out.trans hc5)
    have Hs5 := Lib.hid (Hs4.out.keep hc5 fun _ _ => id)
    have He := Lib.hid (encode_any ps _ _ kb ko _ w5 (Hev.out.keep Hc5.out) Hpl.out Hs5.out)
    obtain ⟨e1, he1⟩ : ∃ e1, e1 = (encF ps).1 := ⟨_, rfl⟩
    obtain ⟨e2, he2⟩ : ∃ e2, e2 = (encF ps).2 := ⟨_, rfl⟩
    rw [← he1, ← he2] at He
    have E1 := Lib.hid he1
    have E2 := Lib.hid he2
    clear hc5 Hrk he1 he2
    go_wp2_with fail
    refine He.out.mono ?_
    rintro e w6 ⟨hc6, rfl⟩
    have Hc6 := Lib.hid (Hc5.out.trans hc6)
    have Hs6 := Lib.hid (Hs5.out.keep hc6 fun _ _ => id)
    have Hre := Lib.hid (refEncode_any ps _ _ kb ko _ w6 (Hev.out.keep Hc6.out) Hs6.out)
    rw [← E1.out, ← E2.out] at Hre
    clear hc6 He
    go_wp2_with fail
    refine Hre.out.mono ?_
    rintro e w7 ⟨hc7, rfl⟩
    have hself : (e1.toList == e1.toList) = true := by simp
    go_wp2_with fail
    go_ret
    exact ⟨rfl, Hc6.out.trans hc7⟩
/-FRAME-/
set_option maxRecDepth 100000 in
theorem codeChecks_lifted (os : Os) (started : os.Started) (H : Type) (enc : TypeId × Value → H) :
    ReturnsInHanded {} Tryd.checked os 4 .any (fun w args => (Rows.codeChecksSpec.pre enc Tryd.prog Tryd.f4 [] false w args ∧ laidMetH Tryd.prog Rows.codeChecksRow.laid w) ∧ sizedMet enc Tryd.prog Tryd.f4 (OpenSpec.ofChange Rows.codeChecksSpec) false w args)
      (Rows.codeChecksSpec.post enc Tryd.prog Tryd.f4 false true false false) := by
  refine returns_both (C := Tryd.checked) (X := fun w _ => laidMetH Tryd.prog Rows.codeChecksRow.laid w) (fun _ _ _ hh h => h.of_heap hh) Tryd.own started (by kernel_rfl) Tryd.func4
    (ChangeSpec.witness_shaped (enc := enc) (C := Tryd.checked) (os := os) (X := fun w _ => laidMetH Tryd.prog Rows.codeChecksRow.laid w) false (World.laidAll Tryd.prog os Rows.codeChecksRow.laid) #[.slice none 0 0] 8 (World.laidAll_os _ _ _)
      (World.shaped_of_ZipB (by kernel_rfl) (by kernel_rfl)) (by kernel_rfl) (by kernel_rfl) (by kernel_rfl)
      (by rw [MakeChecks.laidMetH_plain _ _ _ (by kernel_rfl)]; exact laidMet_laidAll _ (by kernel_rfl) (by kernel_rfl))) ?_
  intro W base args ds gs before hval0 hW _ hsz hL hsh _
  have hval : ∀ (j : Nat) t v, Tryd.f4.params[j]? = some t → args[j]? = some v → Value.okWide Tryd.prog W .any base t v := hval0
  have hW' := hW
  obtain ⟨p, q, hA0, hV, rfl, _, _⟩ := hW
  have hA : DataW.TrodAll enc Tryd.prog W 0 (fun _ => true) true Tryd.f4.params.toList args.toList ds p := hA0
  have hsz1 : (DataW.weightsEach Tryd.prog (Tryd.f4.params.toList ++ Rows.codeChecksSpec.plain.varTypes Tryd.prog) (ds ++ gs)).all (· ≤ reachBytes) = true := hsz
  rw [Tryd.params4] at hA hval hsz1
  obtain ⟨v0, d0, rfl, rfl, h0⟩ := trodAll_one hA
  obtain ⟨rfl, rfl⟩ := trodVars_none hV
  obtain ⟨ks0, kb0, ko0, hn0⟩ := open_inss (hval 0 27 v0 rfl rfl) h0 (fun m hm => of_decide_eq_true (List.all_eq_true.1 hsz1 m (DataW.weights_mem_each (j := 0) (t := 27) (d := d0) rfl rfl m hm)))
  simp only [List.append_nil] at hW'
  rw [MakeChecks.laidMetH_plain _ _ _ (by kernel_rfl)] at hL
  have hL' : laidMet Tryd.prog [("math/bits.deBruijn32tab", Rows.laid_math_bits_deBruijn32tab), ("math/bits.deBruijn64tab", Rows.laid_math_bits_deBruijn64tab), ("internal/strconv.uint64pow10", Rows.laid_internal_strconv_uint64pow10), ("sapling/code.words", Rows.laid_sapling_code_words)] W := hL
  have hlb : Ev W.heap.size W := ev_of hL' (.tail _ (.tail _ (.head _))) (.tail _ (.tail _ (.tail _ (.head _))))
  clear hA0 hval0
  refine (codeChecks_all ks0 _ kb0 ko0 W hn0 hlb).mono fun e W' ⟨he, hb⟩ => ?_
  subst he
  exact ⟨_, rfl, _, _, _, [], _, [], hW', trodAll_mk1 (shut_bool Tryd.underlying4 _), (trodAll_cons_mk (inss_stay h0 hb.below) trodAll_mk0), rfl, hb.below.frame _, fun h => by cases h⟩
theorem codeChecks_holds : Rows.CodeChecksSaid :=
  OpenClaim.holds_of_wide 4 Tryd.f4 rfl rfl rfl rfl rfl rfl rfl ⟨rfl, rfl, rfl, rfl, rfl⟩ rfl rfl rfl rfl rfl (by kernel_rfl) Tryd.func4 (by kernel_rfl)
    (of_decide_eq_true (by kernel_rfl)) (by unfold Func.isWrapper; first | (rw [if_pos (by decide +kernel)]; kernel_rfl) | (rw [if_neg (by decide +kernel)]; exact ⟨rfl, rfl⟩))
    (fun os started H enc _ => codeChecks_lifted os started H enc)
theorem codeChecks_card : Rows.CodeChecksCardSaid :=
  Claim7.holds_tied_plain_at .later [] [.data, .data, .data, .widerDeep] true (true, "166fac47c3a1e9ae55e0ab713b98f5f77e3cfb8c98394ef8a9c8f24cf41118a9") true codeChecks_holds (fun _ h => by cases h) (by kernel_rfl) (fun _ h => by cases h) codeChecks_row_tie rfl ⟨rfl, rfl⟩ (by kernel_rfl) rfl
    (fun f fn hf hfn => by
      obtain rfl : f = 4 := Option.some.inj ((show Tryd.prog.funcNamed "sapling/saplinglaw08.CodeChecks" = some 4 by kernel_rfl).symm.trans hf) |>.symm
      obtain rfl : fn = Tryd.f4 := (Option.some.inj (Tryd.func4.symm.trans hfn)).symm
      exact ⟨by kernel_rfl, fun j t ht => by
        rw [Tryd.params4] at ht
        have hm : t ∈ [27] := by simpa using Array.mem_of_getElem? ht
        have hall : ([27].all fun u => !Tryd.prog.wantsStandIn u) = true := by kernel_rfl
        exact (show Tryd.prog.wantsStandIn t = false by simpa using List.all_eq_true.1 hall t hm)⟩)
    (by kernel_rfl)
#print axioms codeChecks_card
end Go.Proofs.YtdeikcmkfmnjmaaDoor
