/- Proved: the statement SexpCuts holds for every node, every number, every byte. Conditions: the listed package variables read as the program's text lays them (the card ties them); nothing else. -/
import Derived.Test.YtodcbagjmbdafaaDoorSxTells
namespace Go.Proofs.YtodcbagjmbdafaaDoor
open Go.ChangeShapes Go.WideShapes Go.ChangeAt Go.RowKit
set_option linter.unusedVariables false
open Go.ChangeMaps (open_string shut_string)
theorem dec_pre {n : Nd} {ys : List UInt8} (h : putN n 0 [] = .ok ys) (k : Nat) (hk : k < ys.length) : decR (ys.take k) = .error 5 := by
  obtain ⟨e1, o1, hl⟩ := putN_ok _ _ _ _ h
  rw [List.nil_append] at e1
  have hp := rd_pre n 0 (ys.take k) (ys.drop k) (2 * (ys.take k).length + 1) o1 (by rw [← e1, List.take_append_drop]) (by intro e; have := congrArg List.length e; rw [List.length_drop, List.length_nil] at this; omega) (Nat.le_refl _)
  unfold decR decN
  rw [if_neg (by rw [List.length_take]; omega), hp]
theorem dec_more {n : Nd} {ys : List UInt8} (h : putN n 0 [] = .ok ys) (c : UInt8) (hl : ys.length ≤ 4096) : decR (ys ++ [c]) = .error 5 := by
  obtain ⟨e1, o1, _⟩ := putN_ok _ _ _ _ h
  rw [List.nil_append] at e1
  have hp := rd_enc n 0 [c] (2 * (ys ++ [c]).length + 1) o1 (by rw [← e1]; exact Nat.le_refl _)
  rw [← e1] at hp
  unfold decR decN
  rw [if_neg (by rw [List.length_append]; simp; omega), hp]
  simp
theorem u8_of {x : Int} (h : (Lit.int .u8 x).wf = true) : ∃ c : UInt8, x = (c.toNat : Int) := by
  obtain ⟨h0, h1⟩ := bounds_u8 h
  refine ⟨UInt8.ofNat x.toNat, ?_⟩
  rw [UInt8.toNat_ofNat']
  omega
theorem add_tx (a : List UInt8) (c : UInt8) : tx a ++ ⟨#[c]⟩ = tx (a ++ [c]) := by
  apply ByteArray.ext
  simp [tx]
theorem one_src (w : World) (c : UInt8) : Src (w.alloc (.cells #[.int .u8 (c.toNat : Int)] 5)) (.slice (some ⟨w.heap.size, 0, none⟩) 1 1) [c] := by
  refine .inr ⟨⟨w.heap.size, 0, none⟩, 1, rfl, Nat.le_refl _, by decide, fun j hj => ?_⟩
  have := lit_one w (c.toNat : Int) j (.int .u8 (c.toNat : Int)) (by simp at hj; subst hj; rfl)
  simp at hj
  subst hj
  exact this
set_option maxHeartbeats 4000000 in
set_option maxRecDepth 20000 in
theorem sexpCuts_all (n : Nd) (v : Value) (x1 x2 : Int) (W : World) (hv : NdV W (OldB W) v n) (wx1 : (Lit.int .i64 x1).wf = true) (wx2 : (Lit.int .u8 x2).wf = true) (hl : Lb W.heap.size W) :
    Calls Tryd.prog 9 #[v, .int .i64 x1, .int .u8 x2] W fun e w' => e = .returned (.bool true) ∧ Chg NoB W w' := by
  obtain ⟨q, len, c, rfl⟩ := box_node hv
  obtain ⟨b, rfl⟩ := u8_of wx2
  have hal := (Chg.refl NoB W).alloc (.cells #[.bool n.leaf, .string n.atom, .slice q len c] 24)
  have hblk := heap_alloc_new W (.cells #[.bool n.leaf, .string n.atom, .slice q len c] 24)
  obtain ⟨vb, hvb⟩ : ∃ vb, vb = W.heap.size := ⟨_, rfl⟩
  rw [← hvb] at hblk
  have Hvb := Lib.hid hvb
  have Hal := Lib.hid hal
  have Hblk := Lib.hid hblk
  have Hv := Lib.hid (hv.keep hal fun _ _ => id)
  have Hl := Lib.hid hl
  clear hal hblk hvb hv hl wx2
  go_enter Tryd.func9, Tryd.ntmps9
  go_upto_region 1 with fail
  rw [← Hvb.out]
  generalize W.alloc (.cells #[.bool n.leaf, .string n.atom, .slice q len c] 24) = w1 at *
  go_wp2_with fail
  refine (alive_any _ w1 (Hl.out.keep Hal.out)).mono ?_
  rintro e w2 ⟨rfl, hc2⟩
  have Hc2 := Lib.hid (Hal.out.trans hc2)
  have Hblk2 := Lib.hid (row_kept hc2 Hblk.out id)
  obtain ⟨v0, v1, v2⟩ := var3 Hblk2.out
  have Hv2 := Lib.hid (Hv.out.keep hc2 fun _ _ => id)
  have Hgr := Lib.hid (great_any n _ _ w2 Hv2.out)
  clear hc2
  go_wp2_with fail
  cases hg : greatN n with
  | true =>
    rw [hg] at Hgr
    refine Hgr.out.mono ?_
    rintro e w3 ⟨rfl, hc3⟩
    go_wp2_with fail
    go_ret
    exact ⟨rfl, Hc2.out.trans hc3⟩
  | false =>
    have hcnt := great_no hg
    rw [hg] at Hgr
    have Hcnt := Lib.hid hcnt
    clear hg hcnt
    refine Hgr.out.mono ?_
    rintro e w3 ⟨rfl, hc3⟩
    have Hc3 := Lib.hid (Hc2.out.trans hc3)
    have Hblk3 := Lib.hid (row_kept hc3 Hblk2.out id)
    have Hv3 := Lib.hid (Hv2.out.keep hc3 fun _ _ => id)
    clear v0 v1 v2
    obtain ⟨v0, v1, v2⟩ := var3 Hblk3.out
    have Henc := Lib.hid ((enc_any n (by have := Hcnt.out; omega) _ _ w3 Hv3.out (old_lt Hc3.out) (Hl.out.keep Hc3.out).top).mono fun e w' h => h.val)
    obtain ⟨r1, hr1⟩ : ∃ r1, r1 = putN n 0 [] := ⟨_, rfl⟩
    rw [← hr1] at Henc
    have Hr1 := Lib.hid hr1
    clear hc3 hr1
    go_wp2_with fail
    refine Henc.out.mono ?_
    rintro e w4 ⟨hc4, s1, y1, rfl, hs1, hy1⟩
    have Hs1 := Lib.hid hs1
    have Hy1 := Lib.hid hy1
    have Hc4 := Lib.hid (Hc3.out.trans hc4)
    clear hs1 hy1 hc4 v0 v1 v2
    cases r1 with
    | error y =>
      obtain ⟨g0, g1⟩ := putN_err _ _ _ _ Hr1.out.symm
      have hy : y1 = y := Hy1.out
      have hyb : (y1 == 0) = false := by rw [beq_eq_false_iff_ne]; omega
      have hyn : (y1 != 0) = true := by rw [bne, hyb]; rfl
      clear Hy1 Hs1 hy
      go_wp2_with fail
      go_ret
      exact ⟨rfl, Hc4.out⟩
    | ok ys =>
      obtain rfl : y1 = 0 := Hy1.out
      obtain rfl : s1 = tx ys := Hs1.out
      have hys : (tx ys).size = ys.length := tx_size ys
      clear Hy1 Hs1
      by_cases h1 : (4096 : Int) < (ys.length : Int)
      · go_wp2_with fail
        go_ret
        exact ⟨rfl, Hc4.out⟩
      · by_cases h2 : x1 < 0
        · go_wp2_with fail
          go_ret
          exact ⟨rfl, Hc4.out⟩
        · by_cases h3 : (ys.length : Int) ≤ x1
          · go_wp2_with fail
            go_ret
            exact ⟨rfl, Hc4.out⟩
          · obtain ⟨k, rfl⟩ := Int.eq_ofNat_of_zero_le (by omega : 0 ≤ x1)
            have hk : k < ys.length := by omega
            have hx1 : (tx ys).extract 0 k = tx (ys.take k) := tx_take ys k
            have Hd1 := Lib.hid (dec_any (ys.take k) w4 (Hl.out.keep Hc4.out).top (by rw [List.length_take]; omega))
            rw [dec_pre Hr1.out.symm k hk] at Hd1
            have h0 : (0 : Int) ≤ (k : Int) := by omega
            have h3' : (k : Int) < (ys.length : Int) := by omega
            have h3'' : (k : Int) ≤ (ys.length : Int) := by omega
            clear wx1
            go_wp2_with fail
            refine Hd1.out.mono ?_
            rintro e w5 ⟨hc5, rfl⟩
            have Hc5 := Lib.hid (Hc4.out.trans (hc5.alloc (.cells #[.bool false, .string ⟨#[]⟩, .slice none 0 0] 24)))
            unfold nodeZ
            clear hc5
            go_upto_region 9 with fail
            generalize w5.alloc (.cells #[.bool false, .string ⟨#[]⟩, .slice none 0 0] 24) = w6 at *
            have hcv := (one_src w6 b).conv
            have hcat := add_tx ys b
            have Hc6 := Lib.hid (Hc5.out.alloc (.cells #[.int .u8 (b.toNat : Int)] 5))
            have Hd2 := Lib.hid (dec_any (ys ++ [b]) (w6.alloc (.cells #[.int .u8 (b.toNat : Int)] 5)) (Hl.out.keep Hc6.out).top (by rw [List.length_append]; simp; omega))
            rw [dec_more Hr1.out.symm b (by omega)] at Hd2
            go_wp2_with fail
            refine Hd2.out.mono ?_
            rintro e w7 ⟨hc7, rfl⟩
            unfold nodeZ
            go_wp2_with fail
            go_ret
            exact ⟨rfl, (Hc6.out.trans hc7).alloc _⟩
/-FRAME-/
set_option maxRecDepth 100000 in
theorem sexpCuts_lifted (os : Os) (started : os.Started) (H : Type) (enc : TypeId × Value → H) :
    ReturnsInHanded {} Tryd.checked os 9 .any (fun w args => (Rows.sexpCutsSpec.pre enc Tryd.prog Tryd.f9 [] false w args ∧ laidMetH Tryd.prog Rows.sexpCutsRow.laid w) ∧ sizedMet enc Tryd.prog Tryd.f9 (OpenSpec.ofChange Rows.sexpCutsSpec) false w args)
      (Rows.sexpCutsSpec.post enc Tryd.prog Tryd.f9 false true false false) := by
  refine returns_both (C := Tryd.checked) (X := fun w _ => laidMetH Tryd.prog Rows.sexpCutsRow.laid w) (fun _ _ _ hh h => h.of_heap hh) Tryd.own started (by kernel_rfl) Tryd.func9
    (ChangeSpec.witness_shaped (enc := enc) (C := Tryd.checked) (os := os) (X := fun w _ => laidMetH Tryd.prog Rows.sexpCutsRow.laid w) false (World.laidAll Tryd.prog os Rows.sexpCutsRow.laid) #[.agg #[.bool false, .string ByteArray.empty, .slice none 0 0], .int .i64 0, .int .u8 0] 8 (World.laidAll_os _ _ _)
      (World.shaped_of_ZipB (by kernel_rfl) (by kernel_rfl)) (by kernel_rfl) (by kernel_rfl) (by kernel_rfl)
      (by rw [MakeChecks.laidMetH_plain _ _ _ (by kernel_rfl)]; exact laidMet_laidAll _ (by kernel_rfl) (by kernel_rfl))) ?_
  intro W base args ds gs before hval0 hW _ hsz hL hsh _
  have hval : ∀ (j : Nat) t v, Tryd.f9.params[j]? = some t → args[j]? = some v → Value.okWide Tryd.prog W .any base t v := hval0
  have hW' := hW
  obtain ⟨p, q, hA0, hV, rfl, _, _⟩ := hW
  have hA : DataW.TrodAll enc Tryd.prog W 0 (fun _ => true) true Tryd.f9.params.toList args.toList ds p := hA0
  rw [Tryd.params9] at hA hval
  obtain ⟨v0, v1, v2, d0, d1, d2, p0, p1, p2, rfl, rfl, rfl, h0, h1, h2⟩ := trodAll_three hA
  obtain ⟨rfl, rfl⟩ := trodVars_none hV
  obtain ⟨n0, hn0⟩ := open_node (hval 0 24 v0 rfl rfl) h0
  obtain ⟨x1, rfl, rfl, rfl, wx1⟩ := open_int Tryd.underlying3 (hval 1 3 v1 rfl rfl) h1
  obtain ⟨x2, rfl, rfl, rfl, wx2⟩ := open_int Tryd.underlying5 (hval 2 5 v2 rfl rfl) h2
  simp only [List.append_nil] at hW'
  rw [MakeChecks.laidMetH_plain _ _ _ (by kernel_rfl)] at hL
  have hlb : Lb W.heap.size W := lb_of hL hsh
  clear hA0 hval0
  refine (sexpCuts_all n0 _ x1 x2 W hn0 wx1 wx2 hlb).mono fun e W' ⟨he, hb⟩ => ?_
  subst he
  exact ⟨_, rfl, _, _, _, [], _, [], hW', trodAll_mk1 (shut_bool Tryd.underlying4 _), (trodAll_cons_mk (node_stays h0 hb.below) (trodAll_cons_mk (shut_int Tryd.underlying3 wx1) (trodAll_cons_mk (shut_int Tryd.underlying5 wx2) trodAll_mk0))), rfl, hb.below.frame _, fun h => by cases h⟩
theorem sexpCuts_holds : Rows.SexpCutsSaid :=
  OpenClaim.holds_of_wide 9 Tryd.f9 rfl rfl rfl rfl rfl rfl rfl ⟨rfl, rfl, rfl, rfl, rfl⟩ rfl rfl rfl rfl rfl (by kernel_rfl) Tryd.func9 (by kernel_rfl)
    (of_decide_eq_true (by kernel_rfl)) (by unfold Func.isWrapper; first | (rw [if_pos (by decide +kernel)]; kernel_rfl) | (rw [if_neg (by decide +kernel)]; exact ⟨rfl, rfl⟩))
    (fun os started H enc _ => sexpCuts_lifted os started H enc)
theorem sexpCuts_card : Rows.SexpCutsCardSaid :=
  Claim7.holds_tied_plain_at .later [] [.data, .data, .data, .sentinel, .sentinel] true (true, "1aacac15555e80772747c4c143a44f28a139365c580872b528a8a21d441e086a") true sexpCuts_holds (fun _ h => by cases h) (by kernel_rfl) (fun _ h => by cases h) sexpCuts_row_tie rfl ⟨rfl, rfl⟩ (by kernel_rfl) rfl
    (fun f fn hf hfn => by
      obtain rfl : f = 9 := Option.some.inj ((show Tryd.prog.funcNamed "sapling/saplinglaw01.SexpCuts" = some 9 by kernel_rfl).symm.trans hf) |>.symm
      obtain rfl : fn = Tryd.f9 := (Option.some.inj (Tryd.func9.symm.trans hfn)).symm
      exact ⟨by kernel_rfl, fun j t ht => by
        rw [Tryd.params9] at ht
        have hm : t ∈ [24, 3, 5] := by simpa using Array.mem_of_getElem? ht
        have hall : ([24, 3, 5].all fun u => !Tryd.prog.wantsStandIn u) = true := by kernel_rfl
        exact (show Tryd.prog.wantsStandIn t = false by simpa using List.all_eq_true.1 hall t hm)⟩)
    (by kernel_rfl)
#print axioms sexpCuts_card
end Go.Proofs.YtodcbagjmbdafaaDoor
