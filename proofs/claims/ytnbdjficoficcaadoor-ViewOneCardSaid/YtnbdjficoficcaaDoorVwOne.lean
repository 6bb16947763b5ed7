/- Proved: the statement ViewOne holds for every mount and every text. Conditions: the listed package variables read as the program's text lays them (the card ties them); nothing else. -/
import Derived.Test.YtnbdjficoficcaaDoorVwPerm

namespace Go.Proofs.YtnbdjficoficcaaDoor
set_option linter.unusedVariables false
open Go.ChangeShapes Go.WideShapes Go.ChangeAt Go.RowKit
open Go.ChangeMaps (open_string shut_string)
theorem mntS_one {w : World} {b : Nat} {S : Nat → Prop} {x : List UInt8} {s : List FileL} {q : Option Addr} {n c sb so : Nat} (h : w.heap[b]? = some (.cells #[.string (tx x), .slice q n c] 35 (0, 0))) (hb : S b)
    (hn : n = s.length) (hs : InpS w S (.slice q n c) s sb so) : MntS w S (.slice (some ⟨b, 0, none⟩) 1 1) [(x, s)] b 0 := by
  obtain ⟨h0, h1⟩ := var2 h
  refine ⟨⟨_, 1, rfl, Nat.le_refl _, by decide, fun _ => ⟨rfl, hb⟩⟩, fun i hi => ?_⟩
  match i, hi with
  | 0, _ => exact ⟨h0, q, n, c, sb, so, hn, h1, hs⟩
theorem tx_join (d p : List UInt8) : tx d ++ (⟨#[47]⟩ : ByteArray) ++ tx p = tx (d ++ (47 :: p)) := by
  apply ByteArray.ext
  simp [tx]
set_option maxHeartbeats 4000000 in
set_option maxRecDepth 20000 in
theorem viewOne_all (m : MntL) (v : Value) (kb ko : Nat) (p : ByteArray) (W : World) (hs : InpS W (OldB W) v m.2 kb ko) (hr : m.1.length ≤ 140737488351232 ∧ Reach m.2) (wp : p.size ≤ maxLen) (hml : Pth.Ml W) :
    Calls Tryd.prog 7 #[.agg #[.string (tx m.1), v], .string p] W fun e w' => e = .returned (.bool true) ∧ Chg NoB W w' := by
  obtain ⟨d, s⟩ := m
  simp only at hs hr ⊢
  have Hs := Lib.hid hs
  obtain ⟨⟨q, c, rfl, h1, h2, h3⟩, hat⟩ := hs
  obtain ⟨n, hn⟩ : ∃ n, n = s.length := ⟨_, rfl⟩
  rw [← hn] at Hs h1 ⊢
  have Hn := Lib.hid hn
  have Hr := Lib.hid hr
  have Hml := Lib.hid hml
  unfold maxLen at h2 wp
  obtain ⟨pl, rfl⟩ : ∃ pl, p = tx pl := ⟨p.data.toList, (tx_back p).symm⟩
  have hpz : (tx pl).size = pl.length := tx_size pl
  clear hn hr hml h3 hat
  have hal_ := (Chg.refl NoB W).alloc (.cells #[.string (tx d), .slice q n c] 35)
  have hb_ := heap_alloc_new W (.cells #[.string (tx d), .slice q n c] 35)
  obtain ⟨mb, hxb_⟩ : ∃ b, b = W.heap.size := ⟨_, rfl⟩
  obtain ⟨w1, hw_⟩ : ∃ w_, W.alloc (.cells #[.string (tx d), .slice q n c] 35) = w_ := ⟨_, rfl⟩
  have hz_ : w1.heap.size = mb + 1 := by rw [← hw_, hxb_]; exact alloc_size _ _
  rw [hw_] at hal_ hb_
  rw [← hxb_] at hb_
  have Hw1 := Lib.hid hw_
  have Hx1 := Lib.hid hxb_
  have Ha1 := Lib.hid hal_
  have Hb1 := Lib.hid hb_
  have Hz1 := Lib.hid hz_
  clear hal_ hb_ hxb_ hw_ hz_
  have m0 := var2 Hb1.out
  obtain ⟨m0, m1⟩ := m0
  go_enter Tryd.func7, Tryd.ntmps7
  go_upto_region 1 with fail
  rw [Hw1.out, ← Hx1.out]
  go_wp2_with fail
  refine (valive_any w1 (ml_keep Hml.out Ha1.out)).mono ?_
  rintro e w2 ⟨rfl, hc2⟩
  have Hb12 := Lib.hid (row_kept hc2 Hb1.out id)
  have Hc2 := Lib.hid (Ha1.out.trans hc2)
  clear hc2 m0 m1
  obtain ⟨m0, m1⟩ := var2 Hb12.out
  have hal_ := (Chg.refl NoB w2).alloc (.cells #[.string (tx d), .slice q n c] 35)
  have hb_ := heap_alloc_new w2 (.cells #[.string (tx d), .slice q n c] 35)
  obtain ⟨b3, hxb_⟩ : ∃ b, b = w2.heap.size := ⟨_, rfl⟩
  obtain ⟨w3, hw_⟩ : ∃ w_, w2.alloc (.cells #[.string (tx d), .slice q n c] 35) = w_ := ⟨_, rfl⟩
  have hz_ : w3.heap.size = b3 + 1 := by rw [← hw_, hxb_]; exact alloc_size _ _
  rw [hw_] at hal_ hb_
  rw [← hxb_] at hb_
  have Hw3 := Lib.hid hw_
  have Hx3 := Lib.hid hxb_
  have Ha3 := Lib.hid hal_
  have Hb3 := Lib.hid hb_
  have Hz3 := Lib.hid hz_
  clear hal_ hb_ hxb_ hw_ hz_
  have Hc3 := Lib.hid (Hc2.out.trans Ha3.out)
  have Hgr := Lib.hid (vgreat_any [(d, s)] ⟨by simp, fun y hy => by obtain rfl := List.mem_singleton.1 hy; exact Hr.out⟩ (fun k => OldB W k ∨ k = b3) _ b3 0 w3 (mntS_one Hb3.out (.inr rfl) Hn.out ((Hs.out.keep Hc3.out fun _ _ => id).mono fun k h => .inl h)))
  obtain ⟨g, hg⟩ : ∃ g, g = greatM [(d, s)] := ⟨_, rfl⟩
  rw [← hg] at Hgr
  have Hg := Lib.hid hg
  clear hg
  go_wp2_with fail
  rw [Hw3.out, ← Hx3.out]
  refine Hgr.out.mono ?_
  rintro e w4 ⟨rfl, hc4⟩
  have Hb14 := Lib.hid (row_kept (Ha3.out.trans hc4) Hb12.out id)
  have Hc4 := Lib.hid (Hc3.out.trans hc4)
  clear hc4 Hgr m0 m1
  cases g with
  | true =>
    go_wp2_with fail
    go_ret
    exact ⟨rfl, Hc4.out⟩
  | false =>
  by_cases hp : (1024 : Int) < ((tx pl).size : Int)
  · go_wp2_with fail
    go_ret
    exact ⟨rfl, Hc4.out⟩
  have hpl : pl.length ≤ 1024 := by omega
  obtain ⟨hsm1, hsm2⟩ := small_w Hg.out.symm
  have hsd := hsm2 (d, s) (List.mem_cons_self ..)
  change d.length ≤ _ ∧ s.length ≤ _ ∧ _ at hsd
  have Hsd := Lib.hid hsd
  have hdz : (tx d).size = d.length := tx_size d
  have hd1 := hsd.1
  have HJ := Lib.hid (tx_join d pl)
  have Hpl := Lib.hid hpl
  clear hsd
  obtain ⟨m0, m1⟩ := var2 Hb14.out
  have hal_ := (Chg.refl NoB w4).alloc (.cells #[.string (tx d), .slice q n c] 35)
  have hb_ := heap_alloc_new w4 (.cells #[.string (tx d), .slice q n c] 35)
  obtain ⟨b5, hxb_⟩ : ∃ b, b = w4.heap.size := ⟨_, rfl⟩
  obtain ⟨w5, hw_⟩ : ∃ w_, w4.alloc (.cells #[.string (tx d), .slice q n c] 35) = w_ := ⟨_, rfl⟩
  have hz_ : w5.heap.size = b5 + 1 := by rw [← hw_, hxb_]; exact alloc_size _ _
  rw [hw_] at hal_ hb_
  rw [← hxb_] at hb_
  have Hw5 := Lib.hid hw_
  have Hx5 := Lib.hid hxb_
  have Ha5 := Lib.hid hal_
  have Hb5 := Lib.hid hb_
  have Hz5 := Lib.hid hz_
  clear hal_ hb_ hxb_ hw_ hz_
  have Hc5 := Lib.hid (Hc4.out.trans Ha5.out)
  have HA := Lib.hid (vbuild_any [(d, s)] hsm1 hsm2 (fun k => OldB W k ∨ k = b5) _ b5 0 w5 (ml_keep Hml.out Hc5.out) (mntS_one Hb5.out (.inr rfl) Hn.out ((Hs.out.keep Hc5.out fun _ _ => id).mono fun k h => .inl h)))
  have hgd := build_good [(d, s)]
  obtain ⟨r, hr⟩ : ∃ r, r = buildF [(d, s)] := ⟨_, rfl⟩
  rw [← hr] at HA hgd
  have Hr1 := Lib.hid hr
  obtain ⟨yy, hyy⟩ : ∃ yy, yy = outE r := ⟨_, rfl⟩
  rw [← hyy] at HA
  have Hyy := Lib.hid hyy
  clear hyy
  have Hgw := Lib.hid (good_w hgd)
  clear hgd hr hsm1 hsm2
  go_wp2_with fail
  rw [Hw5.out, ← Hx5.out]
  refine HA.out.mono ?_
  rintro e w6 ⟨hc6, q6, n6, c6, kb6, ko6, hn6, rfl, hs6⟩
  have Hn6 := Lib.hid hn6
  have Hs6 := Lib.hid hs6
  have Hc6 := Lib.hid (Hc5.out.trans hc6)
  have Hb16 := Lib.hid (row_kept (Ha5.out.trans hc6) Hb14.out id)
  clear hn6 hs6 hc6 m0 m1
  have hal_ := (Chg.refl NoB w6).alloc (.cells #[.slice q6 n6 c6] 27)
  have hb_ := heap_alloc_new w6 (.cells #[.slice q6 n6 c6] 27)
  obtain ⟨b7, hxb_⟩ : ∃ b, b = w6.heap.size := ⟨_, rfl⟩
  obtain ⟨w7, hw_⟩ : ∃ w_, w6.alloc (.cells #[.slice q6 n6 c6] 27) = w_ := ⟨_, rfl⟩
  have hz_ : w7.heap.size = b7 + 1 := by rw [← hw_, hxb_]; exact alloc_size _ _
  rw [hw_] at hal_ hb_
  rw [← hxb_] at hb_
  have Hw7 := Lib.hid hw_
  have Hx7 := Lib.hid hxb_
  have Ha7 := Lib.hid hal_
  have Hb7 := Lib.hid hb_
  have Hz7 := Lib.hid hz_
  clear hal_ hb_ hxb_ hw_ hz_
  have Hc7 := Lib.hid (Hc6.out.trans Ha7.out)
  have Hb17 := Lib.hid (row_kept Ha7.out Hb16.out id)
  cases r with
  | error y =>
    obtain rfl : yy = y := Hyy.out
    have hy : (yy == 0) = false := by rw [beq_eq_false_iff_ne]; exact build_err Hr1.out.symm
    have hy2 : (yy != 0) = true := by simp [bne, hy]
    obtain rfl : n6 = 0 := Hn6.out
    have t0 := var1 Hb7.out
    go_upto_region 6 with fail
    rw [Hw7.out, ← Hx7.out]
    go_wp2_with fail
    go_ret
    exact ⟨rfl, Hc7.out⟩
  | ok u =>
    obtain rfl : yy = 0 := Hyy.out
    have hone := build_one (m := (d, s)) Hr1.out.symm pl
    change getF u (d ++ (47 :: pl)) = getF s pl ∧ getF u d = ([], false) ∧ u.length = s.length at hone
    change Hid (u.length ≤ 1048576 ∧ _) at Hgw
    change Hid (n6 = u.length) at Hn6
    change Hid (InpS w6 _ _ u _ _) at Hs6
    have hn6n : n6 = n := by rw [Hn6.out, Hn.out, hone.2.2]
    subst hn6n
    have G1 := Lib.hid (fun w' (h : Chg NoB w6 w') => get_any u (d ++ (47 :: pl)) _ _ _ _ w' Hgw.out.1 (Hs6.out.keep h fun _ _ => id))
    have G2 := Lib.hid (fun w' (h : Chg NoB W w') => get_any s pl _ _ _ _ w' Hsd.out.2.1 (Hs.out.keep h fun _ _ => id))
    have G3 := Lib.hid (fun w' (h : Chg NoB w6 w') => get_any u d _ _ _ _ w' Hgw.out.1 (Hs6.out.keep h fun _ _ => id))
    rw [hone.1] at G1
    rw [hone.2.1] at G3
    generalize (getF s pl).1 = a1 at *
    generalize (getF s pl).2 = a2 at *
    have Hone := Lib.hid hone
    clear hone
    have t0 := var1 Hb7.out
    obtain ⟨m0, m1⟩ := var2 Hb17.out
    go_upto_region 6 with fail
    rw [Hw7.out, ← Hx7.out]
    go_wp2_with fail
    rw [HJ.out]
    refine (G1.out _ Ha7.out).mono ?_
    rintro e w8 ⟨hc8, rfl⟩
    have Hb18 := Lib.hid (row_kept hc8 Hb17.out id)
    have Hb78 := Lib.hid (row_kept hc8 Hb7.out id)
    have Hc8 := Lib.hid (Hc7.out.trans hc8)
    have Hd8 := Lib.hid (Ha7.out.trans hc8)
    clear hc8 m0 m1 t0
    obtain ⟨m0, m1⟩ := var2 Hb18.out
    go_wp2_with fail
    refine (G2.out _ Hc8.out).mono ?_
    rintro e w9 ⟨hc9, rfl⟩
    have Hb19 := Lib.hid (row_kept hc9 Hb18.out id)
    have Hb79 := Lib.hid (row_kept hc9 Hb78.out id)
    have Hc9 := Lib.hid (Hc8.out.trans hc9)
    have Hd9 := Lib.hid (Hd8.out.trans hc9)
    clear hc9 m0 m1
    obtain ⟨m0, m1⟩ := var2 Hb19.out
    have t0 := var1 Hb79.out
    go_wp2_with fail
    refine (G3.out _ Hd9.out).mono ?_
    rintro e w10 ⟨hc10, rfl⟩
    have Hc10 := Lib.hid (Hc9.out.trans hc10)
    have m1' := (var2 (row_kept hc10 Hb19.out id)).2
    have t0' := var1 (row_kept hc10 Hb79.out id)
    have haa : ((tx a1).toList == (tx a1).toList) = true := by simp
    have ha2 : (a2 == a2) = true := by simp
    clear hc10 m0 m1 t0
    go_wp2_with fail
    go_ret
    exact ⟨rfl, Hc10.out⟩
/-FRAME-/
set_option maxRecDepth 100000 in
theorem viewOne_lifted (os : Os) (started : os.Started) (H : Type) (enc : TypeId × Value → H) :
    ReturnsInHanded {} Tryd.checked os 7 .any (fun w args => (Rows.viewOneSpec.pre enc Tryd.prog Tryd.f7 [] false w args ∧ laidMetH Tryd.prog Rows.viewOneRow.laid w) ∧ sizedMet enc Tryd.prog Tryd.f7 (OpenSpec.ofChange Rows.viewOneSpec) false w args)
      (Rows.viewOneSpec.post enc Tryd.prog Tryd.f7 false true false false) := by
  refine returns_both (C := Tryd.checked) (X := fun w _ => laidMetH Tryd.prog Rows.viewOneRow.laid w) (fun _ _ _ hh h => h.of_heap hh) Tryd.own started (by kernel_rfl) Tryd.func7
    (ChangeSpec.witness_shaped (enc := enc) (C := Tryd.checked) (os := os) (X := fun w _ => laidMetH Tryd.prog Rows.viewOneRow.laid w) false (World.laidAll Tryd.prog os Rows.viewOneRow.laid) #[.agg #[.string ByteArray.empty, .slice none 0 0], .string ByteArray.empty] 8 (World.laidAll_os _ _ _)
      (World.shaped_of_ZipB (by kernel_rfl) (by kernel_rfl)) (by kernel_rfl) (by kernel_rfl) (by kernel_rfl)
      (by rw [MakeChecks.laidMetH_plain _ _ _ (by kernel_rfl)]; exact laidMet_laidAll _ (by kernel_rfl) (by kernel_rfl))) ?_
  intro W base args ds gs before hval0 hW _ hsz hL hsh _
  have hval : ∀ (j : Nat) t v, Tryd.f7.params[j]? = some t → args[j]? = some v → Value.okWide Tryd.prog W .any base t v := hval0
  have hW' := hW
  obtain ⟨p, q, hA0, hV, rfl, _, _⟩ := hW
  have hA : DataW.TrodAll enc Tryd.prog W 0 (fun _ => true) true Tryd.f7.params.toList args.toList ds p := hA0
  have hsz1 : (DataW.weightsEach Tryd.prog (Tryd.f7.params.toList ++ Rows.viewOneSpec.plain.varTypes Tryd.prog) (ds ++ gs)).all (· ≤ reachBytes) = true := hsz
  rw [Tryd.params7] at hA hval hsz1
  obtain ⟨v0, v1, d0, d1, p0, p1, rfl, rfl, rfl, h0, h1⟩ := trodAll_two hA
  obtain ⟨rfl, rfl⟩ := trodVars_none hV
  obtain ⟨m0, c0, kb0, ko0, rfl, hn0, hr0⟩ := open_mount (hval 0 35 v0 rfl rfl) h0 (fun m hm => of_decide_eq_true (List.all_eq_true.1 hsz1 m (DataW.weights_mem_each (j := 0) (t := 35) (d := d0) rfl rfl m hm)))
  obtain ⟨x1, rfl, rfl, rfl, wx1⟩ := open_string Tryd.underlying9 (hval 1 9 v1 rfl rfl) h1
  simp only [List.append_nil] at hW'
  rw [MakeChecks.laidMetH_plain _ _ _ (by kernel_rfl)] at hL
  have hml : Pth.Ml W := wml_of hsh
  clear hA0 hval0
  refine (viewOne_all m0 _ kb0 ko0 x1 W hn0 hr0 wx1 hml).mono fun e W' ⟨he, hb⟩ => ?_
  subst he
  exact ⟨_, rfl, _, _, _, [], _, [], hW', trodAll_mk1 (shut_bool Tryd.underlying4 _), (trodAll_cons_mk (mount_stays h0 hb.below) (trodAll_cons_mk (shut_string Tryd.underlying9 wx1) trodAll_mk0)), rfl, hb.below.frame _, fun h => by cases h⟩
theorem viewOne_holds : Rows.ViewOneSaid :=
  OpenClaim.holds_of_wide 7 Tryd.f7 rfl rfl rfl rfl rfl rfl rfl ⟨rfl, rfl, rfl, rfl, rfl⟩ rfl rfl rfl rfl rfl (by kernel_rfl) Tryd.func7 (by kernel_rfl)
    (of_decide_eq_true (by kernel_rfl)) (by unfold Func.isWrapper; first | (rw [if_pos (by decide +kernel)]; kernel_rfl) | (rw [if_neg (by decide +kernel)]; exact ⟨rfl, rfl⟩))
    (fun os started H enc _ => viewOne_lifted os started H enc)
theorem viewOne_card : Rows.ViewOneCardSaid :=
  Claim7.holds_tied_plain_at .later [] [.data, .pinned] true (true, "86869f4e0d2b7613ef962574d9f579f063d7be76b275564b7df8f38d61515bd3") false viewOne_holds (fun _ h => by cases h) (by kernel_rfl) (fun _ h => by cases h) viewOne_row_tie rfl ⟨rfl, rfl⟩ (by kernel_rfl) rfl
    (fun f fn hf hfn => by
      obtain rfl : f = 7 := Option.some.inj ((show Tryd.prog.funcNamed "sapling/saplinglaw11.ViewOne" = some 7 by kernel_rfl).symm.trans hf) |>.symm
      obtain rfl : fn = Tryd.f7 := (Option.some.inj (Tryd.func7.symm.trans hfn)).symm
      exact ⟨by kernel_rfl, fun j t ht => by
        rw [Tryd.params7] at ht
        have hm : t ∈ [35, 9] := by simpa using Array.mem_of_getElem? ht
        have hall : ([35, 9].all fun u => !Tryd.prog.wantsStandIn u) = true := by kernel_rfl
        exact (show Tryd.prog.wantsStandIn t = false by simpa using List.all_eq_true.1 hall t hm)⟩)
    (by kernel_rfl)
#print axioms viewOne_card
end Go.Proofs.YtnbdjficoficcaaDoor
