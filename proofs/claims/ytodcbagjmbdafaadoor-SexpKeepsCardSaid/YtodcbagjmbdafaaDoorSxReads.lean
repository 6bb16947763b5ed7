/- Proved: the statement SexpReads holds for every text. Conditions: the listed package variables read as the program's text lays them (the card ties them); nothing else. -/
import Derived.Test.YtodcbagjmbdafaaDoorSxBack
import Derived.Test.YtodcbagjmbdafaaDoorSxTake
namespace Go.Proofs.YtodcbagjmbdafaaDoor
open Go.ChangeShapes Go.WideShapes Go.ChangeAt Go.RowKit
set_option linter.unusedVariables false
open Go.ChangeMaps (open_string shut_string)
set_option maxHeartbeats 4000000 in
set_option maxRecDepth 20000 in
theorem decT_any (S : ByteArray) (w : World) (hs : S.size ≤ 1048576) :
    Calls Tryd.prog 16 #[.string S] w (DecP (decR S.data.toList) w) := by
  have hsl : S.data.toList.length = S.size := by simp
  have Hsl := Lib.hid hsl
  have hal := (Chg.refl NoB w).alloc (.cells #[.bool false, .string ⟨#[]⟩, .slice none 0 0] 24)
  have hblk := heap_alloc_new w (.cells #[.bool false, .string ⟨#[]⟩, .slice none 0 0] 24)
  obtain ⟨vb, hvb⟩ : ∃ vb, vb = w.heap.size := ⟨_, rfl⟩
  have hsz := lt_of_block hblk
  rw [← hvb] at hblk hsz
  have Hvb := Lib.hid hvb
  have Hal := Lib.hid hal
  have Hblk := Lib.hid hblk
  have Hb0 := Lib.hid (show w.heap.size ≤ vb by omega)
  obtain ⟨d0, d1, d2⟩ := var3 hblk
  have df := row_free hblk
  clear hal hblk hvb hsl
  by_cases hbig : 65536 < S.size
  · have hres : decR S.data.toList = .error 3 := by unfold decR; rw [if_pos (by rw [Hsl.out]; exact hbig)]
    have Hres := Lib.hid hres
    clear hres
    go_enter Tryd.func16, Tryd.ntmps16
    go_upto_region 1 with fail
    rw [← Hvb.out]
    generalize w.alloc (.cells #[.bool false, .string ⟨#[]⟩, .slice none 0 0] 24) = w1 at *
    go_wp2_with fail
    obtain ⟨e0, e1, e2⟩ := var3 (box3 Hblk.out (.bool false) (.string ⟨#[]⟩) (.slice none 0 0))
    have hfin := box3_chg (b := vb) Hal.out Hb0.out (.bool false) (.string ⟨#[]⟩) (.slice none 0 0)
    generalize ((w1.setCell ⟨vb, 0, none⟩ (.bool false)).setCell ⟨vb, 1, none⟩ (.string ⟨#[]⟩)).setCell ⟨vb, 2, none⟩ (.slice none 0 0) = wf at *
    refine bodyPost_ret (v := .tuple #[nodeZ, .int .i64 3]) (by simp [results, Tryd.results16, go_sem, e0, e1, e2, nodeZ]) rfl ⟨hfin, ?_⟩
    rw [Hres.out]
  · have hnb : ¬ 65536 < S.data.toList.length := by rw [Hsl.out]; exact hbig
    have Hnb := Lib.hid hnb
    clear d0 d1 d2 df hnb
    go_enter Tryd.func16, Tryd.ntmps16
    go_upto_region 3 with fail
    rw [← Hvb.out]
    generalize w.alloc (.cells #[.bool false, .string ⟨#[]⟩, .slice none 0 0] 24) = w1 at *
    have Hcall := Lib.hid (take_any 65536 (Nat.le_refl _) S (by omega) 0 w1 (by decide))
    cases hdec : decN S.data.toList 0 with
    | error y =>
      obtain ⟨y0, y1⟩ := rdN_err _ _ _ _ hdec
      have hyb : (y == 0) = false := by rw [beq_eq_false_iff_ne]; omega
      have hres : decR S.data.toList = .error y := by unfold decR; rw [if_neg Hnb.out, hdec]
      rw [hdec] at Hcall
      have Hres := Lib.hid hres
      clear hres hdec
      go_wp2_with fail
      refine Hcall.out.mono ?_
      rintro e w3 ⟨hc3, rfl⟩
      have hal4 := hc3.alloc (.cells #[.bool false, .string ⟨#[]⟩, .slice none 0 0] 24)
      have hblk4 := row_kept hal4 Hblk.out id
      obtain ⟨d0, d1, d2⟩ := var3 hblk4
      have df := row_free hblk4
      have Hblk4 := Lib.hid hblk4
      have Hc4 := Lib.hid (Hal.out.trans hal4)
      clear hc3 hal4 hblk4
      unfold nodeZ
      go_wp2_with fail
      generalize w3.alloc (.cells #[.bool false, .string ⟨#[]⟩, .slice none 0 0] 24) = w4 at *
      obtain ⟨e0, e1, e2⟩ := var3 (box3 Hblk4.out (.bool false) (.string ⟨#[]⟩) (.slice none 0 0))
      have hfin := box3_chg (b := vb) Hc4.out Hb0.out (.bool false) (.string ⟨#[]⟩) (.slice none 0 0)
      generalize ((w4.setCell ⟨vb, 0, none⟩ (.bool false)).setCell ⟨vb, 1, none⟩ (.string ⟨#[]⟩)).setCell ⟨vb, 2, none⟩ (.slice none 0 0) = wf at *
      refine bodyPost_ret (v := .tuple #[nodeZ, .int .i64 y]) (by simp [results, Tryd.results16, go_sem, e0, e1, e2, nodeZ]) rfl ⟨hfin, ?_⟩
      rw [Hres.out]
    | ok nr =>
      obtain ⟨n, r⟩ := nr
      have hrl := rdN_len _ _ _ _ _ hdec
      rw [Hsl.out] at hrl
      rw [hdec] at Hcall
      obtain ⟨us, hus⟩ : ∃ us, us = S.size - r.length := ⟨_, rfl⟩
      have Hus := Lib.hid hus
      by_cases hr0 : r = []
      · have hres : decR S.data.toList = .ok n := by unfold decR; rw [if_neg Hnb.out, hdec]; simp only; rw [if_pos hr0]
        have Hres := Lib.hid hres
        have hlt : ¬ (us : Int) < (S.size : Int) := by rw [hus, hr0, List.length_nil]; omega
        clear hres hdec hus hrl
        go_wp2_with fail
        refine Hcall.out.mono ?_
        rintro e w3 ⟨hc3, v3, he3, hv3, _⟩
        rw [← Hus.out] at he3
        subst he3
        obtain ⟨ha3, q, len, c, kb, ko, rfl, hs3⟩ := hv3.shape
        have hal4 := (Chg.refl NoB w3).alloc (.cells #[.bool n.leaf, .string n.atom, .slice q len c] 24)
        have hblk4 := row_kept hal4 (row_kept hc3 Hblk.out id) id
        obtain ⟨d0, d1, d2⟩ := var3 hblk4
        have df := row_free hblk4
        obtain ⟨g0, g1, g2⟩ := var3 (heap_alloc_new w3 (.cells #[.bool n.leaf, .string n.atom, .slice q len c] 24))
        have Hblk4 := Lib.hid hblk4
        have Hal4 := Lib.hid hal4
        have Hc3 := Lib.hid hc3
        have Hv3 := Lib.hid hv3
        clear hc3 hal4 hblk4 hv3 hs3
        go_wp2_with fail
        generalize w3.alloc (.cells #[.bool n.leaf, .string n.atom, .slice q len c] 24) = w4 at *
        obtain ⟨e0, e1, e2⟩ := var3 (box3 Hblk4.out (.bool n.leaf) (.string n.atom) (.slice q len c))
        have hfin := box3_chg (b := vb) (Hal.out.trans (Hc3.out.trans Hal4.out)) Hb0.out (.bool n.leaf) (.string n.atom) (.slice q len c)
        have hst := st3 w4 (g := vb) 0 (.bool n.leaf) (.string n.atom) (.slice q len c)
        have z1 := Hal.out.size
        have z3 := Hc3.out.size
        have z4 := Hal4.out.size
        generalize ((w4.setCell ⟨vb, 0, none⟩ (.bool n.leaf)).setCell ⟨vb, 1, none⟩ (.string n.atom)).setCell ⟨vb, 2, none⟩ (.slice q len c) = wf at *
        have z5 := hst.size
        refine bodyPost_ret (v := .tuple #[.agg #[.bool n.leaf, .string n.atom, .slice q len c], .int .i64 0]) (by simp [results, Tryd.results16, go_sem, e0, e1, e2]) rfl ⟨hfin, ?_⟩
        rw [Hres.out]
        refine ⟨_, rfl, NdV.mono (fun x hx => ?_) ((Hv3.out.keep Hal4.out fun _ _ => id).keep hst fun x hx hv => ?_)⟩
        · have h3 := hx.1.1
          exact (Nw.keep (Nw.keep hx Hal4.out id) hst fun hv => by have : x = vb := hv; omega).le (by omega)
        · have h3 := hx.1.1
          have : x = vb := hv
          omega
      · have hres : decR S.data.toList = .error 5 := by unfold decR; rw [if_neg Hnb.out, hdec]; simp only; rw [if_neg hr0]
        have Hres := Lib.hid hres
        have hrp := List.length_pos_iff.2 hr0
        have hlt : (us : Int) < (S.size : Int) := by omega
        clear hres hdec hus hrl hrp
        go_wp2_with fail
        refine Hcall.out.mono ?_
        rintro e w3 ⟨hc3, v3, he3, hv3, _⟩
        rw [← Hus.out] at he3
        subst he3
        obtain ⟨ha3, q, len, c, kb, ko, rfl, hs3⟩ := hv3.shape
        have hal4 := hc3.alloc (.cells #[.bool n.leaf, .string n.atom, .slice q len c] 24)
        have hblk4 := row_kept hal4 Hblk.out id
        obtain ⟨d0, d1, d2⟩ := var3 hblk4
        have df := row_free hblk4
        have Hblk4 := Lib.hid hblk4
        have Hc4 := Lib.hid (Hal.out.trans hal4)
        clear hc3 hal4 hblk4 hv3 hs3
        go_wp2_with fail
        generalize w3.alloc (.cells #[.bool n.leaf, .string n.atom, .slice q len c] 24) = w4 at *
        obtain ⟨e0, e1, e2⟩ := var3 (box3 Hblk4.out (.bool false) (.string ⟨#[]⟩) (.slice none 0 0))
        have hfin := box3_chg (b := vb) Hc4.out Hb0.out (.bool false) (.string ⟨#[]⟩) (.slice none 0 0)
        generalize ((w4.setCell ⟨vb, 0, none⟩ (.bool false)).setCell ⟨vb, 1, none⟩ (.string ⟨#[]⟩)).setCell ⟨vb, 2, none⟩ (.slice none 0 0) = wf at *
        refine bodyPost_ret (v := .tuple #[nodeZ, .int .i64 5]) (by simp [results, Tryd.results16, go_sem, e0, e1, e2, nodeZ]) rfl ⟨hfin, ?_⟩
        rw [Hres.out]
theorem sexpReads_long (s : List UInt8) (W : World) (hl : Lb W.heap.size W) (hb : 131072 < s.length) :
    Calls Tryd.prog 4 #[.string (tx s)] W fun e w' => e = .returned (.bool true) ∧ Chg NoB W w' := by
  have hss : (tx s).size = s.length := tx_size s
  have Hl := Lib.hid hl
  clear hl
  go_enter Tryd.func4, Tryd.ntmps4
  go_wp2_with fail
  refine (alive_any _ W Hl.out).mono ?_
  rintro e w2 ⟨rfl, hc2⟩
  go_wp2_with fail
  go_ret
  exact ⟨rfl, hc2⟩
set_option maxHeartbeats 4000000 in
set_option maxRecDepth 20000 in
theorem sexpReads_all (x : ByteArray) (W : World) (wx : x.size ≤ maxLen) (hl : Lb W.heap.size W) :
    Calls Tryd.prog 4 #[.string x] W fun e w' => e = .returned (.bool true) ∧ Chg NoB W w' := by
  obtain ⟨s, rfl⟩ : ∃ s, x = tx s := ⟨_, (tx_back x).symm⟩
  have hss : (tx s).size = s.length := tx_size s
  by_cases hb : 131072 < s.length
  · exact sexpReads_long s W hl hb
  · have Hl := Lib.hid hl
    clear hl wx
    cases hdr : decR s with
    | error y =>
      have Hdr := Lib.hid hdr
      clear hdr
      go_enter Tryd.func4, Tryd.ntmps4
      go_wp2_with fail
      refine (alive_any _ W Hl.out).mono ?_
      rintro e w2 ⟨rfl, hc2⟩
      have Hc2 := Lib.hid hc2
      have Hd := Lib.hid (dec_any s w2 (Hl.out.keep hc2).top (by omega))
      rw [Hdr.out] at Hd
      clear hc2
      go_wp2_with fail
      refine Hd.out.mono ?_
      rintro e w3 ⟨hc3, rfl⟩
      have hal4 := (Chg.refl NoB w3).alloc (.cells #[.bool false, .string ⟨#[]⟩, .slice none 0 0] 24)
      obtain ⟨v0, v1, v2⟩ := var3 (heap_alloc_new w3 (.cells #[.bool false, .string ⟨#[]⟩, .slice none 0 0] 24))
      have Hc4 := Lib.hid (Hc2.out.trans (hc3.trans hal4))
      clear hc3 hal4
      unfold nodeZ
      go_upto_region 6 with fail
      generalize hb1 : w3.heap.size = b1 at *
      generalize w3.alloc (.cells #[.bool false, .string ⟨#[]⟩, .slice none 0 0] 24) = w4 at *
      clear hb1
      have Hd2 := Lib.hid (decT_any (tx s) w4 (by omega))
      rw [tx_list, Hdr.out] at Hd2
      go_wp2_with fail
      refine Hd2.out.mono ?_
      rintro e w5 ⟨hc5, rfl⟩
      have hal6 := hc5.alloc (.cells #[.bool false, .string ⟨#[]⟩, .slice none 0 0] 24)
      obtain ⟨u0, u1, u2⟩ := var3 (heap_alloc_new w5 (.cells #[.bool false, .string ⟨#[]⟩, .slice none 0 0] 24))
      have v0' := hal6.keep v0
      have v1' := hal6.keep v1
      have v2' := hal6.keep v2
      have Hc6 := Lib.hid (Hc4.out.trans hal6)
      have Hsame := Lib.hid (same_any 131072 (.mk false ⟨#[]⟩ []) (.mk false ⟨#[]⟩ []) (by decide) (by decide) NoB NoB (.agg #[.bool false, .string ⟨#[]⟩, .slice none 0 0]) (.agg #[.bool false, .string ⟨#[]⟩, .slice none 0 0]) (w5.alloc (.cells #[.bool false, .string ⟨#[]⟩, .slice none 0 0] 24)) ⟨Nat.zero_le _, _, 0, 0, rfl, NdS.nil _ _⟩ ⟨Nat.zero_le _, _, 0, 0, rfl, NdS.nil _ _⟩)
      rw [(sameN_iff _ _).2 rfl] at Hsame
      clear hc5 hal6 v0 v1 v2
      unfold nodeZ
      go_wp2_with fail
      refine Hsame.out.mono ?_
      rintro e w7 ⟨rfl, hc7⟩
      go_wp2_with fail
      go_ret
      exact ⟨rfl, Hc6.out.trans hc7⟩
    | ok m =>
      have Hmc := Lib.hid (dec_count hdr)
      have Hdr := Lib.hid hdr
      clear hdr
      go_enter Tryd.func4, Tryd.ntmps4
      go_wp2_with fail
      refine (alive_any _ W Hl.out).mono ?_
      rintro e w2 ⟨rfl, hc2⟩
      have Hc2 := Lib.hid hc2
      have Hd := Lib.hid (dec_any s w2 (Hl.out.keep hc2).top (by omega))
      rw [Hdr.out] at Hd
      clear hc2
      go_wp2_with fail
      refine Hd.out.mono ?_
      rintro e w3 ⟨hc3, v3, rfl, hv3⟩
      obtain ⟨q3, len3, c3, hq3⟩ := box_node hv3
      subst hq3
      have hal4 := (Chg.refl NoB w3).alloc (.cells #[.bool m.leaf, .string m.atom, .slice q3 len3 c3] 24)
      obtain ⟨v0, v1, v2⟩ := var3 (heap_alloc_new w3 (.cells #[.bool m.leaf, .string m.atom, .slice q3 len3 c3] 24))
      have Hc4 := Lib.hid (Hc2.out.trans (hc3.trans hal4))
      have Hv4 := Lib.hid (hv3.keep hal4 fun _ _ => id)
      clear hc3 hal4 hv3
      go_upto_region 6 with fail
      generalize hb1 : w3.heap.size = b1 at *
      generalize w3.alloc (.cells #[.bool m.leaf, .string m.atom, .slice q3 len3 c3] 24) = w4 at *
      clear hb1
      have Hd2 := Lib.hid (decT_any (tx s) w4 (by omega))
      rw [tx_list, Hdr.out] at Hd2
      go_wp2_with fail
      refine Hd2.out.mono ?_
      rintro e w5 ⟨hc5, v5, rfl, hv5⟩
      obtain ⟨q5, len5, c5, hq5⟩ := box_node hv5
      subst hq5
      have hal6 := (Chg.refl NoB w5).alloc (.cells #[.bool m.leaf, .string m.atom, .slice q5 len5 c5] 24)
      obtain ⟨u0, u1, u2⟩ := var3 (heap_alloc_new w5 (.cells #[.bool m.leaf, .string m.atom, .slice q5 len5 c5] 24))
      have v0' := (hc5.trans hal6).keep v0
      have v1' := (hc5.trans hal6).keep v1
      have v2' := (hc5.trans hal6).keep v2
      have Hc6 := Lib.hid (Hc4.out.trans (hc5.trans hal6))
      have Hsame := Lib.hid (same_any 131072 m m (by have := Hmc.out; omega) (by decide) _ _ _ _ _ (Hv4.out.keep (hc5.trans hal6) fun _ _ => id) (hv5.keep hal6 fun _ _ => id))
      rw [(sameN_iff _ _).2 rfl] at Hsame
      clear hc5 hal6 v0 v1 v2 hv5
      go_wp2_with fail
      refine Hsame.out.mono ?_
      rintro e w7 ⟨rfl, hc7⟩
      go_wp2_with fail
      go_ret
      exact ⟨rfl, Hc6.out.trans hc7⟩
/-FRAME-/
set_option maxRecDepth 100000 in
theorem sexpReads_lifted (os : Os) (started : os.Started) (H : Type) (enc : TypeId × Value → H) :
    ReturnsInHanded {} Tryd.checked os 4 .any (fun w args => (Rows.sexpReadsSpec.pre enc Tryd.prog Tryd.f4 [] false w args ∧ laidMetH Tryd.prog Rows.sexpReadsRow.laid w) ∧ sizedMet enc Tryd.prog Tryd.f4 (OpenSpec.ofChange Rows.sexpReadsSpec) false w args)
      (Rows.sexpReadsSpec.post enc Tryd.prog Tryd.f4 false true false false) := by
  refine returns_both (C := Tryd.checked) (X := fun w _ => laidMetH Tryd.prog Rows.sexpReadsRow.laid w) (fun _ _ _ hh h => h.of_heap hh) Tryd.own started (by kernel_rfl) Tryd.func4
    (ChangeSpec.witness_shaped (enc := enc) (C := Tryd.checked) (os := os) (X := fun w _ => laidMetH Tryd.prog Rows.sexpReadsRow.laid w) false (World.laidAll Tryd.prog os Rows.sexpReadsRow.laid) #[.string ByteArray.empty] 8 (World.laidAll_os _ _ _)
      (World.shaped_of_ZipB (by kernel_rfl) (by kernel_rfl)) (by kernel_rfl) (by kernel_rfl) (by kernel_rfl)
      (by rw [MakeChecks.laidMetH_plain _ _ _ (by kernel_rfl)]; exact laidMet_laidAll _ (by kernel_rfl) (by kernel_rfl))) ?_
  intro W base args ds gs before hval0 hW _ hsz hL hsh _
  have hval : ∀ (j : Nat) t v, Tryd.f4.params[j]? = some t → args[j]? = some v → Value.okWide Tryd.prog W .any base t v := hval0
  have hW' := hW
  obtain ⟨p, q, hA0, hV, rfl, _, _⟩ := hW
  have hA : DataW.TrodAll enc Tryd.prog W 0 (fun _ => true) true Tryd.f4.params.toList args.toList ds p := hA0
  rw [Tryd.params4] at hA hval
  obtain ⟨v0, d0, rfl, rfl, h0⟩ := trodAll_one hA
  obtain ⟨rfl, rfl⟩ := trodVars_none hV
  obtain ⟨x0, rfl, rfl, rfl, wx0⟩ := open_string Tryd.underlying9 (hval 0 9 v0 rfl rfl) h0
  simp only [List.append_nil] at hW'
  rw [MakeChecks.laidMetH_plain _ _ _ (by kernel_rfl)] at hL
  have hlb : Lb W.heap.size W := lb_of hL hsh
  clear hA0 hval0
  refine (sexpReads_all x0 W wx0 hlb).mono fun e W' ⟨he, hb⟩ => ?_
  subst he
  exact ⟨_, rfl, _, _, _, [], _, [], hW', trodAll_mk1 (shut_bool Tryd.underlying4 _), (trodAll_cons_mk (shut_string Tryd.underlying9 wx0) trodAll_mk0), rfl, hb.below.frame _, fun h => by cases h⟩
theorem sexpReads_holds : Rows.SexpReadsSaid :=
  OpenClaim.holds_of_wide 4 Tryd.f4 rfl rfl rfl rfl rfl rfl rfl ⟨rfl, rfl, rfl, rfl, rfl⟩ rfl rfl rfl rfl rfl (by kernel_rfl) Tryd.func4 (by kernel_rfl)
    (of_decide_eq_true (by kernel_rfl)) (by unfold Func.isWrapper; first | (rw [if_pos (by decide +kernel)]; kernel_rfl) | (rw [if_neg (by decide +kernel)]; exact ⟨rfl, rfl⟩))
    (fun os started H enc _ => sexpReads_lifted os started H enc)
theorem sexpReads_card : Rows.SexpReadsCardSaid :=
  Claim7.holds_tied_plain_at .later [] [.data, .data, .data, .sentinel, .sentinel] true (true, "1aacac15555e80772747c4c143a44f28a139365c580872b528a8a21d441e086a") true sexpReads_holds (fun _ h => by cases h) (by kernel_rfl) (fun _ h => by cases h) sexpReads_row_tie rfl ⟨rfl, rfl⟩ (by kernel_rfl) rfl
    (fun f fn hf hfn => by
      obtain rfl : f = 4 := Option.some.inj ((show Tryd.prog.funcNamed "sapling/saplinglaw01.SexpReads" = some 4 by kernel_rfl).symm.trans hf) |>.symm
      obtain rfl : fn = Tryd.f4 := (Option.some.inj (Tryd.func4.symm.trans hfn)).symm
      exact ⟨by kernel_rfl, fun j t ht => by
        rw [Tryd.params4] at ht
        have hm : t ∈ [9] := by simpa using Array.mem_of_getElem? ht
        have hall : ([9].all fun u => !Tryd.prog.wantsStandIn u) = true := by kernel_rfl
        exact (show Tryd.prog.wantsStandIn t = false by simpa using List.all_eq_true.1 hall t hm)⟩)
    (by kernel_rfl)
#print axioms sexpReads_card
end Go.Proofs.YtodcbagjmbdafaaDoor
