/- Proved: the statement SexpBack holds for every node and every text. Conditions: the listed package variables read as the program's text lays them (the card ties them); nothing else. -/
import Derived.Test.YtodcbagjmbdafaaDoorSxTells
namespace Go.Proofs.YtodcbagjmbdafaaDoor
open Go.ChangeShapes Go.WideShapes Go.ChangeAt Go.RowKit
set_option linter.unusedVariables false
open Go.ChangeMaps (open_string shut_string)
theorem dec_enc {n : Nd} {ys : List UInt8} (h : putN n 0 [] = .ok ys) : decR ys = .ok n := by
  obtain ⟨e1, o1, hl⟩ := putN_ok _ _ _ _ h
  rw [List.nil_append] at e1
  have hp := rd_enc n 0 [] (2 * ys.length + 1) o1 (by rw [List.append_nil, ← e1]; exact Nat.le_refl _)
  rw [List.append_nil, ← e1] at hp
  unfold decR decN
  rw [if_neg (by omega), hp]
  rfl
theorem decR_ok {s : List UInt8} {m : Nd} (h : decR s = .ok m) : s.length ≤ 65536 ∧ s = encN m ∧ okN m 0 = true := by
  unfold decR at h
  split at h
  · cases h
  · rename_i hb
    split at h
    · cases h
    · rename_i n r hd
      split at h
      · rename_i hr
        cases h
        obtain ⟨h1, h2⟩ := enc_rd _ _ _ _ _ hd
        rw [hr, List.append_nil] at h1
        exact ⟨by omega, h1, h2⟩
      · cases h
theorem decR_err {s : List UInt8} {y : Int} (h : decR s = .error y) : 0 < y ∧ y < 10 := by
  unfold decR at h
  split at h
  · cases h; decide
  · split at h
    · rename_i e he
      cases h
      exact rdN_err _ _ _ _ he
    · split at h
      · cases h
      · cases h; decide
theorem enc_dec {s : List UInt8} {m : Nd} (h : decR s = .ok m) : putN m 0 [] = .ok s := by
  obtain ⟨hl, h1, h2⟩ := decR_ok h
  have := putN_fit m 0 [] h2 (by rw [List.nil_append, ← h1]; exact hl)
  rw [List.nil_append, ← h1] at this
  exact this
mutual
theorem count_enc (n : Nd) (d : Nat) (h : okN n d = true) : n.count ≤ (encN n).length := by
  obtain ⟨l, a, ks⟩ := n
  rw [Nd.count, encN]
  rw [okN] at h
  have ha : a.data.toList.length = a.size := by simp
  cases l with
  | true =>
    simp only [if_true] at h ⊢
    rw [List.isEmpty_iff.1 h, Nd.counts]
    unfold atomB
    have := List.length_pos_iff.2 (dec_ne a.data.toList.length)
    simp only [List.length_append, List.length_cons]
    omega
  | false =>
    simp only [Bool.false_eq_true, if_false, Bool.and_eq_true, decide_eq_true_eq] at h ⊢
    have := counts_enc ks (d + 1) h.2
    simp only [List.length_append, List.length_cons, List.length_nil]
    omega
theorem counts_enc (ks : List Nd) (d : Nat) (h : okL ks d = true) : Nd.counts ks ≤ (encL ks).length := by
  cases ks with
  | nil => rw [Nd.counts]; exact Nat.zero_le _
  | cons k r =>
    rw [okL, Bool.and_eq_true] at h
    rw [Nd.counts, encL, List.length_append]
    have h1 := count_enc k d h.1
    have h2 := counts_enc r d h.2
    omega
end
theorem dec_count {s : List UInt8} {m : Nd} (h : decR s = .ok m) : m.count ≤ 65536 := by
  obtain ⟨hl, h1, h2⟩ := decR_ok h
  have := count_enc m 0 h2
  rw [← h1] at this
  omega
set_option maxHeartbeats 4000000 in
set_option maxRecDepth 20000 in
theorem sexpBack_all (n : Nd) (v : Value) (x : ByteArray) (W : World) (hv : NdV W (OldB W) v n) (wx : x.size ≤ maxLen) (hl : Lb W.heap.size W) :
    Calls Tryd.prog 5 #[v, .string x] W fun e w' => e = .returned (.bool true) ∧ Chg NoB W w' := by
  obtain ⟨q, len, c, rfl⟩ := box_node hv
  obtain ⟨s, rfl⟩ : ∃ s, x = tx s := ⟨_, (tx_back x).symm⟩
  have hss : (tx s).size = s.length := tx_size s
  have hal := (Chg.refl NoB W).alloc (.cells #[.bool n.leaf, .string n.atom, .slice q len c] 24)
  have hblk := heap_alloc_new W (.cells #[.bool n.leaf, .string n.atom, .slice q len c] 24)
  obtain ⟨vb, hvb⟩ : ∃ vb, vb = W.heap.size := ⟨_, rfl⟩
  rw [← hvb] at hblk
  have Hvb := Lib.hid hvb
  have Hal := Lib.hid hal
  have Hblk := Lib.hid hblk
  have Hv := Lib.hid (hv.keep hal fun _ _ => id)
  have Hl := Lib.hid hl
  clear hal hblk hvb hv hl wx
  go_enter Tryd.func5, Tryd.ntmps5
  go_upto_region 1 with fail
  rw [← Hvb.out]
  generalize W.alloc (.cells #[.bool n.leaf, .string n.atom, .slice q len c] 24) = w1 at *
  go_wp2_with fail
  refine (alive_any _ w1 (Hl.out.keep Hal.out)).mono ?_
  rintro e w2 ⟨rfl, hc2⟩
  have Hc2 := Lib.hid (Hal.out.trans hc2)
  have Hblk2 := Lib.hid (row_kept hc2 Hblk.out id)
  obtain ⟨v0, v1, v2⟩ := var3 Hblk2.out
  have Hv2 := Lib.hid (Hv.out.keep hc2 fun _ _ => id)
  have Hgr := Lib.hid (great_any n _ _ w2 Hv2.out)
  clear hc2
  go_wp2_with fail
  cases hg : greatN n with
  | true =>
    rw [hg] at Hgr
    refine Hgr.out.mono ?_
    rintro e w3 ⟨rfl, hc3⟩
    go_wp2_with fail
    go_ret
    exact ⟨rfl, Hc2.out.trans hc3⟩
  | false =>
    have hcnt := great_no hg
    rw [hg] at Hgr
    have Hcnt := Lib.hid hcnt
    clear hg hcnt
    refine Hgr.out.mono ?_
    rintro e w3 ⟨rfl, hc3⟩
    have Hc3 := Lib.hid (Hc2.out.trans hc3)
    have Hblk3 := Lib.hid (row_kept hc3 Hblk2.out id)
    have Hv3 := Lib.hid (Hv2.out.keep hc3 fun _ _ => id)
    clear v0 v1 v2
    obtain ⟨v0, v1, v2⟩ := var3 Hblk3.out
    clear hc3
    by_cases hbig : (131072 : Int) < (s.length : Int)
    · go_wp2_with fail
      go_ret
      exact ⟨rfl, Hc3.out⟩
    · have Henc := Lib.hid ((enc_any n (by have := Hcnt.out; omega) _ _ w3 Hv3.out (old_lt Hc3.out) (Hl.out.keep Hc3.out).top).mono fun e w' h => h.val)
      obtain ⟨r1, hr1⟩ : ∃ r1, r1 = putN n 0 [] := ⟨_, rfl⟩
      rw [← hr1] at Henc
      have Hr1 := Lib.hid hr1
      clear hr1
      go_wp2_with fail
      refine Henc.out.mono ?_
      rintro e w4 ⟨hc4, s1, y1, rfl, hs1, hy1⟩
      have Hs1 := Lib.hid hs1
      have Hy1 := Lib.hid hy1
      have Hc4 := Lib.hid (Hc3.out.trans hc4)
      have Hblk4 := Lib.hid (row_kept hc4 Hblk3.out id)
      have Hv4 := Lib.hid (Hv3.out.keep hc4 fun _ _ => id)
      clear hs1 hy1 hc4 v0 v1 v2
      obtain ⟨v0, v1, v2⟩ := var3 Hblk4.out
      cases r1 with
      | error y =>
        obtain ⟨g0, g1⟩ := putN_err _ _ _ _ Hr1.out.symm
        have hy : y1 = y := Hy1.out
        have hyb1 : (y1 == 0) = false := by rw [beq_eq_false_iff_ne]; omega
        clear Hy1 Hs1 hy g0 g1
        have Hd := Lib.hid (dec_any s w4 (Hl.out.keep Hc4.out).top (by omega))
        cases hdr : decR s with
        | error y =>
          obtain ⟨g0, g1⟩ := decR_err hdr
          have hyb : (y == 0) = false := by rw [beq_eq_false_iff_ne]; omega
          have hyn : (y != 0) = true := by rw [bne, hyb]; rfl
          rw [hdr] at Hd
          clear hdr
          go_wp2_with fail
          refine Hd.out.mono ?_
          rintro e w8 ⟨hc8, rfl⟩
          unfold nodeZ
          go_wp2_with fail
          go_ret
          exact ⟨rfl, (Hc4.out.trans hc8).alloc _⟩
        | ok m =>
          have Hput := Lib.hid (enc_dec hdr)
          have Hmc := Lib.hid (dec_count hdr)
          rw [hdr] at Hd
          clear hdr
          go_wp2_with fail
          refine Hd.out.mono ?_
          rintro e w8 ⟨hc8, v8, rfl, hv8⟩
          obtain ⟨q8, len8, c8, hq8⟩ := box_node hv8
          subst hq8
          have hal9 := (Chg.refl NoB w8).alloc (.cells #[.bool m.leaf, .string m.atom, .slice q8 len8 c8] 24)
          obtain ⟨g0, g1, g2⟩ := var3 (heap_alloc_new w8 (.cells #[.bool m.leaf, .string m.atom, .slice q8 len8 c8] 24))
          have Hc9 := Lib.hid (Hc4.out.trans (hc8.trans hal9))
          have Hv9 := Lib.hid (hv8.keep hal9 fun _ _ => id)
          have hz9 := hal9.size
          have Hz := Lib.hid (show ∀ k, NewZ w4 w8 k → k < (w8.alloc (.cells #[.bool m.leaf, .string m.atom, .slice q8 len8 c8] 24)).heap.size from fun k hk => Nat.lt_of_lt_of_le hk.1.2 hz9)
          have Henc := Lib.hid (enc_any m (by have := Hmc.out; omega) _ _ _ Hv9.out Hz.out (Hl.out.keep Hc9.out).top)
          rw [Hput.out] at Henc
          clear hc8 hv8 hal9 hz9
          go_wp2_with fail
          refine Henc.out.mono ?_
          rintro e w10 ⟨hc10, rfl⟩
          go_wp2_with fail
          go_ret
          exact ⟨by simp, Hc9.out.trans hc10⟩
      | ok ys =>
        obtain rfl : y1 = 0 := Hy1.out
        obtain rfl : s1 = tx ys := Hs1.out
        have hyl := (putN_ok _ _ _ _ Hr1.out.symm).2.2
        have Hd5 := Lib.hid (dec_any ys w4 (Hl.out.keep Hc4.out).top (by omega))
        rw [dec_enc Hr1.out.symm] at Hd5
        clear Hy1 Hs1
        go_wp2_with fail
        refine Hd5.out.mono ?_
        rintro e w5 ⟨hc5, v5, rfl, hv5⟩
        obtain ⟨q5, len5, c5, hq5⟩ := box_node hv5
        subst hq5
        have hal6 := (Chg.refl NoB w5).alloc (.cells #[.bool n.leaf, .string n.atom, .slice q5 len5 c5] 24)
        obtain ⟨f0, f1, f2⟩ := var3 (heap_alloc_new w5 (.cells #[.bool n.leaf, .string n.atom, .slice q5 len5 c5] 24))
        have Hc6 := Lib.hid (Hc4.out.trans (hc5.trans hal6))
        have Hv6 := Lib.hid (hv5.keep hal6 fun _ _ => id)
        have Hv6' := Lib.hid ((Hv4.out.keep hc5 fun _ _ => id).keep hal6 fun _ _ => id)
        have hblk6 := row_kept hal6 (row_kept hc5 Hblk4.out id) id
        clear v0 v1 v2
        obtain ⟨v0, v1, v2⟩ := var3 hblk6
        have Hsame := Lib.hid (same_any 131072 n n Hcnt.out (by decide) _ _ _ _ _ Hv6.out Hv6'.out)
        rw [(sameN_iff n n).2 rfl] at Hsame
        clear hc5 hv5 hal6 hblk6
        go_wp2_with fail
        refine Hsame.out.mono ?_
        rintro e w7 ⟨rfl, hc7⟩
        have Hc7 := Lib.hid (Hc6.out.trans hc7)
        clear hc7 v0 v1 v2 f0 f1 f2
        have Hd := Lib.hid (dec_any s w7 (Hl.out.keep Hc7.out).top (by omega))
        cases hdr : decR s with
        | error y =>
          obtain ⟨g0, g1⟩ := decR_err hdr
          have hyb : (y == 0) = false := by rw [beq_eq_false_iff_ne]; omega
          have hyn : (y != 0) = true := by rw [bne, hyb]; rfl
          rw [hdr] at Hd
          clear hdr
          go_wp2_with fail
          refine Hd.out.mono ?_
          rintro e w8 ⟨hc8, rfl⟩
          unfold nodeZ
          go_wp2_with fail
          go_ret
          exact ⟨rfl, (Hc7.out.trans hc8).alloc _⟩
        | ok m =>
          have Hput := Lib.hid (enc_dec hdr)
          have Hmc := Lib.hid (dec_count hdr)
          rw [hdr] at Hd
          clear hdr
          go_wp2_with fail
          refine Hd.out.mono ?_
          rintro e w8 ⟨hc8, v8, rfl, hv8⟩
          obtain ⟨q8, len8, c8, hq8⟩ := box_node hv8
          subst hq8
          have hal9 := (Chg.refl NoB w8).alloc (.cells #[.bool m.leaf, .string m.atom, .slice q8 len8 c8] 24)
          obtain ⟨g0, g1, g2⟩ := var3 (heap_alloc_new w8 (.cells #[.bool m.leaf, .string m.atom, .slice q8 len8 c8] 24))
          have Hc9 := Lib.hid (Hc7.out.trans (hc8.trans hal9))
          have Hv9 := Lib.hid (hv8.keep hal9 fun _ _ => id)
          have hz9 := hal9.size
          have Hz := Lib.hid (show ∀ k, NewZ w7 w8 k → k < (w8.alloc (.cells #[.bool m.leaf, .string m.atom, .slice q8 len8 c8] 24)).heap.size from fun k hk => Nat.lt_of_lt_of_le hk.1.2 hz9)
          have Henc := Lib.hid (enc_any m (by have := Hmc.out; omega) _ _ _ Hv9.out Hz.out (Hl.out.keep Hc9.out).top)
          rw [Hput.out] at Henc
          clear hc8 hv8 hal9 hz9
          go_wp2_with fail
          refine Henc.out.mono ?_
          rintro e w10 ⟨hc10, rfl⟩
          go_wp2_with fail
          go_ret
          exact ⟨by simp, Hc9.out.trans hc10⟩
/-FRAME-/
set_option maxRecDepth 100000 in
theorem sexpBack_lifted (os : Os) (started : os.Started) (H : Type) (enc : TypeId × Value → H) :
    ReturnsInHanded {} Tryd.checked os 5 .any (fun w args => (Rows.sexpBackSpec.pre enc Tryd.prog Tryd.f5 [] false w args ∧ laidMetH Tryd.prog Rows.sexpBackRow.laid w) ∧ sizedMet enc Tryd.prog Tryd.f5 (OpenSpec.ofChange Rows.sexpBackSpec) false w args)
      (Rows.sexpBackSpec.post enc Tryd.prog Tryd.f5 false true false false) := by
  refine returns_both (C := Tryd.checked) (X := fun w _ => laidMetH Tryd.prog Rows.sexpBackRow.laid w) (fun _ _ _ hh h => h.of_heap hh) Tryd.own started (by kernel_rfl) Tryd.func5
    (ChangeSpec.witness_shaped (enc := enc) (C := Tryd.checked) (os := os) (X := fun w _ => laidMetH Tryd.prog Rows.sexpBackRow.laid w) false (World.laidAll Tryd.prog os Rows.sexpBackRow.laid) #[.agg #[.bool false, .string ByteArray.empty, .slice none 0 0], .string ByteArray.empty] 8 (World.laidAll_os _ _ _)
      (World.shaped_of_ZipB (by kernel_rfl) (by kernel_rfl)) (by kernel_rfl) (by kernel_rfl) (by kernel_rfl)
      (by rw [MakeChecks.laidMetH_plain _ _ _ (by kernel_rfl)]; exact laidMet_laidAll _ (by kernel_rfl) (by kernel_rfl))) ?_
  intro W base args ds gs before hval0 hW _ hsz hL hsh _
  have hval : ∀ (j : Nat) t v, Tryd.f5.params[j]? = some t → args[j]? = some v → Value.okWide Tryd.prog W .any base t v := hval0
  have hW' := hW
  obtain ⟨p, q, hA0, hV, rfl, _, _⟩ := hW
  have hA : DataW.TrodAll enc Tryd.prog W 0 (fun _ => true) true Tryd.f5.params.toList args.toList ds p := hA0
  rw [Tryd.params5] at hA hval
  obtain ⟨v0, v1, d0, d1, p0, p1, rfl, rfl, rfl, h0, h1⟩ := trodAll_two hA
  obtain ⟨rfl, rfl⟩ := trodVars_none hV
  obtain ⟨n0, hn0⟩ := open_node (hval 0 24 v0 rfl rfl) h0
  obtain ⟨x1, rfl, rfl, rfl, wx1⟩ := open_string Tryd.underlying9 (hval 1 9 v1 rfl rfl) h1
  simp only [List.append_nil] at hW'
  rw [MakeChecks.laidMetH_plain _ _ _ (by kernel_rfl)] at hL
  have hlb : Lb W.heap.size W := lb_of hL hsh
  clear hA0 hval0
  refine (sexpBack_all n0 _ x1 W hn0 wx1 hlb).mono fun e W' ⟨he, hb⟩ => ?_
  subst he
  exact ⟨_, rfl, _, _, _, [], _, [], hW', trodAll_mk1 (shut_bool Tryd.underlying4 _), (trodAll_cons_mk (node_stays h0 hb.below) (trodAll_cons_mk (shut_string Tryd.underlying9 wx1) trodAll_mk0)), rfl, hb.below.frame _, fun h => by cases h⟩
theorem sexpBack_holds : Rows.SexpBackSaid :=
  OpenClaim.holds_of_wide 5 Tryd.f5 rfl rfl rfl rfl rfl rfl rfl ⟨rfl, rfl, rfl, rfl, rfl⟩ rfl rfl rfl rfl rfl (by kernel_rfl) Tryd.func5 (by kernel_rfl)
    (of_decide_eq_true (by kernel_rfl)) (by unfold Func.isWrapper; first | (rw [if_pos (by decide +kernel)]; kernel_rfl) | (rw [if_neg (by decide +kernel)]; exact ⟨rfl, rfl⟩))
    (fun os started H enc _ => sexpBack_lifted os started H enc)
theorem sexpBack_card : Rows.SexpBackCardSaid :=
  Claim7.holds_tied_plain_at .later [] [.data, .data, .data, .sentinel, .sentinel] true (true, "1aacac15555e80772747c4c143a44f28a139365c580872b528a8a21d441e086a") true sexpBack_holds (fun _ h => by cases h) (by kernel_rfl) (fun _ h => by cases h) sexpBack_row_tie rfl ⟨rfl, rfl⟩ (by kernel_rfl) rfl
    (fun f fn hf hfn => by
      obtain rfl : f = 5 := Option.some.inj ((show Tryd.prog.funcNamed "sapling/saplinglaw01.SexpBack" = some 5 by kernel_rfl).symm.trans hf) |>.symm
      obtain rfl : fn = Tryd.f5 := (Option.some.inj (Tryd.func5.symm.trans hfn)).symm
      exact ⟨by kernel_rfl, fun j t ht => by
        rw [Tryd.params5] at ht
        have hm : t ∈ [24, 9] := by simpa using Array.mem_of_getElem? ht
        have hall : ([24, 9].all fun u => !Tryd.prog.wantsStandIn u) = true := by kernel_rfl
        exact (show Tryd.prog.wantsStandIn t = false by simpa using List.all_eq_true.1 hall t hm)⟩)
    (by kernel_rfl)
#print axioms sexpBack_card
end Go.Proofs.YtodcbagjmbdafaaDoor
