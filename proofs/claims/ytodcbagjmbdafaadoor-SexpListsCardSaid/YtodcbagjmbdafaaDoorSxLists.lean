/- Proved: the statement SexpLists holds for every list of nodes. Conditions: the listed package variables read as the program's text lays them (the card ties them); nothing else. -/
import Derived.Test.YtodcbagjmbdafaaDoorSxTells
namespace Go.Proofs.YtodcbagjmbdafaaDoor
open Go.ChangeShapes Go.WideShapes Go.ChangeAt Go.RowKit
set_option linter.unusedVariables false
open Go.ChangeMaps (open_string shut_string)
mutual
theorem okN_le (n : Nd) (d e : Nat) (hd : e ≤ d) (h : okN n d = true) : okN n e = true := by
  obtain ⟨l, a, ks⟩ := n
  rw [okN] at h ⊢
  cases l with
  | true => simp only [if_true] at h ⊢; exact h
  | false =>
    simp only [Bool.false_eq_true, if_false, Bool.and_eq_true, decide_eq_true_eq] at h ⊢
    exact ⟨⟨h.1.1, by omega⟩, okL_le ks (d + 1) (e + 1) (by omega) h.2⟩
theorem okL_le (ks : List Nd) (d e : Nat) (hd : e ≤ d) (h : okL ks d = true) : okL ks e = true := by
  cases ks with
  | nil => rw [okL]
  | cons k r =>
    rw [okL, Bool.and_eq_true] at h ⊢
    exact ⟨okN_le k d e hd h.1, okL_le r d e hd h.2⟩
end
theorem okL_get {ks : List Nd} {d : Nat} (h : okL ks d = true) (i : Nat) (hi : i < ks.length) : okN ks[i] d = true := by
  induction ks generalizing i with
  | nil => simp at hi
  | cons k r ih =>
    rw [okL, Bool.and_eq_true] at h
    cases i with
    | zero => exact h.1
    | succ j => exact ih h.2 j (by simpa using hi)
theorem encL_app (a b : List Nd) : encL (a ++ b) = encL a ++ encL b := by
  induction a with
  | nil => rw [encL]; rfl
  | cons k r ih => rw [List.cons_append, encL, encL, ih, List.append_assoc]
theorem encL_take (ks : List Nd) (k : Nat) (h : k < ks.length) : encL (ks.take (k + 1)) = encL (ks.take k) ++ encN ks[k] := by
  rw [List.take_add_one, List.getElem?_eq_getElem h, encL_app]
  simp [encL]
theorem encL_len (ks : List Nd) (k : Nat) : (encL (ks.take k)).length ≤ (encL ks).length := by
  have : encL ks = encL (ks.take k) ++ encL (ks.drop k) := by rw [← encL_app, List.take_append_drop]
  rw [this, List.length_append]; omega
theorem tx_app (a b : List UInt8) : tx a ++ tx b = tx (a ++ b) := by
  apply ByteArray.ext
  simp [tx]
set_option maxRecDepth 100000 in
theorem open_nodes {H : Type} {enc : TypeId × Value → H} {W : World} {base : Nat} {v : Value} {d : DataW H} {p : List MemPlace} (hv : Value.okWide Tryd.prog W .any base 22 v) (h : DataW.Trod enc Tryd.prog W 0 (fun _ => true) true 22 v d p) :
    ∃ ks kb ko, NdS W (OldB W) v ks kb ko := by
  obtain ⟨a0, len, cap, rfl⟩ := okWide_slice Tryd.underlying22 hv
  obtain ⟨fuel, hf⟩ := h
  exact slice_trod (fuel := fuel) (fun m _ => node_trod m) (by simpa [Value.cells] using hf)
set_option maxHeartbeats 4000000 in
set_option maxRecDepth 20000 in
theorem sexpLists_all (ks : List Nd) (v : Value) (kb ko : Nat) (W : World) (hv : NdS W (OldB W) v ks kb ko) (hl : Lb W.heap.size W) :
    Calls Tryd.prog 10 #[v] W fun e w' => e = .returned (.bool true) ∧ Chg NoB W w' := by
  have Hs := Lib.hid hv
  obtain ⟨⟨q, c, rfl, hkc, hcm, hqq⟩, hk⟩ := hv
  have Hk := Lib.hid hk
  have Hq := Lib.hid hqq
  have Hl := Lib.hid hl
  obtain ⟨len, hlen⟩ : ∃ len, len = ks.length := ⟨_, rfl⟩
  rw [← hlen] at Hs hkc ⊢
  have Hlen := Lib.hid hlen
  unfold maxLen at hcm
  clear hk hqq hl hlen
  go_enter Tryd.func10, Tryd.ntmps10
  go_wp2_with fail
  refine (alive_any _ W Hl.out).mono ?_
  rintro e w2 ⟨rfl, hc2⟩
  have Hc2 := Lib.hid hc2
  have Hs2 := Lib.hid (Hs.out.keep hc2 fun _ _ => id)
  clear hc2
  go_upto_region 4 with fail
  have hal := (Chg.refl NoB w2).alloc (.cells #[.bool false, .string ⟨#[]⟩, .slice q len c] 24)
  obtain ⟨v0, v1, v2⟩ := var3 (heap_alloc_new w2 (.cells #[.bool false, .string ⟨#[]⟩, .slice q len c] 24))
  have Hc3 := Lib.hid (Hc2.out.trans hal)
  have Hs3 := Lib.hid (Hs2.out.keep hal fun _ _ => id)
  generalize w2.alloc (.cells #[.bool false, .string ⟨#[]⟩, .slice q len c] 24) = w3 at *
  have hV : NdV w3 (OldB W) (.agg #[.bool false, .string ⟨#[]⟩, .slice q len c]) (.mk false ⟨#[]⟩ ks) := ⟨Nat.zero_le _, _, kb, ko, rfl, Hs3.out⟩
  have Hgr := Lib.hid (great_any (.mk false ⟨#[]⟩ ks) _ _ w3 hV)
  clear hal hV
  go_wp2_with fail
  cases hg : greatN (.mk false ⟨#[]⟩ ks) with
  | true =>
    rw [hg] at Hgr
    refine Hgr.out.mono ?_
    rintro e w4 ⟨rfl, hc4⟩
    go_wp2_with fail
    go_ret
    exact ⟨rfl, Hc3.out.trans hc4⟩
  | false =>
    have hcnt := great_no hg
    rw [hg] at Hgr
    have hcs : Nd.counts ks ≤ 131072 := by rw [Nd.count] at hcnt; omega
    have Hcs := Lib.hid hcs
    have Hcnt := Lib.hid hcnt
    have hlb : len ≤ 131072 := by have := Nd.len_counts ks; have := Hlen.out; omega
    clear hg hcnt hcs
    refine Hgr.out.mono ?_
    rintro e w4 ⟨rfl, hc4⟩
    have Hc4 := Lib.hid (Hc3.out.trans hc4)
    have Hs4 := Lib.hid (Hs3.out.keep hc4 fun _ _ => id)
    clear hc4 v0 v1 v2
    have Hlist := Lib.hid (list_new ks (by have := Hcs.out; omega) _ _ kb ko w4 Hs4.out)
    go_wp2_with fail
    refine Hlist.out.mono ?_
    rintro e w5 ⟨hc5, v5, rfl, hv5⟩
    have Hc5 := Lib.hid (Hc4.out.trans hc5)
    have Henc := Lib.hid ((enc_any (.mk false ⟨#[]⟩ ks) (by have := Hcnt.out; omega) _ v5 w5 hv5 (fun k hk => hk.2) (Hl.out.keep Hc5.out).top).mono fun e w' h => h.val)
    obtain ⟨r1, hr1⟩ : ∃ r1, r1 = putN (.mk false ⟨#[]⟩ ks) 0 [] := ⟨_, rfl⟩
    rw [← hr1] at Henc
    have Hr1 := Lib.hid hr1
    clear hr1 hc5 hv5
    go_wp2_with fail
    refine Henc.out.mono ?_
    rintro e w6 ⟨hc6, s1, y1, rfl, hs1, hy1⟩
    have Hs1 := Lib.hid hs1
    have Hy1 := Lib.hid hy1
    have Hc6 := Lib.hid (Hc5.out.trans hc6)
    clear hs1 hy1 hc6
    cases r1 with
    | error y =>
      obtain ⟨g0, g1⟩ := putN_err _ _ _ _ Hr1.out.symm
      have hy : y1 = y := Hy1.out
      have hyb : (y1 == 0) = false := by rw [beq_eq_false_iff_ne]; omega
      clear Hy1 Hs1 hy
      go_wp2_with fail
      go_ret
      exact ⟨rfl, Hc6.out⟩
    | ok ys =>
      obtain rfl : y1 = 0 := Hy1.out
      obtain rfl : s1 = tx ys := Hs1.out
      obtain ⟨e1, o1, hyl⟩ := putN_ok _ _ _ _ Hr1.out.symm
      rw [List.nil_append, encN] at e1
      rw [okN] at o1
      simp only [Bool.false_eq_true, if_false] at e1
      simp only [Bool.false_eq_true, if_false, Bool.and_eq_true, decide_eq_true_eq] at o1
      have hEl : (encL ks).length + 2 ≤ 65536 := by rw [e1] at hyl; simp only [List.length_cons, List.length_append, List.length_nil] at hyl; omega
      have HEl := Lib.hid hEl
      have E1 := Lib.hid e1
      have O1 := Lib.hid o1.2
      have htx0 : (⟨#[40]⟩ : ByteArray) = tx [40] := rfl
      have Htx0 := Lib.hid htx0
      clear Hy1 Hs1 e1 o1 hyl hEl htx0
      go_wp2_with fail
      go_loopw [6, 27] (fun sv i wr => ∃ k : Nat, k ≤ len ∧ i = .int .i64 k ∧ sv = .string (tx ([40] ++ encL (ks.take k))) ∧ Chg NoB W wr) (fun _ i _ => len - (intOf i).toNat)
      case atStart => exact ⟨0, Nat.zero_le _, rfl, rfl, Hc6.out⟩
      case round =>
        obtain ⟨k, hk, rfl, rfl, hch⟩ := hrel
        have Hch := Lib.hid hch
        clear hch
        have hle := encL_len ks k
        have HEl2 := HEl.out
        by_cases hlt : k < len
        · have hlt' : k < ks.length := by rw [← Hlen.out]; exact hlt
          obtain ⟨_, hca, s', kb', ko', c0, c1, c2, hs'⟩ := ((Hk.out k hlt').keep Hch.out fun _ _ => id).cells
          have hs2 := hs'
          obtain ⟨⟨q', c', hsq', h5, h6, h7⟩, h8⟩ := hs'
          subst hsq'
          have hqe := Hq.out (by intro e; rw [e] at hlt'; simp at hlt')
          subst hqe
          have hkc1 : ks[k].count ≤ 131072 := Nat.le_trans (Nd.counts_get ks k hlt') Hcs.out
          have hV : NdV wr (OldB W) (.agg #[.bool ks[k].leaf, .string ks[k].atom, .slice q' ks[k].kids.length c']) ks[k] := ⟨hca, _, kb', ko', rfl, hs2⟩
          have htake := encL_take ks k hlt'
          have hle2 := encL_len ks (k + 1)
          rw [htake, List.length_append] at hle2
          have hput : putN ks[k] 0 [] = .ok (encN ks[k]) := by
            have := putN_fit ks[k] 0 [] (okN_le _ 1 0 (by decide) (okL_get O1.out k hlt')) (by rw [List.nil_append]; omega)
            rwa [List.nil_append] at this
          have Htake := Lib.hid htake
          have Hput := Lib.hid hput
          have hal := (Chg.refl NoB wr).alloc (.cells #[.bool ks[k].leaf, .string ks[k].atom, .slice q' ks[k].kids.length c'] 24)
          have Hal := Lib.hid hal
          have Hc7 := Lib.hid (Hch.out.trans hal)
          have Henc7 := Lib.hid (enc_any ks[k] (by omega) _ _ _ (hV.keep hal fun _ _ => id) (old_lt (Hch.out.trans hal)) (Hl.out.keep (Hch.out.trans hal)).top)
          rw [Hput.out] at Henc7
          clear hkc1 hV htake hput hal hs2 h5 h6 h7 h8 hca Hput
          obtain ⟨ek, hek⟩ : ∃ ek, ek = encN ks[k] := ⟨_, rfl⟩
          rw [← hek] at Henc7 Htake hle2
          clear hek
          generalize ks[k] = kd at *
          have ht1 := tx_app ([40] ++ encL (ks.take k)) ek
          have hz1 : (tx ([40] ++ encL (ks.take k))).size = 1 + (encL (ks.take k)).length := by rw [tx_size]; simp; omega
          have hz2 : (tx ek).size = ek.length := tx_size ek
          obtain ⟨pk, hpk⟩ : ∃ pk, pk = [40] ++ encL (ks.take k) := ⟨_, rfl⟩
          rw [← hpk] at ht1 hz1 ⊢
          have Hpk := Lib.hid hpk
          clear hpk
          go_wp2_with fail
          refine Henc7.out.mono ?_
          rintro e w8 ⟨hc8, rfl⟩
          have Hc8 := Lib.hid (Hc7.out.trans hc8)
          clear hc8
          go_wp2_with fail
          go_roundw
          case rel => exact ⟨k + 1, by omega, by go_num, by rw [Htake.out, Hpk.out, List.append_assoc], Hc8.out⟩
          case measure => simp [intOf]; omega
        · obtain rfl : k = len := by omega
          have htk : ks.take k = ks := by rw [Hlen.out]; exact List.take_length
          rw [htk]
          have hz1 : (tx ([40] ++ encL ks)).size = 1 + (encL ks).length := by rw [tx_size]; simp; omega
          have hfin : tx ([40] ++ encL ks) ++ ⟨#[41]⟩ = tx ys := by rw [show (⟨#[41]⟩ : ByteArray) = tx [41] from rfl, tx_app, E1.out]; rfl
          have hone : (⟨#[41]⟩ : ByteArray).size = 1 := rfl
          obtain ⟨pk, hpk⟩ : ∃ pk, pk = [40] ++ encL ks := ⟨_, rfl⟩
          rw [← hpk] at hz1 hfin ⊢
          clear hpk htk
          go_wp2_with fail
          go_ret
          exact ⟨by simp, Hch.out⟩
/-FRAME-/
set_option maxRecDepth 100000 in
theorem sexpLists_lifted (os : Os) (started : os.Started) (H : Type) (enc : TypeId × Value → H) :
    ReturnsInHanded {} Tryd.checked os 10 .any (fun w args => (Rows.sexpListsSpec.pre enc Tryd.prog Tryd.f10 [] false w args ∧ laidMetH Tryd.prog Rows.sexpListsRow.laid w) ∧ sizedMet enc Tryd.prog Tryd.f10 (OpenSpec.ofChange Rows.sexpListsSpec) false w args)
      (Rows.sexpListsSpec.post enc Tryd.prog Tryd.f10 false true false false) := by
  refine returns_both (C := Tryd.checked) (X := fun w _ => laidMetH Tryd.prog Rows.sexpListsRow.laid w) (fun _ _ _ hh h => h.of_heap hh) Tryd.own started (by kernel_rfl) Tryd.func10
    (ChangeSpec.witness_shaped (enc := enc) (C := Tryd.checked) (os := os) (X := fun w _ => laidMetH Tryd.prog Rows.sexpListsRow.laid w) false (World.laidAll Tryd.prog os Rows.sexpListsRow.laid) #[.slice none 0 0] 8 (World.laidAll_os _ _ _)
      (World.shaped_of_ZipB (by kernel_rfl) (by kernel_rfl)) (by kernel_rfl) (by kernel_rfl) (by kernel_rfl)
      (by rw [MakeChecks.laidMetH_plain _ _ _ (by kernel_rfl)]; exact laidMet_laidAll _ (by kernel_rfl) (by kernel_rfl))) ?_
  intro W base args ds gs before hval0 hW _ hsz hL hsh _
  have hval : ∀ (j : Nat) t v, Tryd.f10.params[j]? = some t → args[j]? = some v → Value.okWide Tryd.prog W .any base t v := hval0
  have hW' := hW
  obtain ⟨p, q, hA0, hV, rfl, _, _⟩ := hW
  have hA : DataW.TrodAll enc Tryd.prog W 0 (fun _ => true) true Tryd.f10.params.toList args.toList ds p := hA0
  rw [Tryd.params10] at hA hval
  obtain ⟨v0, d0, rfl, rfl, h0⟩ := trodAll_one hA
  obtain ⟨rfl, rfl⟩ := trodVars_none hV
  obtain ⟨ks0, kb0, ko0, hn0⟩ := open_nodes (hval 0 22 v0 rfl rfl) h0
  simp only [List.append_nil] at hW'
  rw [MakeChecks.laidMetH_plain _ _ _ (by kernel_rfl)] at hL
  have hlb : Lb W.heap.size W := lb_of hL hsh
  clear hA0 hval0
  refine (sexpLists_all ks0 _ kb0 ko0 W hn0 hlb).mono fun e W' ⟨he, hb⟩ => ?_
  subst he
  exact ⟨_, rfl, _, _, _, [], _, [], hW', trodAll_mk1 (shut_bool Tryd.underlying4 _), (trodAll_cons_mk (nodes_stay h0 hb.below) trodAll_mk0), rfl, hb.below.frame _, fun h => by cases h⟩
theorem sexpLists_holds : Rows.SexpListsSaid :=
  OpenClaim.holds_of_wide 10 Tryd.f10 rfl rfl rfl rfl rfl rfl rfl ⟨rfl, rfl, rfl, rfl, rfl⟩ rfl rfl rfl rfl rfl (by kernel_rfl) Tryd.func10 (by kernel_rfl)
    (of_decide_eq_true (by kernel_rfl)) (by unfold Func.isWrapper; first | (rw [if_pos (by decide +kernel)]; kernel_rfl) | (rw [if_neg (by decide +kernel)]; exact ⟨rfl, rfl⟩))
    (fun os started H enc _ => sexpLists_lifted os started H enc)
theorem sexpLists_card : Rows.SexpListsCardSaid :=
  Claim7.holds_tied_plain_at .later [] [.data, .data, .data, .sentinel, .sentinel] true (true, "1aacac15555e80772747c4c143a44f28a139365c580872b528a8a21d441e086a") true sexpLists_holds (fun _ h => by cases h) (by kernel_rfl) (fun _ h => by cases h) sexpLists_row_tie rfl ⟨rfl, rfl⟩ (by kernel_rfl) rfl
    (fun f fn hf hfn => by
      obtain rfl : f = 10 := Option.some.inj ((show Tryd.prog.funcNamed "sapling/saplinglaw01.SexpLists" = some 10 by kernel_rfl).symm.trans hf) |>.symm
      obtain rfl : fn = Tryd.f10 := (Option.some.inj (Tryd.func10.symm.trans hfn)).symm
      exact ⟨by kernel_rfl, fun j t ht => by
        rw [Tryd.params10] at ht
        have hm : t ∈ [22] := by simpa using Array.mem_of_getElem? ht
        have hall : ([22].all fun u => !Tryd.prog.wantsStandIn u) = true := by kernel_rfl
        exact (show Tryd.prog.wantsStandIn t = false by simpa using List.all_eq_true.1 hall t hm)⟩)
    (by kernel_rfl)
#print axioms sexpLists_card
end Go.Proofs.YtodcbagjmbdafaaDoor
