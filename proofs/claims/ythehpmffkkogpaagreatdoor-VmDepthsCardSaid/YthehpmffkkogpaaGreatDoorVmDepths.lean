/- Proved: the statement VmDepths holds for every number. Conditions: the listed package variables read as the program's text lays them (the card ties them); nothing else. -/
import Derived.Test.YthehpmffkkogpaaGreatDoorVqH
import Derived.Test.YthehpmffkkogpaaGreatDoorVqG

namespace Go.Proofs.YthehpmffkkogpaaGreatDoor
set_option linter.unusedVariables false
open Go.ChangeShapes Go.WideShapes Go.ChangeAt Go.RowKit
open Go.ChangeMaps (open_string shut_string)
def cD (n : Nat) : List InsL := (List.range n).map fun i : Nat => ⟨19, (i : Int) + 1, []⟩
theorem cD_len (n : Nat) : (cD n).length = n := by simp [cD]
theorem pD_succ (k : Nat) : pD (k + 1) = pD k ++ [⟨2, (k : Int), []⟩] := by unfold pD; rw [List.range_succ, List.map_append]; rfl
theorem cD_succ (k : Nat) : cD (k + 1) = cD k ++ [⟨19, (k : Int) + 1, []⟩] := by unfold cD; rw [List.range_succ, List.map_append]; rfl
theorem qD_of (n : Nat) : qD n = cD n ++ [⟨1, 0, []⟩] := rfl
theorem pD_wf {n : Nat} (h : n ≤ 200) : ∀ x ∈ pD n, x.wf := by
  intro x hx
  obtain ⟨i, hi, rfl⟩ := List.mem_map.1 hx
  have := List.mem_range.1 hi
  exact ⟨(by decide : (-9223372036854775808 : Int) ≤ 2 ∧ (2 : Int) ≤ 9223372036854775807), ⟨by show _ ≤ (i : Int); omega, by show (i : Int) ≤ _; omega⟩, Nat.zero_le _⟩
theorem qD_wf {n : Nat} (h : n ≤ 200) : ∀ x ∈ qD n, x.wf := by
  intro x hx
  rcases List.mem_append.1 hx with hx | hx
  · obtain ⟨i, hi, rfl⟩ := List.mem_map.1 hx
    have := List.mem_range.1 hi
    exact ⟨(by decide : (-9223372036854775808 : Int) ≤ 19 ∧ (19 : Int) ≤ 9223372036854775807), ⟨by show _ ≤ (i : Int) + 1; omega, by show (i : Int) + 1 ≤ _; omega⟩, Nat.zero_le _⟩
  · rw [List.mem_singleton.1 hx]; exact ⟨by decide, by decide, Nat.zero_le _⟩
set_option maxHeartbeats 4000000 in
set_option maxRecDepth 20000 in
theorem vmDepths_all (x0 : Int) (W : World) (wx0 : (Lit.int .i64 x0).wf = true) (hml : Pth.Ml W) (hlb : Lb W.heap.size W) (hwd : Wd W.heap.size W) :
    Calls Tryz.prog 12 #[.int .i64 x0] W fun e w' => e = .returned (.bool true) ∧ Chg NoB W w' := by
  have hb0 := bounds_i64 wx0
  have Hwd := Lib.hid hwd
  have Hlb := Lib.hid hlb
  have Hml := Lib.hid hml
  obtain ⟨i0, hi, hz0, hz1, hz2⟩ := info_parts insInfo
  have Hi := Lib.hid hi
  have Zi0 := Lib.hid hz0
  have Zi1 := Lib.hid hz1
  have Zi2 := Lib.hid hz2
  have hmx : maxLen = 9223372036854775807 := rfl
  clear hwd hlb hml wx0 hi hz0 hz1 hz2
  go_enter Tryz.func12, Tryz.ntmps12
  go_wp2_with fail
  refine (malive_any W.heap.size W Hwd.out Hlb.out Hml.out).mono ?_
  rintro e w1 ⟨rfl, hc1⟩
  have Hc1 := Lib.hid hc1
  clear hc1
  by_cases h0 : x0 < 1
  · go_wp2_with fail
    go_ret
    exact ⟨rfl, Hc1.out⟩
  by_cases h1 : 200 < x0
  · go_wp2_with fail
    go_ret
    exact ⟨rfl, Hc1.out⟩
  obtain ⟨n, rfl⟩ := Int.eq_ofNat_of_zero_le (by omega : 0 ≤ x0)
  have hn1 : 1 ≤ n := by omega
  have hn2 : n ≤ 200 := by omega
  clear h0 h1 hb0
  go_wp2_with fail
  go_loopw [3, 4, 5] (fun pv qv i wr => ∃ k : Nat, k ≤ n ∧ i = .int .i64 k ∧ wr.ownsRow W.heap.size 46 3 pv k (flatI (pD k)) ∧ wr.ownsRow W.heap.size 46 3 qv k (flatI (cD k)) ∧ (∀ j, pv.ownBlock = some j → qv.ownBlock ≠ some j) ∧ Chg NoB W wr) (fun _ _ i _ => n - (intOf i).toNat)
  case atStart => exact ⟨0, Nat.zero_le _, rfl, World.ownsRow_nil _ _ _ _, World.ownsRow_nil _ _ _ _, (fun j h => by cases h), Hc1.out⟩
  case round =>
    obtain ⟨k, hk, rfl, hp, hq, hap, hch⟩ := hrel
    obtain ⟨pv, rfl⟩ : ∃ z, z = u3 := ⟨_, rfl⟩
    obtain ⟨qv, rfl⟩ : ∃ z, z = u4 := ⟨_, rfl⟩
    have Hch := Lib.hid hch
    have Hap := Lib.hid hap
    have Hpl := Lib.hid (World.ownsRow.lt hp)
    have Hql := Lib.hid (World.ownsRow.lt hq)
    have Hp := Lib.hid hp
    have Hq := Lib.hid hq
    clear hp hq hap hch
    by_cases hlt : k < n
    · skip
      have hal_ := (Chg.refl NoB wr).alloc (.cells #[.int .i64 2, .int .i64 k, .string ⟨#[]⟩] 46)
      have hb_ := heap_alloc_new wr (.cells #[.int .i64 2, .int .i64 k, .string ⟨#[]⟩] 46)
      obtain ⟨b2, hxb_⟩ : ∃ b, b = wr.heap.size := ⟨_, rfl⟩
      obtain ⟨w2, hw_⟩ : ∃ w_, wr.alloc (.cells #[.int .i64 2, .int .i64 k, .string ⟨#[]⟩] 46) = w_ := ⟨_, rfl⟩
      have hz_ : w2.heap.size = b2 + 1 := by rw [← hw_, hxb_]; exact alloc_size _ _
      rw [hw_] at hal_ hb_
      rw [← hxb_] at hb_
      have Hw2 := Lib.hid hw_
      have Hx2 := Lib.hid hxb_
      have Ha2 := Lib.hid hal_
      have Hb2 := Lib.hid hb_
      have Hz2 := Lib.hid hz_
      clear hal_ hb_ hxb_ hw_ hz_
      have Hp2 := Lib.hid (ownsRow_chg Hp.out Ha2.out fun _ _ => id)
      have Hq2 := Lib.hid (ownsRow_chg Hq.out Ha2.out fun _ _ => id)
      have Hnew := Lib.hid (show ∀ j u, (flatI [⟨2, (k : Int), []⟩])[j]? = some u → w2.cell? ((⟨b2, 0, none⟩ : Addr).add j) = some u from fun j u hj => by rw [add_zero_off, cell_of_row w2 b2 j _ _ (0, 0) Hb2.out]; show (flatI [⟨2, (k : Int), []⟩]).toArray[j]? = some u; rw [List.getElem?_toArray]; exact hj)
      have hsz := Lib.hid (show W.heap.size ≤ wr.heap.size ∧ wr.heap.size ≤ w2.heap.size from ⟨Hch.out.size, Ha2.out.size⟩)
      go_upto_region 11 with (at_builtin; go_must (rw [← Hx2.out, Hw2.out]); go_must (refine wpList_append_at _ rfl _ _ 22 rfl W.heap.size 46 i0 (.agg #[.int .i64 0, .int .i64 0, .string ⟨#[]⟩]) 3 32 Tryz.underlying22 Hi.out Zi0.out Zi1.out Zi2.out rfl (by decide) pv k (flatI (pD k)) rfl Hp2.out ⟨b2, 0, none⟩ 1 1 (flatI [⟨2, (k : Int), []⟩]) rfl rfl Hnew.out (flatI_one _) (by omega) (by omega) (by have := hsz.out; omega) ?_); intro v3 w3 hown3 hgr3 hpl3)
      have Hg3 := Lib.hid ((Ha2.out.mono fun _ _ h => h.elim : Chg (fun j => pv.ownBlock = some j) wr w2).grown hgr3 fun j hj => .inl hj)
      have hP3 : w3.ownsRow W.heap.size 46 3 v3 (k + 1) (flatI (pD (k + 1))) := by rw [pD_succ, flatI_app]; exact hown3
      have HP3 := Lib.hid hP3
      have HQ3 := Lib.hid (ownsRow_chg Hq.out Hg3.out fun j hj e => Hap.out j e hj)
      have HA3 := Lib.hid (show ∀ j, v3.ownBlock = some j → qv.ownBlock ≠ some j from fun j hj hq => by
        rcases hpl3 with h | h
        · exact Hap.out j (by rw [← h]; exact hj) hq
        · rw [h] at hj; cases hj; have := (Hql.out _ hq).2; have := hsz.out.2; omega)
      have HC3 := Lib.hid (Hch.out.transR Hg3.out fun j hj e => by have := (Hpl.out j e).1; omega)
      clear hown3 hgr3 hpl3 hP3
      have hal_ := (Chg.refl NoB w3).alloc (.cells #[.int .i64 19, .int .i64 ((k : Int) + 1), .string ⟨#[]⟩] 46)
      have hb_ := heap_alloc_new w3 (.cells #[.int .i64 19, .int .i64 ((k : Int) + 1), .string ⟨#[]⟩] 46)
      obtain ⟨b4, hxb_⟩ : ∃ b, b = w3.heap.size := ⟨_, rfl⟩
      obtain ⟨w4, hw_⟩ : ∃ w_, w3.alloc (.cells #[.int .i64 19, .int .i64 ((k : Int) + 1), .string ⟨#[]⟩] 46) = w_ := ⟨_, rfl⟩
      have hz_ : w4.heap.size = b4 + 1 := by rw [← hw_, hxb_]; exact alloc_size _ _
      rw [hw_] at hal_ hb_
      rw [← hxb_] at hb_
      have Hw4 := Lib.hid hw_
      have Hx4 := Lib.hid hxb_
      have Ha4 := Lib.hid hal_
      have Hb4 := Lib.hid hb_
      have Hz4 := Lib.hid hz_
      clear hal_ hb_ hxb_ hw_ hz_
      have HQ4 := Lib.hid (ownsRow_chg HQ3.out Ha4.out fun _ _ => id)
      have Hnew4 := Lib.hid (show ∀ j u, (flatI [⟨19, (k : Int) + 1, []⟩])[j]? = some u → w4.cell? ((⟨b4, 0, none⟩ : Addr).add j) = some u from fun j u hj => by rw [add_zero_off, cell_of_row w4 b4 j _ _ (0, 0) Hb4.out]; show (flatI [⟨19, (k : Int) + 1, []⟩]).toArray[j]? = some u; rw [List.getElem?_toArray]; exact hj)
      have hsz4 := Lib.hid (show W.heap.size ≤ w3.heap.size ∧ w3.heap.size ≤ w4.heap.size from ⟨HC3.out.size, Ha4.out.size⟩)
      go_wp2_with (at_builtin; go_must (rw [← Hx4.out, Hw4.out]); go_must (refine wpList_append_at _ rfl _ _ 22 rfl W.heap.size 46 i0 (.agg #[.int .i64 0, .int .i64 0, .string ⟨#[]⟩]) 3 32 Tryz.underlying22 Hi.out Zi0.out Zi1.out Zi2.out rfl (by decide) qv k (flatI (cD k)) rfl HQ4.out ⟨b4, 0, none⟩ 1 1 (flatI [⟨19, (k : Int) + 1, []⟩]) rfl rfl Hnew4.out (flatI_one _) (by omega) (by omega) (by have := hsz4.out; omega) ?_); intro v5 w5 hown5 hgr5 hpl5)
      have Hg5 := Lib.hid ((Ha4.out.mono fun _ _ h => h.elim : Chg (fun j => qv.ownBlock = some j) w3 w4).grown hgr5 fun j hj => .inl hj)
      have hQ5 : w5.ownsRow W.heap.size 46 3 v5 (k + 1) (flatI (cD (k + 1))) := by rw [cD_succ, flatI_app]; exact hown5
      have HQ5 := Lib.hid hQ5
      have HP5 := Lib.hid (ownsRow_chg HP3.out Hg5.out fun j hj e => HA3.out j hj e)
      have HA5 := Lib.hid (show ∀ j, v3.ownBlock = some j → v5.ownBlock ≠ some j from fun j hj hq => by
        rcases hpl5 with h | h
        · exact HA3.out j hj (by rw [← h]; exact hq)
        · rw [h] at hq; cases hq; have := (World.ownsRow.lt HP3.out _ hj).2; have := hsz4.out.2; omega)
      have HC5 := Lib.hid (HC3.out.transR Hg5.out fun j hj e => by have := (World.ownsRow.lt HQ3.out j e).1; omega)
      clear hown5 hgr5 hpl5 hQ5
      go_roundw
      case rel => exact ⟨k + 1, by omega, by go_num, HP5.out, HQ5.out, HA5.out, HC5.out⟩
      case measure => simp [intOf]; omega
    · obtain rfl : k = n := by omega
      clear hlt hk
      obtain ⟨w2, rfl⟩ : ∃ z, z = wr := ⟨_, rfl⟩
      have hal_ := (Chg.refl NoB w2).alloc (.cells #[.int .i64 1, .int .i64 0, .string ⟨#[]⟩] 46)
      have hb_ := heap_alloc_new w2 (.cells #[.int .i64 1, .int .i64 0, .string ⟨#[]⟩] 46)
      obtain ⟨b3, hxb_⟩ : ∃ b, b = w2.heap.size := ⟨_, rfl⟩
      obtain ⟨w3, hw_⟩ : ∃ w_, w2.alloc (.cells #[.int .i64 1, .int .i64 0, .string ⟨#[]⟩] 46) = w_ := ⟨_, rfl⟩
      have hz_ : w3.heap.size = b3 + 1 := by rw [← hw_, hxb_]; exact alloc_size _ _
      rw [hw_] at hal_ hb_
      rw [← hxb_] at hb_
      have Hw3 := Lib.hid hw_
      have Hx3 := Lib.hid hxb_
      have Ha3 := Lib.hid hal_
      have Hb3 := Lib.hid hb_
      have Hz3 := Lib.hid hz_
      clear hal_ hb_ hxb_ hw_ hz_
      have Hq3 := Lib.hid (ownsRow_chg Hq.out Ha3.out fun _ _ => id)
      have Hnew3 := Lib.hid (show ∀ j u, (flatI [⟨1, 0, []⟩])[j]? = some u → w3.cell? ((⟨b3, 0, none⟩ : Addr).add j) = some u from fun j u hj => by rw [add_zero_off, cell_of_row w3 b3 j _ _ (0, 0) Hb3.out]; show (flatI [⟨1, 0, []⟩]).toArray[j]? = some u; rw [List.getElem?_toArray]; exact hj)
      have hsz := Lib.hid (show W.heap.size ≤ w2.heap.size ∧ w2.heap.size ≤ w3.heap.size from ⟨Hch.out.size, Ha3.out.size⟩)
      go_upto_region 13 with (at_builtin; go_must (rw [← Hx3.out, Hw3.out]); go_must (refine wpList_append_at _ rfl _ _ 22 rfl W.heap.size 46 i0 (.agg #[.int .i64 0, .int .i64 0, .string ⟨#[]⟩]) 3 32 Tryz.underlying22 Hi.out Zi0.out Zi1.out Zi2.out rfl (by decide) qv k (flatI (cD k)) rfl Hq3.out ⟨b3, 0, none⟩ 1 1 (flatI [⟨1, 0, []⟩]) rfl rfl Hnew3.out (flatI_one _) (by omega) (by omega) (by have := hsz.out; omega) ?_); intro v4 w4 hown4 hgr4 hpl4)
      have hg4 : Chg (fun j => qv.ownBlock = some j) w2 w4 := (Ha3.out.mono fun _ _ h => h.elim : Chg (fun j => qv.ownBlock = some j) w2 w3).grown hgr4 fun j hj => .inl hj
      have hQ4 : w4.ownsRow W.heap.size 46 3 v4 (qD k).length (flatI (qD k)) := by rw [qD_len, qD_of, flatI_app]; exact hown4
      have hP4 := ownsRow_chg Hp.out hg4 fun j hj e => Hap.out j hj e
      rw [← pD_len k] at hP4
      have Hc4 := Lib.hid (Hch.out.transR hg4 fun j hj e => by have := (Hql.out j e).1; omega)
      obtain ⟨kp, hsp⟩ := InsS.of_row (by rw [pD_len] at hP4 ⊢; exact hP4) fun i hi => pD_wf hn2 _ (List.getElem_mem hi)
      obtain ⟨kq, hsq⟩ := InsS.of_row hQ4 fun i hi => qD_wf hn2 _ (List.getElem_mem hi)
      have Hsp := Lib.hid hsp
      have Hsq := Lib.hid hsq
      have HRp := Lib.hid (run_any (pD k) [] _ NoB pv (.slice none 0 0) kp 0 0 0 W.heap.size w4 (Hwd.out.keep Hc4.out) (Hlb.out.keep Hc4.out) (ml_keep Hml.out Hc4.out) (by rw [pD_len]; omega) (by decide) (fun x hx => nomatch hx) hsp (InpS.nil _ _))
      have HRq := Lib.hid (fun (w' : World) (h : Chg NoB w4 w') => run_any (qD k) [] _ NoB v4 (.slice none 0 0) kq 0 0 0 W.heap.size w' (Hwd.out.keep (Hc4.out.trans h)) (Hlb.out.keep (Hc4.out.trans h)) (ml_keep Hml.out (Hc4.out.trans h)) (by rw [qD_len]; omega) (by decide) (fun x hx => nomatch hx) (hsq.keep h fun _ _ => id) (InpS.nil _ _))
      clear hown4 hgr4 hpl4 hg4 hQ4 hP4 hsp hsq
      go_wp2_with fail
      refine HRp.out.mono ?_
      intro e w5 hr
      obtain ⟨hc5, q5, k5, c5, kb5, ko5, hk5, rfl, hs5⟩ := hr.val
      have Hc5 := Lib.hid hc5
      have Hpn := Lib.hid (fun h => pD_fit (n := k) h)
      have Hpo := Lib.hid (fun h => pD_over (n := k) h)
      generalize runN (pD k) [] = pn at *
      generalize runE (pD k) [] = py at *
      clear hc5 hk5 hs5 hr HRp
      have hal_ := (Chg.refl NoB w5).alloc (.cells #[.slice q5 k5 c5] 25)
      have hb_ := heap_alloc_new w5 (.cells #[.slice q5 k5 c5] 25)
      obtain ⟨b6, hxb_⟩ : ∃ b, b = w5.heap.size := ⟨_, rfl⟩
      obtain ⟨w6, hw_⟩ : ∃ w_, w5.alloc (.cells #[.slice q5 k5 c5] 25) = w_ := ⟨_, rfl⟩
      have hz_ : w6.heap.size = b6 + 1 := by rw [← hw_, hxb_]; exact alloc_size _ _
      rw [hw_] at hal_ hb_
      rw [← hxb_] at hb_
      have Hw6 := Lib.hid hw_
      have Hx6 := Lib.hid hxb_
      have Ha6 := Lib.hid hal_
      have Hb6 := Lib.hid hb_
      have Hz6 := Lib.hid hz_
      clear hal_ hb_ hxb_ hw_ hz_
      have HR6 := Lib.hid (HRq.out w6 (Hc5.out.trans Ha6.out))
      clear HRq
      go_upto_region 14 with fail
      rw [Hw6.out]
      go_wp2_with fail
      refine HR6.out.mono ?_
      intro e w7 hr
      obtain ⟨hc7, q7, k7, c7, kb7, ko7, hk7, rfl, hs7⟩ := hr.val
      have Hc7 := Lib.hid (Hc4.out.trans (Hc5.out.trans (Ha6.out.trans hc7)))
      have Hqn := Lib.hid (fun h => qD_fit (n := k) h)
      have Hqo := Lib.hid (fun h => qD_over (n := k) h)
      generalize runN (qD k) [] = qn at *
      generalize runE (qD k) [] = qy at *
      clear hc7 hk7 hs7 hr HR6
      have Hc8 := Lib.hid (Hc7.out.alloc (.cells #[.slice q7 k7 c7] 25))
      by_cases h64 : 64 < k
      · obtain ⟨rfl, rfl⟩ := Hpo.out (by omega)
        obtain ⟨rfl, rfl⟩ := Hqo.out (by omega)
        have h3 : ((k : Int) ≤ 64) = False := eq_false (by omega)
        have h4 : ((k : Int) ≤ 16) = False := eq_false (by omega)
        go_wp2_with fail
        go_ret
        exact ⟨rfl, Hc8.out⟩
      · obtain ⟨rfl, rfl⟩ := Hpn.out (by omega)
        by_cases h16 : 16 < pn
        · obtain ⟨rfl, rfl⟩ := Hqo.out (by omega)
          have h4 : ((pn : Int) ≤ 16) = False := eq_false (by omega)
          go_wp2_with fail
          go_ret
          exact ⟨rfl, Hc8.out⟩
        · obtain ⟨rfl, rfl⟩ := Hqn.out (by omega)
          go_wp2_with fail
          go_ret
          exact ⟨rfl, Hc8.out⟩
/-FRAME-/
set_option maxRecDepth 100000 in
theorem vmDepths_lifted (os : Os) (started : os.Started) (H : Type) (enc : TypeId × Value → H) :
    ReturnsInHanded {} Tryz.checked os 12 .any (fun w args => (Rows.vmDepthsSpec.pre enc Tryz.prog Tryz.f12 [] false w args ∧ laidMetH Tryz.prog Rows.vmDepthsRow.laid w) ∧ sizedMet enc Tryz.prog Tryz.f12 (OpenSpec.ofChange Rows.vmDepthsSpec) false w args)
      (Rows.vmDepthsSpec.post enc Tryz.prog Tryz.f12 false true false false) := by
  refine returns_both (C := Tryz.checked) (X := fun w _ => laidMetH Tryz.prog Rows.vmDepthsRow.laid w) (fun _ _ _ hh h => h.of_heap hh) Tryz.own started (by kernel_rfl) Tryz.func12
    (ChangeSpec.witness_shaped (enc := enc) (C := Tryz.checked) (os := os) (X := fun w _ => laidMetH Tryz.prog Rows.vmDepthsRow.laid w) false (World.laidAll Tryz.prog os Rows.vmDepthsRow.laid) #[.int .i64 0] 8 (World.laidAll_os _ _ _)
      (World.shaped_of_ZipB (by kernel_rfl) (by kernel_rfl)) (by kernel_rfl) (by kernel_rfl) (by kernel_rfl)
      (by rw [MakeChecks.laidMetH_plain _ _ _ (by kernel_rfl)]; exact laidMet_laidAll _ (by kernel_rfl) (by kernel_rfl))) ?_
  intro W base args ds gs before hval0 hW _ hsz hL hsh _
  have hval : ∀ (j : Nat) t v, Tryz.f12.params[j]? = some t → args[j]? = some v → Value.okWide Tryz.prog W .any base t v := hval0
  have hW' := hW
  obtain ⟨p, q, hA0, hV, rfl, _, _⟩ := hW
  have hA : DataW.TrodAll enc Tryz.prog W 0 (fun _ => true) true Tryz.f12.params.toList args.toList ds p := hA0
  have hsz1 : (DataW.weightsEach Tryz.prog (Tryz.f12.params.toList ++ Rows.vmDepthsSpec.plain.varTypes Tryz.prog) (ds ++ gs)).all (· ≤ reachBytes) = true := hsz
  rw [Tryz.params12] at hA hval hsz1
  obtain ⟨v0, d0, rfl, rfl, h0⟩ := trodAll_one hA
  obtain ⟨rfl, rfl⟩ := trodVars_none hV
  obtain ⟨x0, rfl, rfl, rfl, wx0⟩ := open_int Tryz.underlying3 (hval 0 3 v0 rfl rfl) h0
  simp only [List.append_nil] at hW'
  rw [MakeChecks.laidMetH_plain _ _ _ (by kernel_rfl)] at hL
  have hml : Pth.Ml W := wml_of hsh
  obtain ⟨hlb, hwd⟩ := lb8_of hL hsh
  clear hA0 hval0
  refine (vmDepths_all x0 W wx0 hml hlb hwd).mono fun e W' ⟨he, hb⟩ => ?_
  subst he
  exact ⟨_, rfl, _, _, _, [], _, [], hW', trodAll_mk1 (shut_bool Tryz.underlying4 _), (trodAll_cons_mk (shut_int Tryz.underlying3 wx0) trodAll_mk0), rfl, hb.below.frame _, fun h => by cases h⟩
theorem vmDepths_holds : Rows.VmDepthsSaid :=
  OpenClaim.holds_of_wide 12 Tryz.f12 rfl rfl rfl rfl rfl rfl rfl ⟨rfl, rfl, rfl, rfl, rfl⟩ rfl rfl rfl rfl rfl (by kernel_rfl) Tryz.func12 (by kernel_rfl)
    (of_decide_eq_true (by kernel_rfl)) (by unfold Func.isWrapper; first | (rw [if_pos (by decide +kernel)]; kernel_rfl) | (rw [if_neg (by decide +kernel)]; exact ⟨rfl, rfl⟩))
    (fun os started H enc _ => vmDepths_lifted os started H enc)
theorem vmDepths_card : Rows.VmDepthsCardSaid :=
  Claim7.holds_tied_plain_at .later [] [.data, .data, .data, .data, .sentinel, .sentinel, .widerDeep, .pinned] true (true, "ec86cb7f90a952613a297ea1a1848055ebca9cdb2e48697e77ccb43f8b788bff") true vmDepths_holds (fun _ h => by cases h) (by kernel_rfl) (fun _ h => by cases h) vmDepths_row_tie rfl ⟨rfl, rfl⟩ (by kernel_rfl) rfl
    (fun f fn hf hfn => by
      obtain rfl : f = 12 := Option.some.inj ((show Tryz.prog.funcNamed "sapling/saplinglaw10.VmDepths" = some 12 by kernel_rfl).symm.trans hf) |>.symm
      obtain rfl : fn = Tryz.f12 := (Option.some.inj (Tryz.func12.symm.trans hfn)).symm
      exact ⟨by kernel_rfl, fun j t ht => by
        rw [Tryz.params12] at ht
        have hm : t ∈ [3] := by simpa using Array.mem_of_getElem? ht
        have hall : ([3].all fun u => !Tryz.prog.wantsStandIn u) = true := by kernel_rfl
        exact (show Tryz.prog.wantsStandIn t = false by simpa using List.all_eq_true.1 hall t hm)⟩)
    (by kernel_rfl)
#print axioms vmDepths_card
end Go.Proofs.YthehpmffkkogpaaGreatDoor
