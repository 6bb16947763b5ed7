/- Proved: the statement VmReckons holds for every three numbers. Conditions: the listed package variables read as the program's text lays them (the card ties them); nothing else. -/
import Derived.Test.YthehpmffkkogpaaGreatDoorVmOutF

namespace Go.Proofs.YthehpmffkkogpaaGreatDoor
set_option linter.unusedVariables false
open Go.ChangeShapes Go.WideShapes Go.ChangeAt Go.RowKit
open Go.ChangeMaps (open_string shut_string)
theorem insS_row {w : World} {lo : Nat} {v : Value} {ps : List InsL} (h : w.ownsRow lo 46 3 v ps.length (flatI ps)) (hw : ∀ x ∈ ps, x.wf) : ∃ kb, InsS w (fun k => lo ≤ k ∧ k < w.heap.size) v ps kb 0 := InsS.of_row h fun i hi => hw _ (List.getElem_mem hi)
theorem tailI_wf : ∀ x ∈ tailI, x.wf := by
  intro x hx
  simp only [tailI, List.mem_cons, List.not_mem_nil, or_false] at hx
  rcases hx with rfl | rfl | rfl | rfl <;> exact ⟨by decide, by decide, by decide⟩
theorem strI_wf : strI.wf := ⟨by decide, by decide, by decide⟩
theorem row3_new {w : World} {b lo : Nat} {ps : List InsL} {cs : Array Value} (h : w.heap[b]? = some (.cells cs 46 (0, 0))) (hc : cs = (flatI ps).toArray) (hlo : lo ≤ b) (hl : ps.length ≤ maxLen) {k : Nat} (hk : k = ps.length) : w.ownsRow lo 46 3 (.slice (some ⟨b, 0, none⟩) k k) k (flatI ps) := by
  subst hk
  subst hc
  exact ⟨flatI_len ps, .inr ⟨b, ps.length, _, rfl, hlo, h, Nat.le_refl _, hl, by simp [flatI_len], by rw [List.toList_toArray]; exact List.take_of_length_le (by rw [flatI_len]; exact Nat.le_refl _)⟩⟩
def opOf (k : Nat) : Int := ops7.getD k 9
theorem opOf_in {k : Nat} (h : k < 7) : opOf k ∈ ops7 := by
  unfold opOf
  rw [List.getD_eq_getElem?_getD, List.getElem?_eq_getElem (show k < ops7.length from h)]
  exact List.getElem_mem _
theorem ops_cell : ∀ k, k < 7 → (#[Value.int .i64 9, .int .i64 10, .int .i64 11, .int .i64 12, .int .i64 13, .int .i64 14, .int .i64 15] : Array Value)[k]? = some (.int .i64 (opOf k))
  | 0, _ => rfl
  | 1, _ => rfl
  | 2, _ => rfl
  | 3, _ => rfl
  | 4, _ => rfl
  | 5, _ => rfl
  | 6, _ => rfl
def rQ (o a b : Int) : List InsL := [⟨2, a, []⟩, ⟨2, b, []⟩, ⟨o, 0, []⟩]
theorem rP_of (o a b : Int) : rQ o a b ++ [strI] ++ tailI = rP o a b ++ tailI := rfl
theorem opOf_bound {k : Nat} (h : k < 7) : -9223372036854775808 ≤ opOf k ∧ opOf k ≤ 9223372036854775807 := by
  have := opOf_in h
  simp only [ops7, List.mem_cons, List.not_mem_nil, or_false] at this
  omega
theorem rP_wf {k : Nat} (hk : k < 7) {a b : Int} (ha : -9223372036854775808 ≤ a ∧ a ≤ 9223372036854775807) (hb : -9223372036854775808 ≤ b ∧ b ≤ 9223372036854775807) : ∀ x ∈ rP (opOf k) a b ++ tailI, x.wf := by
  intro x hx
  rcases List.mem_append.1 hx with hx | hx
  · simp only [rP, List.mem_cons, List.not_mem_nil, or_false] at hx
    rcases hx with rfl | rfl | rfl | rfl
    · exact ⟨(by decide : (-9223372036854775808 : Int) ≤ 2 ∧ (2 : Int) ≤ 9223372036854775807), ha, Nat.zero_le _⟩
    · exact ⟨(by decide : (-9223372036854775808 : Int) ≤ 2 ∧ (2 : Int) ≤ 9223372036854775807), hb, Nat.zero_le _⟩
    · exact ⟨opOf_bound hk, (by decide : (-9223372036854775808 : Int) ≤ 0 ∧ (0 : Int) ≤ 9223372036854775807), Nat.zero_le _⟩
    · exact strI_wf
  · exact tailI_wf x hx
/- what the statement's own switch makes -/
def wantN (k : Nat) (a b : Int) : Int :=
  if k = 0 then wrap64 (a + b) else if k = 1 then wrap64 (a - b) else if k = 2 then wrap64 (a * b) else if k = 3 then wrap64 (a.tdiv b) else if k = 4 then a.tmod b else if k = 5 then (if a < b then 1 else 0) else (if a = b then 1 else 0)
theorem resN_want {k : Nat} (hk : k < 7) (a b : Int) : resN (opOf k) a b = if (k = 3 ∨ k = 4) ∧ b = 0 then none else some (wantN k a b) := by
  match k, hk with
  | 0, _ => rfl
  | 1, _ => rfl
  | 2, _ => rfl
  | 3, _ =>
    show (if b = 0 then none else some (wrap64 (a.tdiv b))) = _
    by_cases h : b = 0
    · rw [if_pos h, if_pos ⟨.inl rfl, h⟩]
    · rw [if_neg h, if_neg (fun x => h x.2)]; rfl
  | 4, _ =>
    show (if b = 0 then none else some (a.tmod b)) = _
    by_cases h : b = 0
    · rw [if_pos h, if_pos ⟨.inr rfl, h⟩]
    · rw [if_neg h, if_neg (fun x => h x.2)]; rfl
  | 5, _ => rfl
  | 6, _ => rfl
theorem want_in {k : Nat} {a b : Int} (ha : -9223372036854775808 ≤ a ∧ a ≤ 9223372036854775807) : -9223372036854775808 ≤ wantN k a b ∧ wantN k a b ≤ 9223372036854775807 := by
  unfold wantN
  repeat' split
  all_goals first | exact wrap_in _ | exact tmod_in ha | omega
theorem getA (t : List UInt8) : (getF [(([97] : List UInt8), t)] [97]).1 = t := by unfold getF; simp
theorem itoa_beq (n : Int) : ((tx (itoaL n)).toList == Lib.itoa n) = true := by simp [tx, itoaL]
set_option maxHeartbeats 8000000 in
set_option maxRecDepth 20000 in
theorem vmReckons_all (x0 x1 x2 : Int) (W : World) (wx0 : (Lit.int .i64 x0).wf = true) (wx1 : (Lit.int .i64 x1).wf = true) (wx2 : (Lit.int .i64 x2).wf = true) (hml : Pth.Ml W) (hlb : Lb W.heap.size W) (hwd : Wd W.heap.size W) :
    Calls Tryz.prog 9 #[.int .i64 x0, .int .i64 x1, .int .i64 x2] W fun e w' => e = .returned (.bool true) ∧ Chg NoB W w' := by
  have hb0 := bounds_i64 wx0
  have hb1 := bounds_i64 wx1
  have hb2 := bounds_i64 wx2
  have Hwd := Lib.hid hwd
  have Hlb := Lib.hid hlb
  have Hml := Lib.hid hml
  clear hwd hlb hml wx0 wx1 wx2
  go_enter Tryz.func9, Tryz.ntmps9
  go_wp2_with fail
  refine (malive_any W.heap.size W Hwd.out Hlb.out Hml.out).mono ?_
  rintro e w1 ⟨rfl, hc1⟩
  have Hc1 := Lib.hid hc1
  clear hc1
  have hal_ := (Chg.refl NoB w1).alloc (.cells #[.int .i64 9, .int .i64 10, .int .i64 11, .int .i64 12, .int .i64 13, .int .i64 14, .int .i64 15] 51)
  have hb_ := heap_alloc_new w1 (.cells #[.int .i64 9, .int .i64 10, .int .i64 11, .int .i64 12, .int .i64 13, .int .i64 14, .int .i64 15] 51)
  obtain ⟨ab, hxb_⟩ : ∃ b, b = w1.heap.size := ⟨_, rfl⟩
  obtain ⟨w2, hw_⟩ : ∃ w_, w1.alloc (.cells #[.int .i64 9, .int .i64 10, .int .i64 11, .int .i64 12, .int .i64 13, .int .i64 14, .int .i64 15] 51) = w_ := ⟨_, rfl⟩
  have hz_ : w2.heap.size = ab + 1 := by rw [← hw_, hxb_]; exact alloc_size _ _
  rw [hw_] at hal_ hb_
  rw [← hxb_] at hb_
  have Hw2 := Lib.hid hw_
  have Hx2 := Lib.hid hxb_
  have Ha2 := Lib.hid hal_
  have Hb2 := Lib.hid hb_
  have Hz2 := Lib.hid hz_
  clear hal_ hb_ hxb_ hw_ hz_
  have Hc2 := Lib.hid (Hc1.out.trans Ha2.out)
  go_upto_region 4 with fail
  rw [Hw2.out, ← Hx2.out]
  by_cases h0 : x0 < 0
  · go_wp2_with fail
    go_ret
    exact ⟨rfl, Hc2.out⟩
  by_cases h1 : 6 < x0
  · go_wp2_with fail
    go_ret
    exact ⟨rfl, Hc2.out⟩
  obtain ⟨k, rfl⟩ := Int.eq_ofNat_of_zero_le (by omega : 0 ≤ x0)
  have hk7 : k < 7 := by omega
  have Hk7 := Lib.hid hk7
  have c2 : w2.cell? ⟨ab, k, none⟩ = some (.int .i64 (opOf k)) := by
    rw [cell_of_row w2 ab k _ _ (0, 0) Hb2.out]
    exact ops_cell k hk7
  have Hin := Lib.hid (And.intro hb1 hb2)
  have hal_ := (Chg.refl NoB w2).alloc (.cells #[.int .i64 2, .int .i64 x1, .string ⟨#[]⟩, .int .i64 2, .int .i64 x2, .string ⟨#[]⟩, .int .i64 (opOf k), .int .i64 0, .string ⟨#[]⟩] 46)
  have hb_ := heap_alloc_new w2 (.cells #[.int .i64 2, .int .i64 x1, .string ⟨#[]⟩, .int .i64 2, .int .i64 x2, .string ⟨#[]⟩, .int .i64 (opOf k), .int .i64 0, .string ⟨#[]⟩] 46)
  obtain ⟨b3, hxb_⟩ : ∃ b, b = w2.heap.size := ⟨_, rfl⟩
  obtain ⟨w3, hw_⟩ : ∃ w_, w2.alloc (.cells #[.int .i64 2, .int .i64 x1, .string ⟨#[]⟩, .int .i64 2, .int .i64 x2, .string ⟨#[]⟩, .int .i64 (opOf k), .int .i64 0, .string ⟨#[]⟩] 46) = w_ := ⟨_, rfl⟩
  have hz_ : w3.heap.size = b3 + 1 := by rw [← hw_, hxb_]; exact alloc_size _ _
  rw [hw_] at hal_ hb_
  rw [← hxb_] at hb_
  have Hw3 := Lib.hid hw_
  have Hx3 := Lib.hid hxb_
  have Ha3 := Lib.hid hal_
  have Hb3 := Lib.hid hb_
  have Hz3 := Lib.hid hz_
  clear hal_ hb_ hxb_ hw_ hz_
  have Hc3 := Lib.hid (Hc2.out.trans Ha3.out)
  have HO := Lib.hid (out_any (rQ (opOf k) x1 x2) true W.heap.size (.slice (some ⟨b3, 0, none⟩) 3 3) w3 Hc3.out.size (by show 3 ≤ 1000; decide) (row3_new (ps := rQ (opOf k) x1 x2) Hb3.out rfl (by have := Hx3.out; have := Hc2.out.size; omega) (by show 3 ≤ maxLen; decide) (k := 3) rfl))
  go_wp2_with fail
  rw [← Hx3.out, Hw3.out]
  refine HO.out.mono ?_
  rintro e w4 ⟨v4, rfl, g4⟩
  have Hc4 : Hid (Chg NoB W w4) := Lib.hid (Hc3.out.transR g4.chg fun j hj e => by have e2 : b3 = j := Option.some.inj e; have h1 := Hx3.out; have h2 := Hc2.out.size; exact absurd hj (by omega))
  have hr4 := g4.row
  simp only [if_true] at hr4
  rw [rP_of] at hr4
  obtain ⟨kb4, hs4⟩ := insS_row hr4 (rP_wf hk7 hb1 hb2)
  have HW4 := Lib.hid (wrote_any (rP (opOf k) x1 x2 ++ tailI) _ v4 kb4 0 W.heap.size w4 (Hwd.out.keep Hc4.out) (Hlb.out.keep Hc4.out) (ml_keep Hml.out Hc4.out) (by show 8 ≤ 131072; decide) hs4)
  have hrun := rP_run (opOf_in hk7) x1 x2
  rw [resN_want hk7] at hrun
  clear hr4 hs4 g4 c2 HO
  by_cases hz : (k = 3 ∨ k = 4) ∧ x2 = 0
  · rw [if_pos hz] at hrun
    have hrun : runL (rP (opOf k) x1 x2 ++ tailI) [] = [] ∧ runE (rP (opOf k) x1 x2 ++ tailI) [] = 42 := hrun
    rw [hrun.2] at HW4
    obtain ⟨t, ht⟩ : ∃ z, z = (getF (runL (rP (opOf k) x1 x2 ++ tailI) []) [97]).1 := ⟨_, rfl⟩
    rw [← ht] at HW4
    obtain ⟨hz1, rfl⟩ := hz
    clear hrun ht
    go_wp2_with fail
    refine HW4.out.mono ?_
    rintro e w5 ⟨hc5, rfl⟩
    have Hc5 := Lib.hid (Hc4.out.trans hc5)
    clear hc5 HW4
    have hkk : ((k : Int) == 3 || (k : Int) == 4) = true := by rcases hz1 with rfl | rfl <;> rfl
    rcases hz1 with rfl | rfl
    · go_wp2_with fail
      go_ret
      exact ⟨rfl, Hc5.out⟩
    · go_wp2_with fail
      go_ret
      exact ⟨rfl, Hc5.out⟩
  · rw [if_neg hz] at hrun
    obtain ⟨hl, he⟩ := (show -9223372036854775808 ≤ wantN k x1 x2 ∧ wantN k x1 x2 ≤ 9223372036854775807 → _ ∧ _ from hrun) (want_in hb1)
    rw [he, hl, getA] at HW4
    have HI := Lib.hid (fun (w' : World) (h : Chg NoB W w') => itoaW_any (wantN k x1 x2) (want_in hb1).1 (want_in hb1).2 W.heap.size w' (Hlb.out.keep h).lw)
    clear hrun hl he
    go_wp2_with fail
    refine HW4.out.mono ?_
    rintro e w5 ⟨hc5, rfl⟩
    have Hc5 := Lib.hid (Hc4.out.trans hc5)
    clear hc5 HW4
    have Hk := Lib.hid (show (k = 3 ∨ k = 4 → x2 ≠ 0) from fun h h2 => hz ⟨h, h2⟩)
    have Hit := Lib.hid (HI.out w5 Hc5.out)
    obtain ⟨wn, hwn⟩ : ∃ z, z = wantN k x1 x2 := ⟨_, rfl⟩
    rw [← hwn] at Hit ⊢
    have hbs := tx_beq (Lib.itoa wn) (Lib.itoa wn)
    rw [decide_eq_true rfl] at hbs
    have Hwn := Lib.hid hwn
    clear hz HI hwn
    have hcs : k = 0 ∨ k = 1 ∨ k = 2 ∨ k = 3 ∨ k = 4 ∨ k = 5 ∨ k = 6 := by omega
    clear hk7
    rcases hcs with rfl | rfl | rfl | rfl | rfl | rfl | rfl
    · obtain rfl : wn = wrap64 (x1 + x2) := Hwn.out
      go_wp2_with fail
      refine Hit.out.mono ?_
      rintro e w6 ⟨rfl, hc6⟩
      have Hc6 := Lib.hid (Hc5.out.trans hc6)
      clear hc6 Hit
      go_wp2_with fail
      go_ret
      exact ⟨congrArg (fun b => Ending.returned (Value.bool b)) (itoa_beq _), Hc6.out⟩
    · obtain rfl : wn = wrap64 (x1 - x2) := Hwn.out
      go_wp2_with fail
      refine Hit.out.mono ?_
      rintro e w6 ⟨rfl, hc6⟩
      have Hc6 := Lib.hid (Hc5.out.trans hc6)
      clear hc6 Hit
      go_wp2_with fail
      go_ret
      exact ⟨congrArg (fun b => Ending.returned (Value.bool b)) (itoa_beq _), Hc6.out⟩
    · obtain rfl : wn = wrap64 (x1 * x2) := Hwn.out
      go_wp2_with fail
      refine Hit.out.mono ?_
      rintro e w6 ⟨rfl, hc6⟩
      have Hc6 := Lib.hid (Hc5.out.trans hc6)
      clear hc6 Hit
      go_wp2_with fail
      go_ret
      exact ⟨congrArg (fun b => Ending.returned (Value.bool b)) (itoa_beq _), Hc6.out⟩
    · have hx2 : ¬ x2 = 0 := Hk.out (.inl rfl)
      obtain rfl : wn = wrap64 (x1.tdiv x2) := Hwn.out
      go_wp2_with fail
      refine Hit.out.mono ?_
      rintro e w6 ⟨rfl, hc6⟩
      have Hc6 := Lib.hid (Hc5.out.trans hc6)
      clear hc6 Hit
      go_wp2_with fail
      go_ret
      exact ⟨congrArg (fun b => Ending.returned (Value.bool b)) (itoa_beq _), Hc6.out⟩
    · have hx2 : ¬ x2 = 0 := Hk.out (.inr rfl)
      obtain rfl : wn = x1.tmod x2 := Hwn.out
      go_wp2_with fail
      refine Hit.out.mono ?_
      rintro e w6 ⟨rfl, hc6⟩
      have Hc6 := Lib.hid (Hc5.out.trans hc6)
      clear hc6 Hit
      go_wp2_with fail
      go_ret
      exact ⟨congrArg (fun b => Ending.returned (Value.bool b)) (itoa_beq _), Hc6.out⟩
    · have e5 : wn = if x1 < x2 then 1 else 0 := Hwn.out
      by_cases hl : x1 < x2
      · rw [if_pos hl] at e5
        subst e5
        go_wp2_with fail
        refine Hit.out.mono ?_
        rintro e w6 ⟨rfl, hc6⟩
        have Hc6 := Lib.hid (Hc5.out.trans hc6)
        clear hc6 Hit
        go_wp2_with fail
        go_ret
        exact ⟨congrArg (fun b => Ending.returned (Value.bool b)) (itoa_beq _), Hc6.out⟩
      · rw [if_neg hl] at e5
        subst e5
        go_wp2_with fail
        refine Hit.out.mono ?_
        rintro e w6 ⟨rfl, hc6⟩
        have Hc6 := Lib.hid (Hc5.out.trans hc6)
        clear hc6 Hit
        go_wp2_with fail
        go_ret
        exact ⟨congrArg (fun b => Ending.returned (Value.bool b)) (itoa_beq _), Hc6.out⟩
    · have e6 : wn = if x1 = x2 then 1 else 0 := Hwn.out
      by_cases hl : x1 = x2
      · rw [if_pos hl] at e6
        subst e6
        go_wp2_with fail
        refine Hit.out.mono ?_
        rintro e w6 ⟨rfl, hc6⟩
        have Hc6 := Lib.hid (Hc5.out.trans hc6)
        clear hc6 Hit
        go_wp2_with fail
        go_ret
        exact ⟨congrArg (fun b => Ending.returned (Value.bool b)) (itoa_beq _), Hc6.out⟩
      · rw [if_neg hl] at e6
        subst e6
        go_wp2_with fail
        refine Hit.out.mono ?_
        rintro e w6 ⟨rfl, hc6⟩
        have Hc6 := Lib.hid (Hc5.out.trans hc6)
        clear hc6 Hit
        go_wp2_with fail
        go_ret
        exact ⟨congrArg (fun b => Ending.returned (Value.bool b)) (itoa_beq _), Hc6.out⟩
/-FRAME-/
set_option maxRecDepth 100000 in
theorem vmReckons_lifted (os : Os) (started : os.Started) (H : Type) (enc : TypeId × Value → H) :
    ReturnsInHanded {} Tryz.checked os 9 .any (fun w args => (Rows.vmReckonsSpec.pre enc Tryz.prog Tryz.f9 [] false w args ∧ laidMetH Tryz.prog Rows.vmReckonsRow.laid w) ∧ sizedMet enc Tryz.prog Tryz.f9 (OpenSpec.ofChange Rows.vmReckonsSpec) false w args)
      (Rows.vmReckonsSpec.post enc Tryz.prog Tryz.f9 false true false false) := by
  refine returns_both (C := Tryz.checked) (X := fun w _ => laidMetH Tryz.prog Rows.vmReckonsRow.laid w) (fun _ _ _ hh h => h.of_heap hh) Tryz.own started (by kernel_rfl) Tryz.func9
    (ChangeSpec.witness_shaped (enc := enc) (C := Tryz.checked) (os := os) (X := fun w _ => laidMetH Tryz.prog Rows.vmReckonsRow.laid w) false (World.laidAll Tryz.prog os Rows.vmReckonsRow.laid) #[.int .i64 0, .int .i64 0, .int .i64 0] 8 (World.laidAll_os _ _ _)
      (World.shaped_of_ZipB (by kernel_rfl) (by kernel_rfl)) (by kernel_rfl) (by kernel_rfl) (by kernel_rfl)
      (by rw [MakeChecks.laidMetH_plain _ _ _ (by kernel_rfl)]; exact laidMet_laidAll _ (by kernel_rfl) (by kernel_rfl))) ?_
  intro W base args ds gs before hval0 hW _ hsz hL hsh _
  have hval : ∀ (j : Nat) t v, Tryz.f9.params[j]? = some t → args[j]? = some v → Value.okWide Tryz.prog W .any base t v := hval0
  have hW' := hW
  obtain ⟨p, q, hA0, hV, rfl, _, _⟩ := hW
  have hA : DataW.TrodAll enc Tryz.prog W 0 (fun _ => true) true Tryz.f9.params.toList args.toList ds p := hA0
  have hsz1 : (DataW.weightsEach Tryz.prog (Tryz.f9.params.toList ++ Rows.vmReckonsSpec.plain.varTypes Tryz.prog) (ds ++ gs)).all (· ≤ reachBytes) = true := hsz
  rw [Tryz.params9] at hA hval hsz1
  obtain ⟨v0, v1, v2, d0, d1, d2, p0, p1, p2, rfl, rfl, rfl, h0, h1, h2⟩ := trodAll_three hA
  obtain ⟨rfl, rfl⟩ := trodVars_none hV
  obtain ⟨x0, rfl, rfl, rfl, wx0⟩ := open_int Tryz.underlying3 (hval 0 3 v0 rfl rfl) h0
  obtain ⟨x1, rfl, rfl, rfl, wx1⟩ := open_int Tryz.underlying3 (hval 1 3 v1 rfl rfl) h1
  obtain ⟨x2, rfl, rfl, rfl, wx2⟩ := open_int Tryz.underlying3 (hval 2 3 v2 rfl rfl) h2
  simp only [List.append_nil] at hW'
  rw [MakeChecks.laidMetH_plain _ _ _ (by kernel_rfl)] at hL
  have hml : Pth.Ml W := wml_of hsh
  obtain ⟨hlb, hwd⟩ := lb8_of hL hsh
  clear hA0 hval0
  refine (vmReckons_all x0 x1 x2 W wx0 wx1 wx2 hml hlb hwd).mono fun e W' ⟨he, hb⟩ => ?_
  subst he
  exact ⟨_, rfl, _, _, _, [], _, [], hW', trodAll_mk1 (shut_bool Tryz.underlying4 _), (trodAll_cons_mk (shut_int Tryz.underlying3 wx0) (trodAll_cons_mk (shut_int Tryz.underlying3 wx1) (trodAll_cons_mk (shut_int Tryz.underlying3 wx2) trodAll_mk0))), rfl, hb.below.frame _, fun h => by cases h⟩
theorem vmReckons_holds : Rows.VmReckonsSaid :=
  OpenClaim.holds_of_wide 9 Tryz.f9 rfl rfl rfl rfl rfl rfl rfl ⟨rfl, rfl, rfl, rfl, rfl⟩ rfl rfl rfl rfl rfl (by kernel_rfl) Tryz.func9 (by kernel_rfl)
    (of_decide_eq_true (by kernel_rfl)) (by unfold Func.isWrapper; first | (rw [if_pos (by decide +kernel)]; kernel_rfl) | (rw [if_neg (by decide +kernel)]; exact ⟨rfl, rfl⟩))
    (fun os started H enc _ => vmReckons_lifted os started H enc)
theorem vmReckons_card : Rows.VmReckonsCardSaid :=
  Claim7.holds_tied_plain_at .later [] [.data, .data, .data, .data, .sentinel, .sentinel, .widerDeep, .pinned] true (true, "ec86cb7f90a952613a297ea1a1848055ebca9cdb2e48697e77ccb43f8b788bff") true vmReckons_holds (fun _ h => by cases h) (by kernel_rfl) (fun _ h => by cases h) vmReckons_row_tie rfl ⟨rfl, rfl⟩ (by kernel_rfl) rfl
    (fun f fn hf hfn => by
      obtain rfl : f = 9 := Option.some.inj ((show Tryz.prog.funcNamed "sapling/saplinglaw10.VmReckons" = some 9 by kernel_rfl).symm.trans hf) |>.symm
      obtain rfl : fn = Tryz.f9 := (Option.some.inj (Tryz.func9.symm.trans hfn)).symm
      exact ⟨by kernel_rfl, fun j t ht => by
        rw [Tryz.params9] at ht
        have hm : t ∈ [3, 3, 3] := by simpa using Array.mem_of_getElem? ht
        have hall : ([3, 3, 3].all fun u => !Tryz.prog.wantsStandIn u) = true := by kernel_rfl
        exact (show Tryz.prog.wantsStandIn t = false by simpa using List.all_eq_true.1 hall t hm)⟩)
    (by kernel_rfl)
#print axioms vmReckons_card
end Go.Proofs.YthehpmffkkogpaaGreatDoor
