/- The contract of comparison. Condition: as the version's Parse asks. -/
import Derived.Test.YtaijhebjjbcdfaaGreatDoorSpCmp
import Derived.Test.YtaijhebjjbcdfaaGreatDoorSpIter
import Derived.Test.YtaijhebjjbcdfaaGreatDoorVerWalkK
import Derived.StillTailTactics

namespace Go.Proofs.YtaijhebjjbcdfaaGreatDoor
set_option linter.unusedVariables false
open Go.ChangeShapes Go.WideShapes Go.ChangeAt Go.RowKit Go.Lib
theorem results_cell2 {fn : Func} {p t : Tmp} {ty : TypeId} (h : fn.results = #[.cell p ty, .tmp t]) (tmps : Array Value) {P : Program} {w : World} {a : Addr} {v : Value} (hp : tmps.getD p undef = .pointer (some a)) (hl : (loadVar ty a).run P w = .ok v w) : (results fn tmps).run P w = .ok (.tuple #[v, tmps.getD t undef]) w := by
  rw [Array.getD_eq_getD_getElem?] at hp
  simp only [results, h]
  simp [Result.andThen, hp, asAddr, hl]
/- the eight signs -/
def signL (op : List UInt8) (a b c : Int) : Option GapL :=
  let n := Ver.numI a b c
  if op = [61] then some (n, n + 1) else if op = [62, 61] then some (n, allG) else if op = [62] then some (n + 1, allG) else if op = [60, 61] then some (0, n + 1) else if op = [60] then some (0, n) else if op = [94] then some (n, Ver.numI a 999 999 + 1) else if op = [126] then some (n, Ver.numI a b 999 + 1) else none
def compL (s : List UInt8) : Option GapL :=
  if s = [42] then some (0, allG) else
  let i := Lib.idxFunc digitR true (tx s)
  if i < 0 then none else
  match Ver.verL (s.drop i.toNat) with
  | none => none
  | some (a, b, c) => signL (s.take i.toNat) a b c
def CompP (r : Option GapL) (w : World) (e : Ending) (w' : World) : Prop := e = .returned (.tuple #[.agg (encG (r.getD (0, 0))).toArray, .bool r.isSome]) ∧ Chg NoB w w'
set_option maxHeartbeats 4000000 in
set_option maxRecDepth 20000 in
theorem comp_star (w : World) : Calls Tryz.prog 45 #[.string ⟨#[42]⟩] w (CompP (compL [42]) w) := by
  have Hret := Lib.hid (show Ending.returned (.tuple #[.agg #[.int .i64 0, .int .i64 1000000000], .bool true]) = .returned (.tuple #[.agg (encG ((compL [42]).getD (0, 0))).toArray, .bool (compL [42]).isSome]) from by
    have e : compL [42] = some (0, allG) := if_pos rfl
    rw [e]; rfl)
  unfold CompP
  generalize compL [42] = r at *
  have hal_ := (Chg.refl NoB w).alloc (.cells #[.int .i64 0, .int .i64 0] 37)
  have hb_ := heap_alloc_new w (.cells #[.int .i64 0, .int .i64 0] 37)
  obtain ⟨b2, hxb_⟩ : ∃ b, b = w.heap.size := ⟨_, rfl⟩
  obtain ⟨w2, hw_⟩ : ∃ w_, w.alloc (.cells #[.int .i64 0, .int .i64 0] 37) = w_ := ⟨_, rfl⟩
  have hz_ : w2.heap.size = b2 + 1 := by rw [← hw_, hxb_]; exact alloc_size _ _
  rw [hw_] at hal_ hb_
  rw [← hxb_] at hb_
  have Hw2 := Lib.hid hw_
  have Hx2 := Lib.hid hxb_
  have Ha2 := Lib.hid hal_
  have Hb2 := Lib.hid hb_
  have Hz2 := Lib.hid hz_
  clear hal_ hb_ hxb_ hw_ hz_
  have fr := row_free Hb2.out
  obtain ⟨r0, r1⟩ := var2 Hb2.out
  go_enter Tryz.func45, Tryz.ntmps45
  go_upto_region 1 with fail
  rw [Hw2.out, ← Hx2.out]
  go_wp2_with fail
  have hR := heap_set (heap_set Hb2.out (i := 0) (.int .i64 0)) (i := 1) (.int .i64 1000000000)
  have hC := (((Chg.refl (fun k => k = b2) w2).setCell (p := ⟨b2, 0, none⟩) (.inl rfl) (.int .i64 0)).setCell (p := ⟨b2, 1, none⟩) (.inl rfl) (.int .i64 1000000000))
  exact bodyPost_ret (results_cell2 (p := 2) (t := 3) (ty := 37) rfl _ rfl (run_loadVar_row _ _ _ _ _ _ _ hR (Tryz.underlying37) rfl rfl)) rfl ⟨Hret.out, Ha2.out.transR hC fun k hk e => by show False; have := Hx2.out; omega⟩
theorem txL (a : List UInt8) : (tx a).toList = a := by rw [Lib.toList_data, tx_list]
set_option maxHeartbeats 4000000 in
set_option maxRecDepth 20000 in
theorem comp_none (s : List UInt8) (w : World) (h1 : s ≠ [42]) (h2 : Lib.idxFunc digitR true (tx s) < 0) : Calls Tryz.prog 45 #[.string (tx s)] w (CompP (compL s) w) := by
  have Hret := Lib.hid (show Ending.returned (.tuple #[.agg #[.int .i64 0, .int .i64 0], .bool false]) = .returned (.tuple #[.agg (encG ((compL s).getD (0, 0))).toArray, .bool (compL s).isSome]) from by
    have e : compL s = none := by unfold compL; rw [if_neg h1, if_pos h2]
    rw [e]; rfl)
  unfold CompP
  generalize compL s = r at *
  have hal_ := (Chg.refl NoB w).alloc (.cells #[.int .i64 0, .int .i64 0] 37)
  have hb_ := heap_alloc_new w (.cells #[.int .i64 0, .int .i64 0] 37)
  obtain ⟨b2, hxb_⟩ : ∃ b, b = w.heap.size := ⟨_, rfl⟩
  obtain ⟨w2, hw_⟩ : ∃ w_, w.alloc (.cells #[.int .i64 0, .int .i64 0] 37) = w_ := ⟨_, rfl⟩
  have hz_ : w2.heap.size = b2 + 1 := by rw [← hw_, hxb_]; exact alloc_size _ _
  rw [hw_] at hal_ hb_
  rw [← hxb_] at hb_
  have Hw2 := Lib.hid hw_
  have Hx2 := Lib.hid hxb_
  have Ha2 := Lib.hid hal_
  have Hb2 := Lib.hid hb_
  have Hz2 := Lib.hid hz_
  clear hal_ hb_ hxb_ hw_ hz_
  have fr := row_free Hb2.out
  obtain ⟨r0, r1⟩ := var2 Hb2.out
  have e0 : ((tx s).toList == [42]) = false := by rw [txL]; simpa using h1
  have HF := Lib.hid (first_any (tx s) w2)
  generalize Lib.idxFunc digitR true (tx s) = z at *
  clear h1
  go_enter Tryz.func45, Tryz.ntmps45
  go_upto_region 1 with fail
  rw [Hw2.out, ← Hx2.out]
  go_wp2_with fail
  refine HF.out.mono ?_
  rintro e w3 ⟨rfl, hc3⟩
  have Hc3 := Lib.hid hc3
  have Hb3 := Lib.hid (row_kept hc3 Hb2.out id)
  clear fr r0 r1 hc3
  have fr := row_free Hb3.out
  obtain ⟨r0, r1⟩ := var2 Hb3.out
  go_wp2_with fail
  have hR := heap_set (heap_set Hb3.out (i := 0) (.int .i64 0)) (i := 1) (.int .i64 0)
  have hC := (((Chg.refl (fun k => k = b2) w3).setCell (p := ⟨b2, 0, none⟩) (.inl rfl) (.int .i64 0)).setCell (p := ⟨b2, 1, none⟩) (.inl rfl) (.int .i64 0))
  exact bodyPost_ret (results_cell2 (p := 2) (t := 3) (ty := 37) rfl _ rfl (run_loadVar_row _ _ _ _ _ _ _ hR (Tryz.underlying37) rfl rfl)) rfl ⟨Hret.out, (Ha2.out.trans Hc3.out).transR hC fun k hk e => by show False; have := Hx2.out; omega⟩
set_option maxHeartbeats 4000000 in
set_option maxRecDepth 20000 in
theorem comp_bad (s : List UInt8) (i : Nat) (w : World) (hl : s.length ≤ 65536) (h1 : s ≠ [42]) (h2 : Lib.idxFunc digitR true (tx s) = i) (hi : i ≤ s.length) (hv : Ver.verL (s.drop i) = none)
    (hP : ∀ W, Chg NoB w W → Calls Tryz.prog 64 #[.string (tx (s.drop i))] W (Ver.ParseO (Ver.verL (s.drop i)) W)) : Calls Tryz.prog 45 #[.string (tx s)] w (CompP (compL s) w) := by
  have Hret := Lib.hid (show Ending.returned (.tuple #[.agg #[.int .i64 0, .int .i64 0], .bool false]) = .returned (.tuple #[.agg (encG ((compL s).getD (0, 0))).toArray, .bool (compL s).isSome]) from by
    have e : compL s = none := by
      unfold compL
      rw [if_neg h1]
      simp only [h2]
      rw [if_neg (by omega), Int.toNat_natCast, hv]
    rw [e]; rfl)
  unfold CompP
  generalize compL s = r at *
  rw [hv] at hP
  have hcut : (tx s).extract i s.length = tx (s.drop i) := by rw [cut_tx s i s.length hi (Nat.le_refl _), List.take_length]
  rw [← hcut] at hP
  have HP := Lib.hid hP
  have hal_ := (Chg.refl NoB w).alloc (.cells #[.int .i64 0, .int .i64 0] 37)
  have hb_ := heap_alloc_new w (.cells #[.int .i64 0, .int .i64 0] 37)
  obtain ⟨b2, hxb_⟩ : ∃ b, b = w.heap.size := ⟨_, rfl⟩
  obtain ⟨w2, hw_⟩ : ∃ w_, w.alloc (.cells #[.int .i64 0, .int .i64 0] 37) = w_ := ⟨_, rfl⟩
  have hz_ : w2.heap.size = b2 + 1 := by rw [← hw_, hxb_]; exact alloc_size _ _
  rw [hw_] at hal_ hb_
  rw [← hxb_] at hb_
  have Hw2 := Lib.hid hw_
  have Hx2 := Lib.hid hxb_
  have Ha2 := Lib.hid hal_
  have Hb2 := Lib.hid hb_
  have Hz2 := Lib.hid hz_
  clear hal_ hb_ hxb_ hw_ hz_
  have fr := row_free Hb2.out
  obtain ⟨r0, r1⟩ := var2 Hb2.out
  have e0 : ((tx s).toList == [42]) = false := by rw [txL]; simpa using h1
  have HF := Lib.hid (first_any (tx s) w2)
  rw [h2] at HF
  have hsz : (tx s).size = s.length := tx_size s
  clear h1 h2 hv hP hcut
  go_enter Tryz.func45, Tryz.ntmps45
  go_upto_region 1 with fail
  rw [Hw2.out, ← Hx2.out]
  go_wp2_with fail
  refine HF.out.mono ?_
  rintro e w3 ⟨rfl, hc3⟩
  have Hc3 := Lib.hid (Ha2.out.trans hc3)
  have Hb3 := Lib.hid (row_kept hc3 Hb2.out id)
  clear fr r0 r1 hc3
  go_wp2_with fail
  refine (HP.out w3 Hc3.out).mono ?_
  rintro e w4 ⟨rfl, hb4⟩
  have Hc4 := Lib.hid (Hc3.out.trans (chg_of_below hb4))
  have Hb4 := Lib.hid (row_kept (chg_of_below hb4) Hb3.out id)
  clear hb4
  have hal_ := (Chg.refl NoB w4).alloc (.cells #[.int .i64 0, .int .i64 0, .int .i64 0] 31)
  have hb_ := heap_alloc_new w4 (.cells #[.int .i64 0, .int .i64 0, .int .i64 0] 31)
  obtain ⟨b5, hxb_⟩ : ∃ b, b = w4.heap.size := ⟨_, rfl⟩
  obtain ⟨w5, hw_⟩ : ∃ w_, w4.alloc (.cells #[.int .i64 0, .int .i64 0, .int .i64 0] 31) = w_ := ⟨_, rfl⟩
  have hz_ : w5.heap.size = b5 + 1 := by rw [← hw_, hxb_]; exact alloc_size _ _
  rw [hw_] at hal_ hb_
  rw [← hxb_] at hb_
  have Hw5 := Lib.hid hw_
  have Hx5 := Lib.hid hxb_
  have Ha5 := Lib.hid hal_
  have Hb5 := Lib.hid hb_
  have Hz5 := Lib.hid hz_
  clear hal_ hb_ hxb_ hw_ hz_
  have Hc5 := Lib.hid (Hc4.out.trans Ha5.out)
  have Hb6 := Lib.hid (row_kept Ha5.out Hb4.out id)
  go_upto_region 7 with fail
  rw [Hw5.out, ← Hx5.out]
  have fr := row_free Hb6.out
  obtain ⟨r0, r1⟩ := var2 Hb6.out
  go_wp2_with fail
  have hR := heap_set (heap_set Hb6.out (i := 0) (.int .i64 0)) (i := 1) (.int .i64 0)
  have hC := (((Chg.refl (fun k => k = b2) w5).setCell (p := ⟨b2, 0, none⟩) (.inl rfl) (.int .i64 0)).setCell (p := ⟨b2, 1, none⟩) (.inl rfl) (.int .i64 0))
  exact bodyPost_ret (results_cell2 (p := 2) (t := 3) (ty := 37) rfl _ rfl (run_loadVar_row _ _ _ _ _ _ _ hR (Tryz.underlying37) rfl rfl)) rfl ⟨Hret.out, Hc5.out.transR hC fun k hk e => by show False; have := Hx2.out; omega⟩
set_option maxHeartbeats 4000000 in
set_option maxRecDepth 20000 in
theorem comp_some (s : List UInt8) (i : Nat) (a b c : Nat) (w : World) (hl : s.length ≤ 65536) (h1 : s ≠ [42]) (h2 : Lib.idxFunc digitR true (tx s) = i) (hi : i ≤ s.length) (hv : Ver.verL (s.drop i) = some (a, b, c))
    (hP : ∀ W, Chg NoB w W → Calls Tryz.prog 64 #[.string (tx (s.drop i))] W (Ver.ParseO (Ver.verL (s.drop i)) W)) : Calls Tryz.prog 45 #[.string (tx s)] w (CompP (compL s) w) := by
  have e : compL s = signL (s.take i) a b c := by
    unfold compL
    rw [if_neg h1]
    simp only [h2]
    rw [if_neg (by omega), Int.toNat_natCast, hv]
  rw [e]
  have hcut0 : (tx s).extract 0 i = tx (s.take i) := by rw [cut_tx s 0 i (by omega) hi]; rfl
  obtain ⟨op, hop⟩ : ∃ op, op = s.take i := ⟨_, rfl⟩
  rw [← hop] at hcut0 ⊢
  have Hcut0 := Lib.hid hcut0
  unfold CompP
  obtain ⟨r, hr⟩ : ∃ r, r = signL op a b c := ⟨_, rfl⟩
  rw [← hr]
  unfold signL at hr
  obtain ⟨nb1, nb2⟩ := num_bound a b c
  have HN := Lib.hid (fun W => Ver.number_any a b c W)
  generalize Ver.numI a b c = n at *
  rw [hv] at hP
  have hcut : (tx s).extract i s.length = tx (s.drop i) := by rw [cut_tx s i s.length hi (Nat.le_refl _), List.take_length]
  rw [← hcut] at hP
  have HP := Lib.hid hP
  have Hr0 := Lib.hid hr
  have hal_ := (Chg.refl NoB w).alloc (.cells #[.int .i64 0, .int .i64 0] 37)
  have hb_ := heap_alloc_new w (.cells #[.int .i64 0, .int .i64 0] 37)
  obtain ⟨b2, hxb_⟩ : ∃ b, b = w.heap.size := ⟨_, rfl⟩
  obtain ⟨w2, hw_⟩ : ∃ w_, w.alloc (.cells #[.int .i64 0, .int .i64 0] 37) = w_ := ⟨_, rfl⟩
  have hz_ : w2.heap.size = b2 + 1 := by rw [← hw_, hxb_]; exact alloc_size _ _
  rw [hw_] at hal_ hb_
  rw [← hxb_] at hb_
  have Hw2 := Lib.hid hw_
  have Hx2 := Lib.hid hxb_
  have Ha2 := Lib.hid hal_
  have Hb2 := Lib.hid hb_
  have Hz2 := Lib.hid hz_
  clear hal_ hb_ hxb_ hw_ hz_
  have fr := row_free Hb2.out
  obtain ⟨r0, r1⟩ := var2 Hb2.out
  have e0 : ((tx s).toList == [42]) = false := by rw [txL]; simpa using h1
  have HF := Lib.hid (first_any (tx s) w2)
  rw [h2] at HF
  have hsz : (tx s).size = s.length := tx_size s
  clear h1 h2 hv hP hcut hcut0 hop hr e
  go_enter Tryz.func45, Tryz.ntmps45
  go_upto_region 1 with fail
  rw [Hw2.out, ← Hx2.out]
  go_wp2_with fail
  refine HF.out.mono ?_
  rintro e w3 ⟨rfl, hc3⟩
  have Hc3 := Lib.hid (Ha2.out.trans hc3)
  have Hb3 := Lib.hid (row_kept hc3 Hb2.out id)
  clear fr r0 r1 hc3
  go_wp2_with fail
  refine (HP.out w3 Hc3.out).mono ?_
  rintro e w4 ⟨rfl, hb4⟩
  have Hc4 := Lib.hid (Hc3.out.trans (chg_of_below hb4))
  have Hb4 := Lib.hid (row_kept (chg_of_below hb4) Hb3.out id)
  clear hb4
  have hal_ := (Chg.refl NoB w4).alloc (.cells #[.int .i64 a, .int .i64 b, .int .i64 c] 31)
  have hb_ := heap_alloc_new w4 (.cells #[.int .i64 a, .int .i64 b, .int .i64 c] 31)
  obtain ⟨b5, hxb_⟩ : ∃ b, b = w4.heap.size := ⟨_, rfl⟩
  obtain ⟨w5, hw_⟩ : ∃ w_, w4.alloc (.cells #[.int .i64 a, .int .i64 b, .int .i64 c] 31) = w_ := ⟨_, rfl⟩
  have hz_ : w5.heap.size = b5 + 1 := by rw [← hw_, hxb_]; exact alloc_size _ _
  rw [hw_] at hal_ hb_
  rw [← hxb_] at hb_
  have Hw5 := Lib.hid hw_
  have Hx5 := Lib.hid hxb_
  have Ha5 := Lib.hid hal_
  have Hb5 := Lib.hid hb_
  have Hz5 := Lib.hid hz_
  clear hal_ hb_ hxb_ hw_ hz_
  have Hc5 := Lib.hid (Hc4.out.trans Ha5.out)
  have Hb6 := Lib.hid (row_kept Ha5.out Hb4.out id)
  obtain ⟨q0, q1, q2⟩ := var3 Hb5.out
  go_upto_region 7 with fail
  rw [Hw5.out, ← Hx5.out]
  go_wp2_with fail
  refine (HN.out w5).mono ?_
  rintro e w6 ⟨rfl, hb6⟩
  have Hc6 := Lib.hid (Hc5.out.trans (chg_of_below hb6))
  have Hb8 := Lib.hid (row_kept (chg_of_below hb6) Hb6.out id)
  have Hv8 := Lib.hid (row_kept (chg_of_below hb6) Hb5.out id)
  clear hb6 q0 q1 q2
  have fr := row_free Hb8.out
  obtain ⟨r0, r1⟩ := var2 Hb8.out
  obtain ⟨q0, q1, q2⟩ := var3 Hv8.out
  go_upto_region 11 with fail
  rw [Hcut0.out]
  by_cases o1 : op = [61]
  · subst o1
    have Hr := Lib.hid (show r = some (n, n + 1) by rw [Hr0.out]; rfl)
    rw [show tx [61] = ⟨#[61]⟩ from rfl]
    go_wp2_with fail
    have hR := heap_set (heap_set Hb8.out (i := 0) (.int .i64 n)) (i := 1) (.int .i64 (n + 1))
    have hC := (((Chg.refl (fun k => k = b2) w6).setCell (p := ⟨b2, 0, none⟩) (.inl rfl) (.int .i64 n)).setCell (p := ⟨b2, 1, none⟩) (.inl rfl) (.int .i64 (n + 1)))
    exact bodyPost_ret (results_cell2 (p := 2) (t := 3) (ty := 37) rfl _ rfl (run_loadVar_row _ _ _ _ _ _ _ hR (Tryz.underlying37) rfl rfl)) rfl ⟨by rw [Hr.out]; rfl, Hc6.out.transR hC fun k hk e => by show False; have := Hx2.out; omega⟩
  by_cases o2 : op = [62, 61]
  · subst o2
    have Hr := Lib.hid (show r = some (n, allG) by rw [Hr0.out]; rfl)
    rw [show tx [62, 61] = ⟨#[62, 61]⟩ from rfl]
    go_wp2_with fail
    have hR := heap_set (heap_set Hb8.out (i := 0) (.int .i64 n)) (i := 1) (.int .i64 1000000000)
    have hC := (((Chg.refl (fun k => k = b2) w6).setCell (p := ⟨b2, 0, none⟩) (.inl rfl) (.int .i64 n)).setCell (p := ⟨b2, 1, none⟩) (.inl rfl) (.int .i64 1000000000))
    exact bodyPost_ret (results_cell2 (p := 2) (t := 3) (ty := 37) rfl _ rfl (run_loadVar_row _ _ _ _ _ _ _ hR (Tryz.underlying37) rfl rfl)) rfl ⟨by rw [Hr.out]; rfl, Hc6.out.transR hC fun k hk e => by show False; have := Hx2.out; omega⟩
  by_cases o3 : op = [62]
  · subst o3
    have Hr := Lib.hid (show r = some (n + 1, allG) by rw [Hr0.out]; rfl)
    rw [show tx [62] = ⟨#[62]⟩ from rfl]
    go_wp2_with fail
    have hR := heap_set (heap_set Hb8.out (i := 0) (.int .i64 (n + 1))) (i := 1) (.int .i64 1000000000)
    have hC := (((Chg.refl (fun k => k = b2) w6).setCell (p := ⟨b2, 0, none⟩) (.inl rfl) (.int .i64 (n + 1))).setCell (p := ⟨b2, 1, none⟩) (.inl rfl) (.int .i64 1000000000))
    exact bodyPost_ret (results_cell2 (p := 2) (t := 3) (ty := 37) rfl _ rfl (run_loadVar_row _ _ _ _ _ _ _ hR (Tryz.underlying37) rfl rfl)) rfl ⟨by rw [Hr.out]; rfl, Hc6.out.transR hC fun k hk e => by show False; have := Hx2.out; omega⟩
  by_cases o4 : op = [60, 61]
  · subst o4
    have Hr := Lib.hid (show r = some (0, n + 1) by rw [Hr0.out]; rfl)
    rw [show tx [60, 61] = ⟨#[60, 61]⟩ from rfl]
    go_wp2_with fail
    have hR := heap_set (heap_set Hb8.out (i := 0) (.int .i64 0)) (i := 1) (.int .i64 (n + 1))
    have hC := (((Chg.refl (fun k => k = b2) w6).setCell (p := ⟨b2, 0, none⟩) (.inl rfl) (.int .i64 0)).setCell (p := ⟨b2, 1, none⟩) (.inl rfl) (.int .i64 (n + 1)))
    exact bodyPost_ret (results_cell2 (p := 2) (t := 3) (ty := 37) rfl _ rfl (run_loadVar_row _ _ _ _ _ _ _ hR (Tryz.underlying37) rfl rfl)) rfl ⟨by rw [Hr.out]; rfl, Hc6.out.transR hC fun k hk e => by show False; have := Hx2.out; omega⟩
  by_cases o5 : op = [60]
  · subst o5
    have Hr := Lib.hid (show r = some (0, n) by rw [Hr0.out]; rfl)
    rw [show tx [60] = ⟨#[60]⟩ from rfl]
    go_wp2_with fail
    have hR := heap_set (heap_set Hb8.out (i := 0) (.int .i64 0)) (i := 1) (.int .i64 n)
    have hC := (((Chg.refl (fun k => k = b2) w6).setCell (p := ⟨b2, 0, none⟩) (.inl rfl) (.int .i64 0)).setCell (p := ⟨b2, 1, none⟩) (.inl rfl) (.int .i64 n))
    exact bodyPost_ret (results_cell2 (p := 2) (t := 3) (ty := 37) rfl _ rfl (run_loadVar_row _ _ _ _ _ _ _ hR (Tryz.underlying37) rfl rfl)) rfl ⟨by rw [Hr.out]; rfl, Hc6.out.transR hC fun k hk e => by show False; have := Hx2.out; omega⟩
  by_cases o6 : op = [94]
  · subst o6
    have Hr := Lib.hid (show r = some (n, Ver.numI a 999 999 + 1) by rw [Hr0.out]; rfl)
    rw [show tx [94] = ⟨#[94]⟩ from rfl]
    go_wp2_with fail
    refine (behind_any a 999 999 w6).mono ?_
    rintro e w7 ⟨rfl, hc7⟩
    obtain ⟨mb1, mb2⟩ := num_bound a 999 999
    generalize Ver.numI a 999 999 = nn at *
    have Hc7 := Lib.hid (Hc6.out.trans hc7)
    have Hb9 := Lib.hid (row_kept hc7 Hb8.out id)
    clear hc7 fr r0 r1 q0 q1 q2
    have fr := row_free Hb9.out
    obtain ⟨r0, r1⟩ := var2 Hb9.out
    go_wp2_with fail
    have hR := heap_set (heap_set Hb9.out (i := 0) (.int .i64 n)) (i := 1) (.int .i64 (nn + 1))
    have hC := (((Chg.refl (fun k => k = b2) w7).setCell (p := ⟨b2, 0, none⟩) (.inl rfl) (.int .i64 n)).setCell (p := ⟨b2, 1, none⟩) (.inl rfl) (.int .i64 (nn + 1)))
    exact bodyPost_ret (results_cell2 (p := 2) (t := 3) (ty := 37) rfl _ rfl (run_loadVar_row _ _ _ _ _ _ _ hR (Tryz.underlying37) rfl rfl)) rfl ⟨by rw [Hr.out]; rfl, Hc7.out.transR hC fun k hk e => by show False; have := Hx2.out; omega⟩
  by_cases o7 : op = [126]
  · subst o7
    have Hr := Lib.hid (show r = some (n, Ver.numI a b 999 + 1) by rw [Hr0.out]; rfl)
    rw [show tx [126] = ⟨#[126]⟩ from rfl]
    go_wp2_with fail
    refine (behind_any a b 999 w6).mono ?_
    rintro e w7 ⟨rfl, hc7⟩
    obtain ⟨mb1, mb2⟩ := num_bound a b 999
    generalize Ver.numI a b 999 = nn at *
    have Hc7 := Lib.hid (Hc6.out.trans hc7)
    have Hb9 := Lib.hid (row_kept hc7 Hb8.out id)
    clear hc7 fr r0 r1 q0 q1 q2
    have fr := row_free Hb9.out
    obtain ⟨r0, r1⟩ := var2 Hb9.out
    go_wp2_with fail
    have hR := heap_set (heap_set Hb9.out (i := 0) (.int .i64 n)) (i := 1) (.int .i64 (nn + 1))
    have hC := (((Chg.refl (fun k => k = b2) w7).setCell (p := ⟨b2, 0, none⟩) (.inl rfl) (.int .i64 n)).setCell (p := ⟨b2, 1, none⟩) (.inl rfl) (.int .i64 (nn + 1)))
    exact bodyPost_ret (results_cell2 (p := 2) (t := 3) (ty := 37) rfl _ rfl (run_loadVar_row _ _ _ _ _ _ _ hR (Tryz.underlying37) rfl rfl)) rfl ⟨by rw [Hr.out]; rfl, Hc7.out.transR hC fun k hk e => by show False; have := Hx2.out; omega⟩
  have Hr := Lib.hid (show r = none by rw [Hr0.out]; simp only [if_neg o1, if_neg o2, if_neg o3, if_neg o4, if_neg o5, if_neg o6, if_neg o7])
  have t1 : ((tx op).toList == [61]) = false := by rw [txL]; simpa using o1
  have t2 : ((tx op).toList == [62, 61]) = false := by rw [txL]; simpa using o2
  have t3 : ((tx op).toList == [62]) = false := by rw [txL]; simpa using o3
  have t4 : ((tx op).toList == [60, 61]) = false := by rw [txL]; simpa using o4
  have t5 : ((tx op).toList == [60]) = false := by rw [txL]; simpa using o5
  have t6 : ((tx op).toList == [94]) = false := by rw [txL]; simpa using o6
  have t7 : ((tx op).toList == [126]) = false := by rw [txL]; simpa using o7
  clear o1 o2 o3 o4 o5 o6 o7
  go_wp2_with fail
  have hR := heap_set (heap_set Hb8.out (i := 0) (.int .i64 0)) (i := 1) (.int .i64 0)
  have hC := (((Chg.refl (fun k => k = b2) w6).setCell (p := ⟨b2, 0, none⟩) (.inl rfl) (.int .i64 0)).setCell (p := ⟨b2, 1, none⟩) (.inl rfl) (.int .i64 0))
  exact bodyPost_ret (results_cell2 (p := 2) (t := 3) (ty := 37) rfl _ rfl (run_loadVar_row _ _ _ _ _ _ _ hR (Tryz.underlying37) rfl rfl)) rfl ⟨by rw [Hr.out]; rfl, Hc6.out.transR hC fun k hk e => by show False; have := Hx2.out; omega⟩
theorem comp_any (s : List UInt8) (w : World) (hl : s.length ≤ 65536) (hP : ∀ (W : World) (t : List UInt8), Chg NoB w W → t.length ≤ 65536 → Calls Tryz.prog 64 #[.string (tx t)] W (Ver.ParseO (Ver.verL t) W)) : Calls Tryz.prog 45 #[.string (tx s)] w (CompP (compL s) w) := by
  by_cases h1 : s = [42]
  · subst h1
    exact comp_star w
  · rcases Lib.idxFuncFrom_range digitR true (tx s) (tx s).size 0 with h | ⟨h, h'⟩
    · exact comp_none s w h1 (by unfold Lib.idxFunc; omega)
    · rw [tx_size] at h'
      obtain ⟨i, hi⟩ : ∃ i : Nat, Lib.idxFunc digitR true (tx s) = i := ⟨(Lib.idxFunc digitR true (tx s)).toNat, by unfold Lib.idxFunc; omega⟩
      have hil : i ≤ s.length := by unfold Lib.idxFunc at hi; rw [tx_size] at *; omega
      have hP2 := fun W hc => hP W (s.drop i) hc (by rw [List.length_drop]; omega)
      cases hv : Ver.verL (s.drop i) with
      | none => exact comp_bad s i w hl h1 hi hil hv hP2
      | some x =>
        obtain ⟨a, b, c⟩ := x
        exact comp_some s i a b c w hl h1 hi hil hv hP2
end Go.Proofs.YtaijhebjjbcdfaaGreatDoor
