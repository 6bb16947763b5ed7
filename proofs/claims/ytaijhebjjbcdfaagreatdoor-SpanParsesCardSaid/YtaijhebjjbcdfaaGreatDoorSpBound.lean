/- The document's side: bound, the gap of a comparison. No condition. -/
import Derived.Test.YtaijhebjjbcdfaaGreatDoorSpFirst
import Derived.Test.YtaijhebjjbcdfaaGreatDoorSpTerm
import Derived.Test.YtaijhebjjbcdfaaGreatDoorVerWalkL

namespace Go.Proofs.YtaijhebjjbcdfaaGreatDoor
set_option linter.unusedVariables false
open Go.ChangeShapes Go.WideShapes Go.ChangeAt Go.RowKit Go.Lib
def BoundP (r : Option GapL) (w : World) (e : Ending) (w' : World) : Prop := e = .returned (.tuple #[.agg (encG (r.getD (0, 0))).toArray, .bool r.isSome]) ∧ Chg NoB w w'
/- where the first digit stands -/
theorem first_is (s : List UInt8) (i : Nat) (hi : i ≤ s.length) (hno : ∀ j (hj : j < s.length), j < i → digB s[j] = false) (hd : i = s.length ∨ ∃ h : i < s.length, digB s[i] = true) : (i < s.length → Lib.idxFunc digitR true (tx s) = i) ∧ (i = s.length → Lib.idxFunc digitR true (tx s) = -1) := by
  rcases first_at s with ⟨k, h, h1, h2, h3⟩ | ⟨h1, h2⟩
  · refine ⟨fun hlt => ?_, fun e => ?_⟩
    · rw [h1]
      rcases Nat.lt_trichotomy k i with c | c | c
      · rw [hno k h c] at h2; cases h2
      · rw [c]
      · rcases hd with e | ⟨hh, hd⟩
        · omega
        · rw [h3 i hh c] at hd; cases hd
    · rw [hno k h (by omega)] at h2; cases h2
  · refine ⟨fun hlt => ?_, fun e => h1⟩
    rcases hd with e | ⟨hh, hd⟩
    · omega
    · rw [h2 i hh] at hd; cases hd
/- a version of no bytes is none -/
theorem ver_nil : Ver.verL [] = none := by
  cases h : Ver.verL [] with
  | none => rfl
  | some r =>
    obtain ⟨a, b, c⟩ := r
    have h2 := (Ver.verL_text h).1
    unfold Ver.dotL at h2
    have := congrArg List.length h2
    simp at this
theorem comp_at (s : List UInt8) (i : Nat) (h1 : s ≠ [42]) (hi : i ≤ s.length) (hno : ∀ j (hj : j < s.length), j < i → digB s[j] = false) (hd : i = s.length ∨ ∃ h : i < s.length, digB s[i] = true) : compL s = match Ver.verL (s.drop i) with | none => none | some (a, b, c) => signL (s.take i) a b c := by
  obtain ⟨a1, a2⟩ := first_is s i hi hno hd
  unfold compL
  rw [if_neg h1]
  simp only
  by_cases hlt : i < s.length
  · rw [a1 hlt, if_neg (by omega), Int.toNat_natCast]
    cases Ver.verL (s.drop i) <;> rfl
  · have he : i = s.length := by omega
    rw [a2 he, if_pos (by decide), he, List.drop_length, ver_nil]
set_option maxHeartbeats 4000000 in
set_option maxRecDepth 20000 in
theorem bound_star (w : World) : Calls Tryz.prog 30 #[.string (tx [42])] w (BoundP (compL [42]) w) := by
  rw [show compL [42] = some (0, allG) from if_pos rfl, show tx [42] = ⟨#[42]⟩ from rfl]
  have hal_ := (Chg.refl NoB w).alloc (.cells #[.int .i64 0, .int .i64 0] 37)
  have hb_ := heap_alloc_new w (.cells #[.int .i64 0, .int .i64 0] 37)
  obtain ⟨b2, hxb_⟩ : ∃ b, b = w.heap.size := ⟨_, rfl⟩
  obtain ⟨w2, hw_⟩ : ∃ w_, w.alloc (.cells #[.int .i64 0, .int .i64 0] 37) = w_ := ⟨_, rfl⟩
  have hz_ : w2.heap.size = b2 + 1 := by rw [← hw_, hxb_]; exact alloc_size _ _
  rw [hw_] at hal_ hb_
  rw [← hxb_] at hb_
  have Hw2 := Lib.hid hw_
  have Hx2 := Lib.hid hxb_
  have Ha2 := Lib.hid hal_
  have Hb2 := Lib.hid hb_
  have Hz2 := Lib.hid hz_
  clear hal_ hb_ hxb_ hw_ hz_
  have fr := row_free Hb2.out
  obtain ⟨r0, r1⟩ := var2 Hb2.out
  go_enter Tryz.func30, Tryz.ntmps30
  go_upto_region 1 with fail
  rw [Hw2.out, ← Hx2.out]
  go_wp2_with fail
  have hR := heap_set (heap_set Hb2.out (i := 0) (.int .i64 0)) (i := 1) (.int .i64 1000000000)
  have hC := ((Ha2.out).setCell (p := ⟨b2, 0, none⟩) (.inr (by show _ ≤ b2; have := Hx2.out; omega)) (.int .i64 0)).setCell (p := ⟨b2, 1, none⟩) (.inr (by show _ ≤ b2; have := Hx2.out; omega)) (.int .i64 1000000000)
  exact bodyPost_ret (results_cell2 (p := 2) (t := 3) (ty := 37) rfl _ rfl (run_loadVar_row _ _ _ _ _ _ _ hR (Tryz.underlying37) rfl rfl)) rfl ⟨rfl, hC⟩
set_option maxHeartbeats 16000000 in
set_option maxRecDepth 20000 in
theorem bound_any (s : List UInt8) (w : World) (hl : s.length ≤ 65536) : Calls Tryz.prog 30 #[.string (tx s)] w (BoundP (compL s) w) := by
  have hss : (tx s).size = s.length := tx_size s
  have HP := Lib.hid (fun (t : List UInt8) (ht : t.length ≤ 65536) (W : World) => (show Calls Tryz.prog 49 #[.string (tx t)] W (Ver.ParseO (Ver.verL t) W) from by
    have h := Ver.parseR_any (tx t) W (by rw [tx_size]; exact ht)
    rwa [tx_list] at h))
  have hal_ := (Chg.refl NoB w).alloc (.cells #[.int .i64 0, .int .i64 0] 37)
  have hb_ := heap_alloc_new w (.cells #[.int .i64 0, .int .i64 0] 37)
  obtain ⟨b2, hxb_⟩ : ∃ b, b = w.heap.size := ⟨_, rfl⟩
  obtain ⟨w2, hw_⟩ : ∃ w_, w.alloc (.cells #[.int .i64 0, .int .i64 0] 37) = w_ := ⟨_, rfl⟩
  have hz_ : w2.heap.size = b2 + 1 := by rw [← hw_, hxb_]; exact alloc_size _ _
  rw [hw_] at hal_ hb_
  rw [← hxb_] at hb_
  have Hw2 := Lib.hid hw_
  have Hx2 := Lib.hid hxb_
  have Ha2 := Lib.hid hal_
  have Hb2 := Lib.hid hb_
  have Hz2 := Lib.hid hz_
  clear hal_ hb_ hxb_ hw_ hz_
  by_cases h1 : s = [42]
  · subst h1
    exact bound_star w
  have e0 : ((tx s).toList == [42]) = false := by rw [txL]; simpa using h1
  have H1 := Lib.hid h1
  have Hl := Lib.hid hl
  clear h1
  go_enter Tryz.func30, Tryz.ntmps30
  go_upto_region 1 with fail
  rw [Hw2.out, ← Hx2.out]
  go_wp2_with fail
  go_loopw [4] (fun i wr => ∃ (k : Nat), k ≤ s.length ∧ i = .int .i64 k ∧ (∀ j (hj : j < s.length), j < k → digB s[j] = false) ∧ wr = w2) (fun i _ => s.length - (intOf i).toNat)
  case atStart => exact ⟨0, Nat.zero_le _, rfl, fun j _ hj => absurd hj (Nat.not_lt_zero _), rfl⟩
  case round =>
    obtain ⟨k, hk, rfl, hno, hwr⟩ := hrel
    subst hwr
    have Hno := Lib.hid hno
    clear hno
    by_cases hlt : k < s.length
    · have hsz : k < (tx s).size := by rw [hss]; exact hlt
      have hget : (tx s)[k]'hsz = s[k]'hlt := rfl
      have hp2 : (k : Int) < (s.length : Int) := by omega
      by_cases hb : (s[k]'hlt).toNat < 48
      · have fb : decide ((((tx s)[k]'hsz).toNat : Int) < 48) = true := by rw [hget]; exact decide_eq_true (by omega)
        have Hno2 := Lib.hid (show ∀ j (hj : j < s.length), j < k + 1 → digB s[j] = false from fun j hj h => by
          by_cases e : j = k
          · subst e; exact decide_eq_false (by omega)
          · exact Hno.out j hj (by omega))
        clear hb hget
        go_wp2_with fail
        go_roundw
        case rel => exact ⟨k + 1, by omega, by go_num, Hno2.out, trivial⟩
        case measure => simp [intOf]; omega
      · have fb : decide ((((tx s)[k]'hsz).toNat : Int) < 48) = false := by rw [hget]; exact decide_eq_false (by omega)
        by_cases hc : 57 < (s[k]'hlt).toNat
        · have fc : decide ((57 : Int) < (((tx s)[k]'hsz).toNat : Int)) = true := by rw [hget]; exact decide_eq_true (by omega)
          have Hno2 := Lib.hid (show ∀ j (hj : j < s.length), j < k + 1 → digB s[j] = false from fun j hj h => by
            by_cases e : j = k
            · subst e; exact decide_eq_false (by omega)
            · exact Hno.out j hj (by omega))
          clear hb hc hget
          go_wp2_with fail
          go_roundw
          case rel => exact ⟨k + 1, by omega, by go_num, Hno2.out, trivial⟩
          case measure => simp [intOf]; omega
        · have fc : decide ((57 : Int) < (((tx s)[k]'hsz).toNat : Int)) = false := by rw [hget]; exact decide_eq_false (by omega)
          have Hd := Lib.hid (show k = s.length ∨ ∃ h : k < s.length, digB s[k] = true from .inr ⟨hlt, decide_eq_true (by omega)⟩)
          clear hb hc hget
          have hcut : (tx s).extract k s.length = tx (s.drop k) := by rw [cut_tx s k s.length hk (Nat.le_refl _), List.take_length]
          have hcut0 : (tx s).extract 0 k = tx (s.take k) := by rw [cut_tx s 0 k (by omega) hk]; rfl
          have Hcut0 := Lib.hid hcut0
          have Hcomp := Lib.hid (comp_at s k H1.out hk Hno.out Hd.out)
          have HPk := Lib.hid (HP.out (s.drop k) (by rw [List.length_drop]; have := Hl.out; omega) wr)
          rw [← hcut] at HPk
          cases hv : Ver.verL (s.drop k) with
          | none =>
            rw [hv] at HPk Hcomp
            clear hcut hcut0 hv
            go_wp2_with fail
            refine HPk.out.mono ?_
            rintro e w4 ⟨rfl, hb4⟩
            have Hc4 := Lib.hid (Ha2.out.trans (chg_of_below hb4))
            have Hb4 := Lib.hid (row_kept (chg_of_below hb4) Hb2.out id)
            clear hb4 HPk
            have hal_ := (Chg.refl NoB w4).alloc (.cells #[.int .i64 0, .int .i64 0, .int .i64 0] 31)
            have hb_ := heap_alloc_new w4 (.cells #[.int .i64 0, .int .i64 0, .int .i64 0] 31)
            obtain ⟨b5, hxb_⟩ : ∃ b, b = w4.heap.size := ⟨_, rfl⟩
            obtain ⟨w5, hw_⟩ : ∃ w_, w4.alloc (.cells #[.int .i64 0, .int .i64 0, .int .i64 0] 31) = w_ := ⟨_, rfl⟩
            have hz_ : w5.heap.size = b5 + 1 := by rw [← hw_, hxb_]; exact alloc_size _ _
            rw [hw_] at hal_ hb_
            rw [← hxb_] at hb_
            have Hw5 := Lib.hid hw_
            have Hx5 := Lib.hid hxb_
            have Ha5 := Lib.hid hal_
            have Hb5 := Lib.hid hb_
            have Hz5 := Lib.hid hz_
            clear hal_ hb_ hxb_ hw_ hz_
            have Hb6 := Lib.hid (row_kept Ha5.out Hb4.out id)
            have fr := row_free Hb6.out
            obtain ⟨r0, r1⟩ := var2 Hb6.out
            go_upto_region 7 with fail
            rw [Hw5.out, ← Hx5.out]
            go_wp2_with fail
            have hR := heap_set (heap_set Hb6.out (i := 0) (.int .i64 0)) (i := 1) (.int .i64 0)
            have hC := ((Hc4.out.trans Ha5.out).setCell (p := ⟨b2, 0, none⟩) (.inr (by show _ ≤ b2; have := Hx2.out; omega)) (.int .i64 0)).setCell (p := ⟨b2, 1, none⟩) (.inr (by show _ ≤ b2; have := Hx2.out; omega)) (.int .i64 0)
            exact bodyPost_ret (results_cell2 (p := 2) (t := 3) (ty := 37) rfl _ rfl (run_loadVar_row _ _ _ _ _ _ _ hR (Tryz.underlying37) rfl rfl)) rfl ⟨by rw [Hcomp.out]; rfl, hC⟩
          | some rr =>
            obtain ⟨a, b, c⟩ := rr
            rw [hv] at HPk Hcomp
            have Hbd := Lib.hid ((Ver.verL_text hv).2)
            clear hcut hcut0 hv
            go_wp2_with fail
            refine HPk.out.mono ?_
            rintro e w4 ⟨rfl, hb4⟩
            have Hc4 := Lib.hid (Ha2.out.trans (chg_of_below hb4))
            have Hb24 := Lib.hid (row_kept (chg_of_below hb4) Hb2.out id)
            clear hb4 HPk
            have hal_ := (Chg.refl NoB w4).alloc (.cells #[.int .i64 a, .int .i64 b, .int .i64 c] 31)
            have hb_ := heap_alloc_new w4 (.cells #[.int .i64 a, .int .i64 b, .int .i64 c] 31)
            obtain ⟨b5, hxb_⟩ : ∃ b, b = w4.heap.size := ⟨_, rfl⟩
            obtain ⟨w5, hw_⟩ : ∃ w_, w4.alloc (.cells #[.int .i64 a, .int .i64 b, .int .i64 c] 31) = w_ := ⟨_, rfl⟩
            have hz_ : w5.heap.size = b5 + 1 := by rw [← hw_, hxb_]; exact alloc_size _ _
            rw [hw_] at hal_ hb_
            rw [← hxb_] at hb_
            have Hw5 := Lib.hid hw_
            have Hx5 := Lib.hid hxb_
            have Ha5 := Lib.hid hal_
            have Hb5 := Lib.hid hb_
            have Hz5 := Lib.hid hz_
            clear hal_ hb_ hxb_ hw_ hz_
            obtain ⟨q0, q1, q2⟩ := var3 Hb5.out
            have HN := Lib.hid (Ver.numberR_any a b c w5)
            have Hnum := Lib.hid (show Ver.numI a b c = 1000000 * (a : Int) + 1000 * b + c from Ver.num_yes (by have := Hbd.out; exact decide_eq_true (by omega)))
            have Hbnd := Lib.hid (show 0 ≤ Ver.numI a b c ∧ Ver.numI a b c ≤ 999999999 from by have := Hbd.out; rw [Hnum.out]; omega)
            go_upto_region 7 with fail
            rw [Hw5.out, ← Hx5.out]
            go_wp2_with fail
            refine HN.out.mono ?_
            rintro e w5' ⟨rfl, hb5'⟩
            have hn0 := Hbnd.out
            have hal_ := (Chg.refl NoB w5').alloc (.cells #[.int .i64 0, .int .i64 1000000000] 37)
            have hb_ := heap_alloc_new w5' (.cells #[.int .i64 0, .int .i64 1000000000] 37)
            obtain ⟨b8, hxb_⟩ : ∃ b, b = w5'.heap.size := ⟨_, rfl⟩
            obtain ⟨w6, hw_⟩ : ∃ w_, w5'.alloc (.cells #[.int .i64 0, .int .i64 1000000000] 37) = w_ := ⟨_, rfl⟩
            have hz_ : w6.heap.size = b8 + 1 := by rw [← hw_, hxb_]; exact alloc_size _ _
            rw [hw_] at hal_ hb_
            rw [← hxb_] at hb_
            have Hw8 := Lib.hid hw_
            have Hx8 := Lib.hid hxb_
            have Ha8 := Lib.hid hal_
            have Hb8 := Lib.hid hb_
            have Hz8 := Lib.hid hz_
            clear hal_ hb_ hxb_ hw_ hz_
            have Hc6 := Lib.hid ((Hc4.out.trans Ha5.out).trans ((chg_of_below hb5').trans Ha8.out))
            have Hb26 := Lib.hid (row_kept (Ha5.out.trans ((chg_of_below hb5').trans Ha8.out)) Hb24.out id)
            have Hord := Lib.hid (show w.heap.size ≤ b2 ∧ b2 < b8 ∧ w.heap.size ≤ b8 from by have := Hx2.out; have := Hx8.out; have := Hz2.out; have := Hc4.out.size; have := Hz5.out; have := Ha5.out.size; have := (chg_of_below hb5').size; have := lt_of_block Hb24.out; omega)
            have fr := row_free Hb26.out
            obtain ⟨r0, r1⟩ := var2 Hb26.out
            have f8 := row_free Hb8.out
            obtain ⟨g0, g1⟩ := var2 Hb8.out
            have hne : ¬ b8 = b2 := by have := Hord.out; omega
            have hne' : ¬ b2 = b8 := by have := Hord.out; omega
            clear hb5' HN q0 q1 q2
            go_upto_region 11 with fail
            rw [Hw8.out, ← Hx8.out]
            go_upto_region 13 with fail
            rw [Hcut0.out]
            obtain ⟨op, hop⟩ : ∃ op, op = s.take k := ⟨_, rfl⟩
            rw [← hop] at Hcomp ⊢
            have h94 : Ver.numI a 999 999 + 1 = Ver.numI a b c - Ver.numI a b c % 1000000 + 1000000 := by
              have h1 : Ver.numI a 999 999 = 1000000 * (a : Int) + 1000 * 999 + 999 := Ver.num_yes (by have := Hbd.out; exact decide_eq_true (by omega))
              rw [h1, Hnum.out]
              have := Hbd.out
              omega
            have h126 : Ver.numI a b 999 + 1 = Ver.numI a b c - Ver.numI a b c % 1000 + 1000 := by
              have h1 : Ver.numI a b 999 = 1000000 * (a : Int) + 1000 * b + 999 := Ver.num_yes (by have := Hbd.out; exact decide_eq_true (by omega))
              rw [h1, Hnum.out]
              have := Hbd.out
              omega
            have Hcm := Lib.hid (show compL s = signL op a b c from Hcomp.out)
            have H94 := Lib.hid h94
            have H126 := Lib.hid h126
            obtain ⟨n, hn⟩ : ∃ n, n = Ver.numI a b c := ⟨_, rfl⟩
            rw [← hn] at H94 H126 hn0 ⊢
            have Hsg := Lib.hid (show ∀ o, signL o a b c = (if o = [61] then some (n, n + 1) else if o = [62, 61] then some (n, allG) else if o = [62] then some (n + 1, allG) else if o = [60, 61] then some (0, n + 1) else if o = [60] then some (0, n) else if o = [94] then some (n, Ver.numI a 999 999 + 1) else if o = [126] then some (n, Ver.numI a b 999 + 1) else none) from fun o => by rw [hn]; rfl)
            clear h94 h126 hn hop Hnum Hbnd Hbd Hcomp
            by_cases o0 : op = [61]
            · subst o0
              have Hr := Lib.hid (show compL s = some (n, n + 1) by rw [Hcm.out, Hsg.out]; rfl)
              rw [show tx [61] = ⟨#[61]⟩ from rfl]
              go_wp2_with fail
              have hS := ((Chg.refl (fun k => k = b8) w6).setCell (p := ⟨b8, 0, none⟩) (.inl rfl) (.int .i64 n)).setCell (p := ⟨b8, 1, none⟩) (.inl rfl) (.int .i64 (n + 1))
              have hr2 := row_kept hS Hb26.out (by have := Hord.out; omega)
              have hR := heap_set (heap_set hr2 (i := 0) (.int .i64 n)) (i := 1) (.int .i64 (n + 1))
              have hC := ((Hc6.out.above hS fun k e => by have := Hord.out; omega).setCell (p := ⟨b2, 0, none⟩) (.inr Hord.out.1) (.int .i64 n)).setCell (p := ⟨b2, 1, none⟩) (.inr Hord.out.1) (.int .i64 (n + 1))
              exact bodyPost_ret (results_cell2 (p := 2) (t := 3) (ty := 37) rfl _ rfl (run_loadVar_row _ _ _ _ _ _ _ hR (Tryz.underlying37) rfl rfl)) rfl ⟨by rw [Hr.out]; rfl, hC⟩
            by_cases o1 : op = [62, 61]
            · subst o1
              have Hr := Lib.hid (show compL s = some (n, allG) by rw [Hcm.out, Hsg.out]; rfl)
              rw [show tx [62, 61] = ⟨#[62, 61]⟩ from rfl]
              go_wp2_with fail
              have hS := (Chg.refl (fun k => k = b8) w6).setCell (p := ⟨b8, 0, none⟩) (.inl rfl) (.int .i64 n)
              have hr2 := row_kept hS Hb26.out (by have := Hord.out; omega)
              have hR := heap_set (heap_set hr2 (i := 0) (.int .i64 n)) (i := 1) (.int .i64 1000000000)
              have hC := ((Hc6.out.above hS fun k e => by have := Hord.out; omega).setCell (p := ⟨b2, 0, none⟩) (.inr Hord.out.1) (.int .i64 n)).setCell (p := ⟨b2, 1, none⟩) (.inr Hord.out.1) (.int .i64 1000000000)
              exact bodyPost_ret (results_cell2 (p := 2) (t := 3) (ty := 37) rfl _ rfl (run_loadVar_row _ _ _ _ _ _ _ hR (Tryz.underlying37) rfl rfl)) rfl ⟨by rw [Hr.out]; rfl, hC⟩
            by_cases o2 : op = [62]
            · subst o2
              have Hr := Lib.hid (show compL s = some (n + 1, allG) by rw [Hcm.out, Hsg.out]; rfl)
              rw [show tx [62] = ⟨#[62]⟩ from rfl]
              go_wp2_with fail
              have hS := (Chg.refl (fun k => k = b8) w6).setCell (p := ⟨b8, 0, none⟩) (.inl rfl) (.int .i64 (n + 1))
              have hr2 := row_kept hS Hb26.out (by have := Hord.out; omega)
              have hR := heap_set (heap_set hr2 (i := 0) (.int .i64 (n + 1))) (i := 1) (.int .i64 1000000000)
              have hC := ((Hc6.out.above hS fun k e => by have := Hord.out; omega).setCell (p := ⟨b2, 0, none⟩) (.inr Hord.out.1) (.int .i64 (n + 1))).setCell (p := ⟨b2, 1, none⟩) (.inr Hord.out.1) (.int .i64 1000000000)
              exact bodyPost_ret (results_cell2 (p := 2) (t := 3) (ty := 37) rfl _ rfl (run_loadVar_row _ _ _ _ _ _ _ hR (Tryz.underlying37) rfl rfl)) rfl ⟨by rw [Hr.out]; rfl, hC⟩
            by_cases o3 : op = [60, 61]
            · subst o3
              have Hr := Lib.hid (show compL s = some (0, n + 1) by rw [Hcm.out, Hsg.out]; rfl)
              rw [show tx [60, 61] = ⟨#[60, 61]⟩ from rfl]
              go_wp2_with fail
              have hS := (Chg.refl (fun k => k = b8) w6).setCell (p := ⟨b8, 1, none⟩) (.inl rfl) (.int .i64 (n + 1))
              have hr2 := row_kept hS Hb26.out (by have := Hord.out; omega)
              have hR := heap_set (heap_set hr2 (i := 0) (.int .i64 0)) (i := 1) (.int .i64 (n + 1))
              have hC := ((Hc6.out.above hS fun k e => by have := Hord.out; omega).setCell (p := ⟨b2, 0, none⟩) (.inr Hord.out.1) (.int .i64 0)).setCell (p := ⟨b2, 1, none⟩) (.inr Hord.out.1) (.int .i64 (n + 1))
              exact bodyPost_ret (results_cell2 (p := 2) (t := 3) (ty := 37) rfl _ rfl (run_loadVar_row _ _ _ _ _ _ _ hR (Tryz.underlying37) rfl rfl)) rfl ⟨by rw [Hr.out]; rfl, hC⟩
            by_cases o4 : op = [60]
            · subst o4
              have Hr := Lib.hid (show compL s = some (0, n) by rw [Hcm.out, Hsg.out]; rfl)
              rw [show tx [60] = ⟨#[60]⟩ from rfl]
              go_wp2_with fail
              have hS := (Chg.refl (fun k => k = b8) w6).setCell (p := ⟨b8, 1, none⟩) (.inl rfl) (.int .i64 n)
              have hr2 := row_kept hS Hb26.out (by have := Hord.out; omega)
              have hR := heap_set (heap_set hr2 (i := 0) (.int .i64 0)) (i := 1) (.int .i64 n)
              have hC := ((Hc6.out.above hS fun k e => by have := Hord.out; omega).setCell (p := ⟨b2, 0, none⟩) (.inr Hord.out.1) (.int .i64 0)).setCell (p := ⟨b2, 1, none⟩) (.inr Hord.out.1) (.int .i64 n)
              exact bodyPost_ret (results_cell2 (p := 2) (t := 3) (ty := 37) rfl _ rfl (run_loadVar_row _ _ _ _ _ _ _ hR (Tryz.underlying37) rfl rfl)) rfl ⟨by rw [Hr.out]; rfl, hC⟩
            by_cases o5 : op = [94]
            · subst o5
              have Hr := Lib.hid (show compL s = some (n, n - n % 1000000 + 1000000) by rw [Hcm.out, Hsg.out, ← H94.out]; rfl)
              rw [show tx [94] = ⟨#[94]⟩ from rfl]
              go_wp2_with fail
              have hS := ((Chg.refl (fun k => k = b8) w6).setCell (p := ⟨b8, 0, none⟩) (.inl rfl) (.int .i64 n)).setCell (p := ⟨b8, 1, none⟩) (.inl rfl) (.int .i64 (n - n % 1000000 + 1000000))
              have hr2 := row_kept hS Hb26.out (by have := Hord.out; omega)
              have hR := heap_set (heap_set hr2 (i := 0) (.int .i64 n)) (i := 1) (.int .i64 (n - n % 1000000 + 1000000))
              have hC := ((Hc6.out.above hS fun k e => by have := Hord.out; omega).setCell (p := ⟨b2, 0, none⟩) (.inr Hord.out.1) (.int .i64 n)).setCell (p := ⟨b2, 1, none⟩) (.inr Hord.out.1) (.int .i64 (n - n % 1000000 + 1000000))
              exact bodyPost_ret (results_cell2 (p := 2) (t := 3) (ty := 37) rfl _ rfl (run_loadVar_row _ _ _ _ _ _ _ hR (Tryz.underlying37) rfl rfl)) rfl ⟨by rw [Hr.out]; rfl, hC⟩
            by_cases o6 : op = [126]
            · subst o6
              have Hr := Lib.hid (show compL s = some (n, n - n % 1000 + 1000) by rw [Hcm.out, Hsg.out, ← H126.out]; rfl)
              rw [show tx [126] = ⟨#[126]⟩ from rfl]
              go_wp2_with fail
              have hS := ((Chg.refl (fun k => k = b8) w6).setCell (p := ⟨b8, 0, none⟩) (.inl rfl) (.int .i64 n)).setCell (p := ⟨b8, 1, none⟩) (.inl rfl) (.int .i64 (n - n % 1000 + 1000))
              have hr2 := row_kept hS Hb26.out (by have := Hord.out; omega)
              have hR := heap_set (heap_set hr2 (i := 0) (.int .i64 n)) (i := 1) (.int .i64 (n - n % 1000 + 1000))
              have hC := ((Hc6.out.above hS fun k e => by have := Hord.out; omega).setCell (p := ⟨b2, 0, none⟩) (.inr Hord.out.1) (.int .i64 n)).setCell (p := ⟨b2, 1, none⟩) (.inr Hord.out.1) (.int .i64 (n - n % 1000 + 1000))
              exact bodyPost_ret (results_cell2 (p := 2) (t := 3) (ty := 37) rfl _ rfl (run_loadVar_row _ _ _ _ _ _ _ hR (Tryz.underlying37) rfl rfl)) rfl ⟨by rw [Hr.out]; rfl, hC⟩
            have Hr := Lib.hid (show compL s = none by rw [Hcm.out, Hsg.out]; simp only [if_neg o0, if_neg o1, if_neg o2, if_neg o3, if_neg o4, if_neg o5, if_neg o6])
            have t0 : ((tx op).toList == [61]) = false := by rw [txL]; simpa using o0
            have t1 : ((tx op).toList == [62, 61]) = false := by rw [txL]; simpa using o1
            have t2 : ((tx op).toList == [62]) = false := by rw [txL]; simpa using o2
            have t3 : ((tx op).toList == [60, 61]) = false := by rw [txL]; simpa using o3
            have t4 : ((tx op).toList == [60]) = false := by rw [txL]; simpa using o4
            have t5 : ((tx op).toList == [94]) = false := by rw [txL]; simpa using o5
            have t6 : ((tx op).toList == [126]) = false := by rw [txL]; simpa using o6
            clear o0 o1 o2 o3 o4 o5 o6
            go_wp2_with fail
            have hS := Chg.refl (fun k => k = b8) w6
            have hr2 := row_kept hS Hb26.out (by have := Hord.out; omega)
            have hR := heap_set (heap_set hr2 (i := 0) (.int .i64 0)) (i := 1) (.int .i64 0)
            have hC := ((Hc6.out.above hS fun k e => by have := Hord.out; omega).setCell (p := ⟨b2, 0, none⟩) (.inr Hord.out.1) (.int .i64 0)).setCell (p := ⟨b2, 1, none⟩) (.inr Hord.out.1) (.int .i64 0)
            exact bodyPost_ret (results_cell2 (p := 2) (t := 3) (ty := 37) rfl _ rfl (run_loadVar_row _ _ _ _ _ _ _ hR (Tryz.underlying37) rfl rfl)) rfl ⟨by rw [Hr.out]; rfl, hC⟩
    · have Hd := Lib.hid (show k = s.length ∨ ∃ h : k < s.length, digB s[k] = true from .inl (by omega))
      have hcut : (tx s).extract k s.length = tx (s.drop k) := by rw [cut_tx s k s.length hk (Nat.le_refl _), List.take_length]
      have hcut0 : (tx s).extract 0 k = tx (s.take k) := by rw [cut_tx s 0 k (by omega) hk]; rfl
      have Hcut0 := Lib.hid hcut0
      have Hcomp := Lib.hid (comp_at s k H1.out hk Hno.out Hd.out)
      have HPk := Lib.hid (HP.out (s.drop k) (by rw [List.length_drop]; have := Hl.out; omega) wr)
      rw [← hcut] at HPk
      cases hv : Ver.verL (s.drop k) with
      | none =>
        rw [hv] at HPk Hcomp
        clear hcut hcut0 hv
        go_wp2_with fail
        refine HPk.out.mono ?_
        rintro e w4 ⟨rfl, hb4⟩
        have Hc4 := Lib.hid (Ha2.out.trans (chg_of_below hb4))
        have Hb4 := Lib.hid (row_kept (chg_of_below hb4) Hb2.out id)
        clear hb4 HPk
        have hal_ := (Chg.refl NoB w4).alloc (.cells #[.int .i64 0, .int .i64 0, .int .i64 0] 31)
        have hb_ := heap_alloc_new w4 (.cells #[.int .i64 0, .int .i64 0, .int .i64 0] 31)
        obtain ⟨b5, hxb_⟩ : ∃ b, b = w4.heap.size := ⟨_, rfl⟩
        obtain ⟨w5, hw_⟩ : ∃ w_, w4.alloc (.cells #[.int .i64 0, .int .i64 0, .int .i64 0] 31) = w_ := ⟨_, rfl⟩
        have hz_ : w5.heap.size = b5 + 1 := by rw [← hw_, hxb_]; exact alloc_size _ _
        rw [hw_] at hal_ hb_
        rw [← hxb_] at hb_
        have Hw5 := Lib.hid hw_
        have Hx5 := Lib.hid hxb_
        have Ha5 := Lib.hid hal_
        have Hb5 := Lib.hid hb_
        have Hz5 := Lib.hid hz_
        clear hal_ hb_ hxb_ hw_ hz_
        have Hb6 := Lib.hid (row_kept Ha5.out Hb4.out id)
        have fr := row_free Hb6.out
        obtain ⟨r0, r1⟩ := var2 Hb6.out
        go_upto_region 7 with fail
        rw [Hw5.out, ← Hx5.out]
        go_wp2_with fail
        have hR := heap_set (heap_set Hb6.out (i := 0) (.int .i64 0)) (i := 1) (.int .i64 0)
        have hC := ((Hc4.out.trans Ha5.out).setCell (p := ⟨b2, 0, none⟩) (.inr (by show _ ≤ b2; have := Hx2.out; omega)) (.int .i64 0)).setCell (p := ⟨b2, 1, none⟩) (.inr (by show _ ≤ b2; have := Hx2.out; omega)) (.int .i64 0)
        exact bodyPost_ret (results_cell2 (p := 2) (t := 3) (ty := 37) rfl _ rfl (run_loadVar_row _ _ _ _ _ _ _ hR (Tryz.underlying37) rfl rfl)) rfl ⟨by rw [Hcomp.out]; rfl, hC⟩
      | some rr =>
        obtain ⟨a, b, c⟩ := rr
        rw [hv] at HPk Hcomp
        have Hbd := Lib.hid ((Ver.verL_text hv).2)
        clear hcut hcut0 hv
        go_wp2_with fail
        refine HPk.out.mono ?_
        rintro e w4 ⟨rfl, hb4⟩
        have Hc4 := Lib.hid (Ha2.out.trans (chg_of_below hb4))
        have Hb24 := Lib.hid (row_kept (chg_of_below hb4) Hb2.out id)
        clear hb4 HPk
        have hal_ := (Chg.refl NoB w4).alloc (.cells #[.int .i64 a, .int .i64 b, .int .i64 c] 31)
        have hb_ := heap_alloc_new w4 (.cells #[.int .i64 a, .int .i64 b, .int .i64 c] 31)
        obtain ⟨b5, hxb_⟩ : ∃ b, b = w4.heap.size := ⟨_, rfl⟩
        obtain ⟨w5, hw_⟩ : ∃ w_, w4.alloc (.cells #[.int .i64 a, .int .i64 b, .int .i64 c] 31) = w_ := ⟨_, rfl⟩
        have hz_ : w5.heap.size = b5 + 1 := by rw [← hw_, hxb_]; exact alloc_size _ _
        rw [hw_] at hal_ hb_
        rw [← hxb_] at hb_
        have Hw5 := Lib.hid hw_
        have Hx5 := Lib.hid hxb_
        have Ha5 := Lib.hid hal_
        have Hb5 := Lib.hid hb_
        have Hz5 := Lib.hid hz_
        clear hal_ hb_ hxb_ hw_ hz_
        obtain ⟨q0, q1, q2⟩ := var3 Hb5.out
        have HN := Lib.hid (Ver.numberR_any a b c w5)
        have Hnum := Lib.hid (show Ver.numI a b c = 1000000 * (a : Int) + 1000 * b + c from Ver.num_yes (by have := Hbd.out; exact decide_eq_true (by omega)))
        have Hbnd := Lib.hid (show 0 ≤ Ver.numI a b c ∧ Ver.numI a b c ≤ 999999999 from by have := Hbd.out; rw [Hnum.out]; omega)
        go_upto_region 7 with fail
        rw [Hw5.out, ← Hx5.out]
        go_wp2_with fail
        refine HN.out.mono ?_
        rintro e w5' ⟨rfl, hb5'⟩
        have hn0 := Hbnd.out
        have hal_ := (Chg.refl NoB w5').alloc (.cells #[.int .i64 0, .int .i64 1000000000] 37)
        have hb_ := heap_alloc_new w5' (.cells #[.int .i64 0, .int .i64 1000000000] 37)
        obtain ⟨b8, hxb_⟩ : ∃ b, b = w5'.heap.size := ⟨_, rfl⟩
        obtain ⟨w6, hw_⟩ : ∃ w_, w5'.alloc (.cells #[.int .i64 0, .int .i64 1000000000] 37) = w_ := ⟨_, rfl⟩
        have hz_ : w6.heap.size = b8 + 1 := by rw [← hw_, hxb_]; exact alloc_size _ _
        rw [hw_] at hal_ hb_
        rw [← hxb_] at hb_
        have Hw8 := Lib.hid hw_
        have Hx8 := Lib.hid hxb_
        have Ha8 := Lib.hid hal_
        have Hb8 := Lib.hid hb_
        have Hz8 := Lib.hid hz_
        clear hal_ hb_ hxb_ hw_ hz_
        have Hc6 := Lib.hid ((Hc4.out.trans Ha5.out).trans ((chg_of_below hb5').trans Ha8.out))
        have Hb26 := Lib.hid (row_kept (Ha5.out.trans ((chg_of_below hb5').trans Ha8.out)) Hb24.out id)
        have Hord := Lib.hid (show w.heap.size ≤ b2 ∧ b2 < b8 ∧ w.heap.size ≤ b8 from by have := Hx2.out; have := Hx8.out; have := Hz2.out; have := Hc4.out.size; have := Hz5.out; have := Ha5.out.size; have := (chg_of_below hb5').size; have := lt_of_block Hb24.out; omega)
        have fr := row_free Hb26.out
        obtain ⟨r0, r1⟩ := var2 Hb26.out
        have f8 := row_free Hb8.out
        obtain ⟨g0, g1⟩ := var2 Hb8.out
        have hne : ¬ b8 = b2 := by have := Hord.out; omega
        have hne' : ¬ b2 = b8 := by have := Hord.out; omega
        clear hb5' HN q0 q1 q2
        go_upto_region 11 with fail
        rw [Hw8.out, ← Hx8.out]
        go_upto_region 13 with fail
        rw [Hcut0.out]
        obtain ⟨op, hop⟩ : ∃ op, op = s.take k := ⟨_, rfl⟩
        rw [← hop] at Hcomp ⊢
        have h94 : Ver.numI a 999 999 + 1 = Ver.numI a b c - Ver.numI a b c % 1000000 + 1000000 := by
          have h1 : Ver.numI a 999 999 = 1000000 * (a : Int) + 1000 * 999 + 999 := Ver.num_yes (by have := Hbd.out; exact decide_eq_true (by omega))
          rw [h1, Hnum.out]
          have := Hbd.out
          omega
        have h126 : Ver.numI a b 999 + 1 = Ver.numI a b c - Ver.numI a b c % 1000 + 1000 := by
          have h1 : Ver.numI a b 999 = 1000000 * (a : Int) + 1000 * b + 999 := Ver.num_yes (by have := Hbd.out; exact decide_eq_true (by omega))
          rw [h1, Hnum.out]
          have := Hbd.out
          omega
        have Hcm := Lib.hid (show compL s = signL op a b c from Hcomp.out)
        have H94 := Lib.hid h94
        have H126 := Lib.hid h126
        obtain ⟨n, hn⟩ : ∃ n, n = Ver.numI a b c := ⟨_, rfl⟩
        rw [← hn] at H94 H126 hn0 ⊢
        have Hsg := Lib.hid (show ∀ o, signL o a b c = (if o = [61] then some (n, n + 1) else if o = [62, 61] then some (n, allG) else if o = [62] then some (n + 1, allG) else if o = [60, 61] then some (0, n + 1) else if o = [60] then some (0, n) else if o = [94] then some (n, Ver.numI a 999 999 + 1) else if o = [126] then some (n, Ver.numI a b 999 + 1) else none) from fun o => by rw [hn]; rfl)
        clear h94 h126 hn hop Hnum Hbnd Hbd Hcomp
        by_cases o0 : op = [61]
        · subst o0
          have Hr := Lib.hid (show compL s = some (n, n + 1) by rw [Hcm.out, Hsg.out]; rfl)
          rw [show tx [61] = ⟨#[61]⟩ from rfl]
          go_wp2_with fail
          have hS := ((Chg.refl (fun k => k = b8) w6).setCell (p := ⟨b8, 0, none⟩) (.inl rfl) (.int .i64 n)).setCell (p := ⟨b8, 1, none⟩) (.inl rfl) (.int .i64 (n + 1))
          have hr2 := row_kept hS Hb26.out (by have := Hord.out; omega)
          have hR := heap_set (heap_set hr2 (i := 0) (.int .i64 n)) (i := 1) (.int .i64 (n + 1))
          have hC := ((Hc6.out.above hS fun k e => by have := Hord.out; omega).setCell (p := ⟨b2, 0, none⟩) (.inr Hord.out.1) (.int .i64 n)).setCell (p := ⟨b2, 1, none⟩) (.inr Hord.out.1) (.int .i64 (n + 1))
          exact bodyPost_ret (results_cell2 (p := 2) (t := 3) (ty := 37) rfl _ rfl (run_loadVar_row _ _ _ _ _ _ _ hR (Tryz.underlying37) rfl rfl)) rfl ⟨by rw [Hr.out]; rfl, hC⟩
        by_cases o1 : op = [62, 61]
        · subst o1
          have Hr := Lib.hid (show compL s = some (n, allG) by rw [Hcm.out, Hsg.out]; rfl)
          rw [show tx [62, 61] = ⟨#[62, 61]⟩ from rfl]
          go_wp2_with fail
          have hS := (Chg.refl (fun k => k = b8) w6).setCell (p := ⟨b8, 0, none⟩) (.inl rfl) (.int .i64 n)
          have hr2 := row_kept hS Hb26.out (by have := Hord.out; omega)
          have hR := heap_set (heap_set hr2 (i := 0) (.int .i64 n)) (i := 1) (.int .i64 1000000000)
          have hC := ((Hc6.out.above hS fun k e => by have := Hord.out; omega).setCell (p := ⟨b2, 0, none⟩) (.inr Hord.out.1) (.int .i64 n)).setCell (p := ⟨b2, 1, none⟩) (.inr Hord.out.1) (.int .i64 1000000000)
          exact bodyPost_ret (results_cell2 (p := 2) (t := 3) (ty := 37) rfl _ rfl (run_loadVar_row _ _ _ _ _ _ _ hR (Tryz.underlying37) rfl rfl)) rfl ⟨by rw [Hr.out]; rfl, hC⟩
        by_cases o2 : op = [62]
        · subst o2
          have Hr := Lib.hid (show compL s = some (n + 1, allG) by rw [Hcm.out, Hsg.out]; rfl)
          rw [show tx [62] = ⟨#[62]⟩ from rfl]
          go_wp2_with fail
          have hS := (Chg.refl (fun k => k = b8) w6).setCell (p := ⟨b8, 0, none⟩) (.inl rfl) (.int .i64 (n + 1))
          have hr2 := row_kept hS Hb26.out (by have := Hord.out; omega)
          have hR := heap_set (heap_set hr2 (i := 0) (.int .i64 (n + 1))) (i := 1) (.int .i64 1000000000)
          have hC := ((Hc6.out.above hS fun k e => by have := Hord.out; omega).setCell (p := ⟨b2, 0, none⟩) (.inr Hord.out.1) (.int .i64 (n + 1))).setCell (p := ⟨b2, 1, none⟩) (.inr Hord.out.1) (.int .i64 1000000000)
          exact bodyPost_ret (results_cell2 (p := 2) (t := 3) (ty := 37) rfl _ rfl (run_loadVar_row _ _ _ _ _ _ _ hR (Tryz.underlying37) rfl rfl)) rfl ⟨by rw [Hr.out]; rfl, hC⟩
        by_cases o3 : op = [60, 61]
        · subst o3
          have Hr := Lib.hid (show compL s = some (0, n + 1) by rw [Hcm.out, Hsg.out]; rfl)
          rw [show tx [60, 61] = ⟨#[60, 61]⟩ from rfl]
          go_wp2_with fail
          have hS := (Chg.refl (fun k => k = b8) w6).setCell (p := ⟨b8, 1, none⟩) (.inl rfl) (.int .i64 (n + 1))
          have hr2 := row_kept hS Hb26.out (by have := Hord.out; omega)
          have hR := heap_set (heap_set hr2 (i := 0) (.int .i64 0)) (i := 1) (.int .i64 (n + 1))
          have hC := ((Hc6.out.above hS fun k e => by have := Hord.out; omega).setCell (p := ⟨b2, 0, none⟩) (.inr Hord.out.1) (.int .i64 0)).setCell (p := ⟨b2, 1, none⟩) (.inr Hord.out.1) (.int .i64 (n + 1))
          exact bodyPost_ret (results_cell2 (p := 2) (t := 3) (ty := 37) rfl _ rfl (run_loadVar_row _ _ _ _ _ _ _ hR (Tryz.underlying37) rfl rfl)) rfl ⟨by rw [Hr.out]; rfl, hC⟩
        by_cases o4 : op = [60]
        · subst o4
          have Hr := Lib.hid (show compL s = some (0, n) by rw [Hcm.out, Hsg.out]; rfl)
          rw [show tx [60] = ⟨#[60]⟩ from rfl]
          go_wp2_with fail
          have hS := (Chg.refl (fun k => k = b8) w6).setCell (p := ⟨b8, 1, none⟩) (.inl rfl) (.int .i64 n)
          have hr2 := row_kept hS Hb26.out (by have := Hord.out; omega)
          have hR := heap_set (heap_set hr2 (i := 0) (.int .i64 0)) (i := 1) (.int .i64 n)
          have hC := ((Hc6.out.above hS fun k e => by have := Hord.out; omega).setCell (p := ⟨b2, 0, none⟩) (.inr Hord.out.1) (.int .i64 0)).setCell (p := ⟨b2, 1, none⟩) (.inr Hord.out.1) (.int .i64 n)
          exact bodyPost_ret (results_cell2 (p := 2) (t := 3) (ty := 37) rfl _ rfl (run_loadVar_row _ _ _ _ _ _ _ hR (Tryz.underlying37) rfl rfl)) rfl ⟨by rw [Hr.out]; rfl, hC⟩
        by_cases o5 : op = [94]
        · subst o5
          have Hr := Lib.hid (show compL s = some (n, n - n % 1000000 + 1000000) by rw [Hcm.out, Hsg.out, ← H94.out]; rfl)
          rw [show tx [94] = ⟨#[94]⟩ from rfl]
          go_wp2_with fail
          have hS := ((Chg.refl (fun k => k = b8) w6).setCell (p := ⟨b8, 0, none⟩) (.inl rfl) (.int .i64 n)).setCell (p := ⟨b8, 1, none⟩) (.inl rfl) (.int .i64 (n - n % 1000000 + 1000000))
          have hr2 := row_kept hS Hb26.out (by have := Hord.out; omega)
          have hR := heap_set (heap_set hr2 (i := 0) (.int .i64 n)) (i := 1) (.int .i64 (n - n % 1000000 + 1000000))
          have hC := ((Hc6.out.above hS fun k e => by have := Hord.out; omega).setCell (p := ⟨b2, 0, none⟩) (.inr Hord.out.1) (.int .i64 n)).setCell (p := ⟨b2, 1, none⟩) (.inr Hord.out.1) (.int .i64 (n - n % 1000000 + 1000000))
          exact bodyPost_ret (results_cell2 (p := 2) (t := 3) (ty := 37) rfl _ rfl (run_loadVar_row _ _ _ _ _ _ _ hR (Tryz.underlying37) rfl rfl)) rfl ⟨by rw [Hr.out]; rfl, hC⟩
        by_cases o6 : op = [126]
        · subst o6
          have Hr := Lib.hid (show compL s = some (n, n - n % 1000 + 1000) by rw [Hcm.out, Hsg.out, ← H126.out]; rfl)
          rw [show tx [126] = ⟨#[126]⟩ from rfl]
          go_wp2_with fail
          have hS := ((Chg.refl (fun k => k = b8) w6).setCell (p := ⟨b8, 0, none⟩) (.inl rfl) (.int .i64 n)).setCell (p := ⟨b8, 1, none⟩) (.inl rfl) (.int .i64 (n - n % 1000 + 1000))
          have hr2 := row_kept hS Hb26.out (by have := Hord.out; omega)
          have hR := heap_set (heap_set hr2 (i := 0) (.int .i64 n)) (i := 1) (.int .i64 (n - n % 1000 + 1000))
          have hC := ((Hc6.out.above hS fun k e => by have := Hord.out; omega).setCell (p := ⟨b2, 0, none⟩) (.inr Hord.out.1) (.int .i64 n)).setCell (p := ⟨b2, 1, none⟩) (.inr Hord.out.1) (.int .i64 (n - n % 1000 + 1000))
          exact bodyPost_ret (results_cell2 (p := 2) (t := 3) (ty := 37) rfl _ rfl (run_loadVar_row _ _ _ _ _ _ _ hR (Tryz.underlying37) rfl rfl)) rfl ⟨by rw [Hr.out]; rfl, hC⟩
        have Hr := Lib.hid (show compL s = none by rw [Hcm.out, Hsg.out]; simp only [if_neg o0, if_neg o1, if_neg o2, if_neg o3, if_neg o4, if_neg o5, if_neg o6])
        have t0 : ((tx op).toList == [61]) = false := by rw [txL]; simpa using o0
        have t1 : ((tx op).toList == [62, 61]) = false := by rw [txL]; simpa using o1
        have t2 : ((tx op).toList == [62]) = false := by rw [txL]; simpa using o2
        have t3 : ((tx op).toList == [60, 61]) = false := by rw [txL]; simpa using o3
        have t4 : ((tx op).toList == [60]) = false := by rw [txL]; simpa using o4
        have t5 : ((tx op).toList == [94]) = false := by rw [txL]; simpa using o5
        have t6 : ((tx op).toList == [126]) = false := by rw [txL]; simpa using o6
        clear o0 o1 o2 o3 o4 o5 o6
        go_wp2_with fail
        have hS := Chg.refl (fun k => k = b8) w6
        have hr2 := row_kept hS Hb26.out (by have := Hord.out; omega)
        have hR := heap_set (heap_set hr2 (i := 0) (.int .i64 0)) (i := 1) (.int .i64 0)
        have hC := ((Hc6.out.above hS fun k e => by have := Hord.out; omega).setCell (p := ⟨b2, 0, none⟩) (.inr Hord.out.1) (.int .i64 0)).setCell (p := ⟨b2, 1, none⟩) (.inr Hord.out.1) (.int .i64 0)
        exact bodyPost_ret (results_cell2 (p := 2) (t := 3) (ty := 37) rfl _ rfl (run_loadVar_row _ _ _ _ _ _ _ hR (Tryz.underlying37) rfl rfl)) rfl ⟨by rw [Hr.out]; rfl, hC⟩
end Go.Proofs.YtaijhebjjbcdfaaGreatDoor
