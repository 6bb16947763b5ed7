/- The contract of the document's reading of a line as an instruction: places; all together. Conditions: as in AmRIns. -/
import Derived.Test.YtaihgciokfkonaaDoorAmRIns
import Derived.StillTailTactics
import Derived.Deep.RegionHeld3

/- the result is laid, the call ends -/
/- the second box has one cell more -/

namespace Go.Proofs.YtaihgciokfkonaaDoor
set_option linter.unusedVariables false
open Go.ChangeShapes Go.WideShapes Go.ChangeAt Go.RowKit
theorem nameRP (l : List UInt8) (w : World) (hl : l.length ≤ 1048576) : Calls Tryd.prog 21 #[.string (tx l)] w (SayB (Pth.nameL l) w) := by
  have h := Pth.nameR_any (tx l) w (by rw [tx_size]; exact hl)
  rw [tx_list] at h
  exact h.mono fun e w' h => ⟨h.1, chg_of_below h.2⟩
set_option maxHeartbeats 4000000 in
set_option maxRecDepth 20000 in
theorem rins_four (t : List UInt8) (base : Nat) (w : World) (h : Lb base w) (hs : t.length ≤ 65536) (h0 : (opF (cutW t).1 : Int) ≠ 0) (hm : (cutW t).2.2 = decide (takesF (opF (cutW t).1) ≠ 0)) (htk : takesF (opF (cutW t).1) = 4) : Calls Tryd.prog 22 #[.string (tx t)] w (InsRP (insF t) w) := by
  have Hr := Lib.hid (show insF t = insG (opF (cutW t).1) (cutW t).2.2 (cutW t).2.1 from rfl)
  have hal_ := (Chg.refl NoB w).alloc (.cells #[.int .i64 0, .int .i64 0, .string ⟨#[]⟩] 38)
  have hb_ := heap_alloc_new w (.cells #[.int .i64 0, .int .i64 0, .string ⟨#[]⟩] 38)
  obtain ⟨b2, hxb_⟩ : ∃ b, b = w.heap.size := ⟨_, rfl⟩
  obtain ⟨w1, hw_⟩ : ∃ w_, w.alloc (.cells #[.int .i64 0, .int .i64 0, .string ⟨#[]⟩] 38) = w_ := ⟨_, rfl⟩
  have hz_ : w1.heap.size = b2 + 1 := by rw [← hw_, hxb_]; exact alloc_size _ _
  rw [hw_] at hal_ hb_
  rw [← hxb_] at hb_
  have Hw2 := Lib.hid hw_
  have Hx2 := Lib.hid hxb_
  have Ha2 := Lib.hid hal_
  have Hb2 := Lib.hid hb_
  have Hz2 := Lib.hid hz_
  clear hal_ hb_ hxb_ hw_ hz_
  have HC := Lib.hid (split_any t w1 (by omega))
  have hop := opF_lt (cutW t).1
  have hlen := (cutW_len t).2
  generalize cutW t = cw at *
  obtain ⟨wd, rest, more⟩ := cw
  simp only at *
  have HO := Lib.hid (fun w => refOp_any wd w)
  generalize hopd : (opF wd : Int) = op at *
  have hop2 : 0 ≤ op ∧ op < 31 := by omega
  have HT := Lib.hid (fun w => refTakes_any op (by omega) (by omega) w)
  clear hopd
  have H := Lib.hid h
  clear hop h
  have h0b : (op == 0) = false := by simp [h0]
  replace Hr := Lib.hid (show insF t = if takesF op = 1 ∨ takesF op = 3 then (digP rest).map fun n => (⟨op, n, []⟩, []) else if takesF op = 2 then (wholeF rest).map fun s => (⟨op, 0, s⟩, []) else if takesF op = 4 then (if Pth.nameL rest = true then some (⟨op, 0, []⟩, rest) else none) else some (⟨op, 0, []⟩, []) by
    rw [Hr.out]; exact if_neg (by rintro (h | h); exact h0 h; exact h hm))
  clear h0
  rw [htk] at hm HT Hr
  replace Hr := Lib.hid (show insF t = if Pth.nameL rest = true then some (⟨op, 0, []⟩, rest) else none by rw [Hr.out]; rfl)
  obtain rfl : more = true := by simpa using hm
  have HN := Lib.hid (fun w => nameRP rest w (by omega))
  clear hm htk
  go_enter Tryd.func22, Tryd.ntmps22
  go_upto_region 1 with fail
  rw [Hw2.out, ← Hx2.out]
  go_wp2_with fail
  refine HC.out.mono ?_
  rintro e w2 ⟨rfl, hc2⟩
  have Hc2 := Lib.hid hc2
  clear hc2
  go_wp2_with fail
  refine (HO.out _).mono ?_
  rintro e w3 ⟨rfl, hc3⟩
  have Hc3 := Lib.hid (Hc2.out.trans hc3)
  clear hc3 Hc2
  have hal_ := (Chg.refl NoB w3).alloc (.cells #[.int .i64 op, .int .i64 0, .string ⟨#[]⟩] 38)
  have hb_ := heap_alloc_new w3 (.cells #[.int .i64 op, .int .i64 0, .string ⟨#[]⟩] 38)
  obtain ⟨b8, hxb_⟩ : ∃ b, b = w3.heap.size := ⟨_, rfl⟩
  obtain ⟨w4, hw_⟩ : ∃ w_, w3.alloc (.cells #[.int .i64 op, .int .i64 0, .string ⟨#[]⟩] 38) = w_ := ⟨_, rfl⟩
  have hz_ : w4.heap.size = b8 + 1 := by rw [← hw_, hxb_]; exact alloc_size _ _
  rw [hw_] at hal_ hb_
  rw [← hxb_] at hb_
  have Hw8 := Lib.hid hw_
  have Hx8 := Lib.hid hxb_
  have Ha8 := Lib.hid hal_
  have Hb8 := Lib.hid hb_
  have Hz8 := Lib.hid hz_
  clear hal_ hb_ hxb_ hw_ hz_
  obtain ⟨c0, c1, c2⟩ := var3 Hb8.out
  go_upto_region 3 with fail
  rw [Hw8.out, ← Hx8.out]
  go_wp2_with fail
  refine (HT.out _).mono ?_
  rintro e w5 ⟨rfl, hc5⟩
  have Hc5 := Lib.hid hc5
  have Hb24 := Lib.hid (row_kept (Hc3.out.trans Ha8.out) Hb2.out id)
  have Hb25 := Lib.hid (row_kept hc5 Hb24.out id)
  have Hb85 := Lib.hid (row_kept hc5 Hb8.out id)
  have Hne := Lib.hid (show b2 ≠ b8 by have := Hx2.out; have := Hz2.out; have := Hx8.out; have := Hc3.out.size; omega)
  have Hc25 := Lib.hid (((Ha2.out.trans Hc3.out).trans Ha8.out).trans hc5)
  clear hc5 c0 c1 c2
  obtain ⟨c0, c1, c2⟩ := var3 Hb85.out
  obtain ⟨d0, d1, d2⟩ := var3 Hb25.out
  have fr := row_free Hb25.out
  have fs := row_free Hb85.out
  go_upto_region 15 with fail
  have hA := And.intro c0 (And.intro c1 c2)
  have hcd := (Chg.refl NoB w5).drew
  have hne2 : ¬ (b8 = b2) := fun e => Hne.out e.symm
  go_region_held3 (fun w' => w'.cell? ⟨b8, 0, none⟩ = some (.int .i64 op) ∧ w'.cell? ⟨b8, 1, none⟩ = some (.int .i64 0) ∧ w'.cell? ⟨b8, 2, none⟩ = some (.string ⟨#[]⟩))
    (first | exact hD | exact hC | exact hA)
    ((go_at_call_of 21 (Value.string (tx rest)); refine (HN.out w5.drew).mono ?_; rintro e w6 ⟨rfl, hc6'⟩; have hc6 : Chg NoB w5 w6 := hcd.trans hc6'; have Hb26 := Lib.hid (row_kept hc6 Hb25.out id); obtain ⟨d06, d16, d26⟩ := var3 Hb26.out; have fr6 := row_free Hb26.out; have hC := And.intro (hc6.keep c0) (And.intro (hc6.keep c1) (hc6.keep c2)); have HS := set3 Hb26.out (.int .i64 op) (.int .i64 0) (.string ⟨#[]⟩); have hD := And.intro (HS.2.cell hC.1 hne2) (And.intro (HS.2.cell hC.2.1 hne2) (HS.2.cell hC.2.2 hne2))))
  have Hc26 := Lib.hid (Hc25.out.trans hc6)
  clear HS hA hC hD d06 d16 d26 fr6 hc6' hc6 c0 c1 c2 d0 d1 d2 fr fs hcd HN
  generalize Pth.nameL rest = o at *
  cases o with
  | false =>
    go_wp2_with fail
    have HS := set3 Hb26.out
    exact bodyPost_ret (res_cell3 (p := 2) (t := 3) (u := 4) (ty := 38) rfl _ rfl (run_loadVar_row _ _ _ _ _ _ _ (HS _ _ _).1 (Tryd.underlying38) rfl rfl)) rfl ⟨(Hc26.out).above (HS _ _ _).2 fun k e => by have := Hx2.out; omega, by rw [Hr.out]; exact ⟨_, _, _, _, rfl⟩⟩
  | true =>
    go_wp2_with fail
    have HS := set3 Hb26.out
    exact bodyPost_ret (res_cell3 (p := 2) (t := 3) (u := 4) (ty := 38) rfl _ rfl (run_loadVar_row _ _ _ _ _ _ _ (HS _ _ _).1 (Tryd.underlying38) rfl rfl)) rfl ⟨(Hc26.out).above (HS _ _ _).2 fun k e => by have := Hx2.out; omega, by rw [Hr.out]; rfl⟩
theorem rins_any (t : List UInt8) (base : Nat) (w : World) (h : Lb base w) (hs : t.length ≤ 65536) : Calls Tryd.prog 22 #[.string (tx t)] w (InsRP (insF t) w) := by
  by_cases h0 : (opF (cutW t).1 : Int) = 0
  · exact rins_none t base w h hs h0
  · by_cases hm : (cutW t).2.2 = decide (takesF (opF (cutW t).1) ≠ 0)
    · have htk : takesF (opF (cutW t).1) = 0 ∨ takesF (opF (cutW t).1) = 1 ∨ takesF (opF (cutW t).1) = 2 ∨ takesF (opF (cutW t).1) = 3 ∨ takesF (opF (cutW t).1) = 4 := by unfold takesF; (repeat' split) <;> omega
      rcases htk with e | e | e | e | e
      · exact rins_zero t base w h hs h0 hm e
      · exact rins_one t base w h hs h0 hm e
      · exact rins_two t base w h hs h0 hm e
      · exact rins_three t base w h hs h0 hm e
      · exact rins_four t base w h hs h0 hm e
    · exact rins_bad t base w h hs h0 hm _ rfl
end Go.Proofs.YtaihgciokfkonaaDoor
