/- Each instruction that takes no place is read from its own line, whatever text it has, and is written as that line: true for every input. Conditions: the library's variables and the list of words read as listed, as the card says. -/
import Derived.Test.YtaihgciokfkonaaDoorAmLaw
import Derived.Test.YtaihgciokfkonaaDoorAmOpen
import Derived.Test.YtaihgciokfkonaaDoorCards
import Derived.Test.YtaihgciokfkonaaDoorTie
import Derived.Deep.QuietTactic
import Derived.BigQuiet

namespace Go.Proofs.YtaihgciokfkonaaDoor
set_option linter.unusedVariables false
open Go.ChangeShapes Go.WideShapes Go.ChangeAt Go.RowKit
theorem cutLast (D : List UInt8) : (tx D).extract 0 (D.length - 1) = tx D.dropLast := by
  apply ByteArray.ext
  rw [ByteArray.data_extract]
  show D.toArray.extract 0 (D.length - 1) = D.dropLast.toArray
  rw [List.dropLast_eq_take]
  simp only [List.extract_toArray, List.extract_eq_take_drop, Nat.sub_zero, List.drop_zero]
theorem one_row {W : World} {lo : Nat} {q : Option Addr} {c : Nat} {x : InsL} (h : W.ownsRow lo 38 3 (.slice q 1 c) 1 (flatI [x])) : ∃ g, q = some ⟨g, 0, none⟩ ∧ W.cell? ⟨g, 0, none⟩ = some (.int .i64 x.op) ∧ W.cell? ⟨g, 1, none⟩ = some (.int .i64 x.n) ∧ W.cell? ⟨g, 2, none⟩ = some (.string (tx x.s)) := by
  have hcl := fun g hg => World.ownsRow.cells (g := g) h hg
  rcases h.2 with ⟨e, -⟩ | ⟨g, cap, cur, e, -⟩
  · cases e
  · cases e
    refine ⟨g, rfl, ?_, ?_, ?_⟩
    · have := hcl g rfl 0 (.int .i64 x.op) rfl; rwa [add_zero_off] at this
    · have := hcl g rfl 1 (.int .i64 x.n) rfl; rwa [add_zero_off] at this
    · have := hcl g rfl 2 (.string (tx x.s)) rfl; rwa [add_zero_off] at this
def behT : List UInt8 := [59, 32, 98, 101, 104, 105, 110, 100, 32, 105, 116]
set_option maxHeartbeats 4000000 in
set_option maxRecDepth 20000 in
theorem asmLines_all (x : InsL) (W : World) (wx : x.wf) (hlb : Lb W.heap.size W) (hwd : Wd W.heap.size W) (hml : 3 < W.heap.size) : Calls Tryd.prog 7 #[x.val] W (SayB true W) := by
  have hav : Av W.heap.size W := ⟨hlb, hwd⟩
  obtain ⟨op, n, s⟩ := x
  unfold InsL.val
  have hal_ := (Chg.refl NoB W).alloc (.cells #[.int .i64 op, .int .i64 n, .string (tx s)] 38)
  have hb_ := heap_alloc_new W (.cells #[.int .i64 op, .int .i64 n, .string (tx s)] 38)
  obtain ⟨b1, hxb_⟩ : ∃ b, b = W.heap.size := ⟨_, rfl⟩
  obtain ⟨w1, hw_⟩ : ∃ w_, W.alloc (.cells #[.int .i64 op, .int .i64 n, .string (tx s)] 38) = w_ := ⟨_, rfl⟩
  have hz_ : w1.heap.size = b1 + 1 := by rw [← hw_, hxb_]; exact alloc_size _ _
  rw [hw_] at hal_ hb_
  rw [← hxb_] at hb_
  have Hw1 := Lib.hid hw_
  have Hx1 := Lib.hid hxb_
  have Ha1 := Lib.hid hal_
  have Hb1 := Lib.hid hb_
  have Hz1 := Lib.hid hz_
  clear hal_ hb_ hxb_ hw_ hz_
  have Hav := Lib.hid (hav.keep Ha1.out)
  have HAL := Lib.hid (alive_any W.heap.size w1 Hav.out hml)
  have Hml := Lib.hid hml
  have hz : (tx s).size = s.length := tx_size s
  have Hwx := Lib.hid wx
  clear hav hlb hwd hml wx
  go_enter Tryd.func7, Tryd.ntmps7
  go_upto_region 1 with fail
  rw [Hw1.out, ← Hx1.out]
  go_wp2_with fail
  refine HAL.out.mono ?_
  rintro e w2 ⟨rfl, hc2⟩
  have Hc2 := Lib.hid (Ha1.out.trans hc2)
  have Hb2 := Lib.hid (row_kept hc2 Hb1.out id)
  have Hav2 := Lib.hid (Hav.out.keep hc2)
  clear hc2
  obtain ⟨c0, c1, c2⟩ := var3 Hb2.out
  by_cases hbig : 4096 < s.length
  · have f0 : (4096 : Int) < (s.length : Int) := by omega
    go_wp2_with fail
    go_ret
    exact ⟨rfl, Hc2.out⟩
  · have f0 : ¬ ((4096 : Int) < (s.length : Int)) := by omega
    go_upto_region 5 with fail
    have hal_ := (Chg.refl NoB w2).alloc (.cells #[.int .i64 op, .int .i64 n, .string (tx s)] 38)
    have hb_ := heap_alloc_new w2 (.cells #[.int .i64 op, .int .i64 n, .string (tx s)] 38)
    obtain ⟨b3, hxb_⟩ : ∃ b, b = w2.heap.size := ⟨_, rfl⟩
    obtain ⟨w3, hw_⟩ : ∃ w_, w2.alloc (.cells #[.int .i64 op, .int .i64 n, .string (tx s)] 38) = w_ := ⟨_, rfl⟩
    have hz_ : w3.heap.size = b3 + 1 := by rw [← hw_, hxb_]; exact alloc_size _ _
    rw [hw_] at hal_ hb_
    rw [← hxb_] at hb_
    have Hw3 := Lib.hid hw_
    have Hx3 := Lib.hid hxb_
    have Ha3 := Lib.hid hal_
    have Hb3 := Lib.hid hb_
    have Hz3 := Lib.hid hz_
    clear hal_ hb_ hxb_ hw_ hz_
    have hins : InsS w3 (fun k => k < w3.heap.size) (.slice (some ⟨b3, 0, none⟩) 1 1) [⟨op, n, s⟩] b3 0 := by
      obtain ⟨d0, d1, d2⟩ := var3 Hb3.out
      refine ⟨⟨_, 1, rfl, Nat.le_refl _, by decide, fun _ => ⟨rfl, lt_of_block Hb3.out⟩⟩, fun i hi => ?_⟩
      obtain rfl : i = 0 := by simpa using hi
      exact ⟨Hwx.out, by simpa using d0, by simpa using d1, by simpa using d2⟩
    have HD := Lib.hid (dis_any [⟨op, n, s⟩] _ _ b3 0 W.heap.size w3 (Hav2.out.keep Ha3.out) (fun k h => h) (by simp) hins)
    have Hb13 := Lib.hid (row_kept Ha3.out Hb2.out id)
    have Hav3 := Lib.hid (Hav2.out.keep Ha3.out)
    have Hc3 := Lib.hid (Hc2.out.trans Ha3.out)
    clear hins
    go_wp2_with fail
    rw [Hw3.out, ← Hx3.out]
    refine HD.out.mono ?_
    rintro e w4 ⟨rfl, hc4⟩
    have Hb14 := Lib.hid (row_kept hc4 Hb13.out id)
    have Hav4 := Lib.hid (Hav3.out.keep hc4)
    have Hc4 := Lib.hid (Hc3.out.trans hc4)
    clear hc4 c0 c1 c2 HD
    by_cases h0 : (checkF [⟨op, n, s⟩]).2 = 0
    · have hd := disF_ok h0
      have hw1 : ∀ x ∈ [(⟨op, n, s⟩ : InsL)], x.wf := fun x hx => by rw [List.mem_singleton.1 hx]; exact Hwx.out
      have hlen := rows_len (c := 108) (p := [⟨op, n, s⟩]) [⟨op, n, s⟩] 0 (fun x hx => ⟨hw1 x hx, (check_ok h0).2.2.2 x hx⟩) (by simp)
      have hdl : (disF [⟨op, n, s⟩]).1.length ≤ 1000 := by rw [hd]; simpa using hlen
      have HA := Lib.hid (asm_note h0 hw1 behT (by decide) rfl (by rw [List.length_append]; have : behT.length = 11 := rfl; omega))
      have HB := Lib.hid (asm_short h0 hw1 (by omega))
      have Hpos := Lib.hid (show 0 < (disF [⟨op, n, s⟩]).1.length by rw [hd]; simp [rowsF, pieceF, joinN]; omega)
      have Hd := Lib.hid (show (disF [⟨op, n, s⟩]).2 = 0 by rw [hd])
      rw [Hd.out]
      generalize (disF [⟨op, n, s⟩]).1 = D at *
      clear hd hw1 hlen h0
      have hzD : (tx D).size = D.length := tx_size D
      have hz2 : ¬ 9223372036854775807 < D.length + 11 := by omega
      have hcat : tx D ++ ⟨#[59, 32, 98, 101, 104, 105, 110, 100, 32, 105, 116]⟩ = tx (D ++ behT) := txCat D behT
      have HC := Lib.hid (asm_any W.heap.size (D ++ behT) w4 Hav4.out Hml.out)
      rw [HA.out] at HC
      clear hbig f0
      go_wp2_with fail
      refine HC.out.mono ?_
      rintro e w5 ⟨hc5, v5, rfl, hrow5⟩
      obtain ⟨q5, cp5, rfl, -, -⟩ := row_shape hrow5
      have Hrow5 := Lib.hid hrow5
      have Hb15 := Lib.hid (row_kept hc5 Hb14.out id)
      have Hc5 := Lib.hid (Hc4.out.trans hc5)
      have HE := Lib.hid (asm_any W.heap.size D.dropLast w5 (Hav4.out.keep hc5) Hml.out)
      rw [HB.out] at HE
      have hD1 : (D.length : Int) - 1 = ((D.length - 1 : Nat) : Int) := by have := Hpos.out; omega
      have hD2 : ((D.length - 1 : Nat) : Int) ≤ (D.length : Int) := by omega
      have hD3 : (tx D).extract 0 (D.length - 1) = tx D.dropLast := cutLast D
      clear hc5 hrow5 hcat
      go_wp2_with fail
      refine HE.out.mono ?_
      rintro e w6 ⟨hc6, v6, rfl, hrow6⟩
      obtain ⟨q6, cp6, rfl, -, -⟩ := row_shape hrow6
      have hr5 := one_row (ownsRow_chg Hrow5.out hc6 fun _ _ => id)
      have hr6 := one_row hrow6
      obtain ⟨g5, rfl, p0, p1, p2⟩ := hr5
      obtain ⟨g6, rfl, q0, q1, q2⟩ := hr6
      obtain ⟨c0, c1, c2⟩ := var3 (row_kept hc6 Hb15.out id)
      have Hc6 := Lib.hid (Hc5.out.trans hc6)
      clear hc6 hrow6 hD1 hD2 hD3 HE HC
      go_wp2_with fail
      go_quiet (fail)
      have HcQ := Lib.hid (Hc6.out.drewN nq)
      go_wp2_with fail
      go_ret
      exact ⟨rfl, HcQ.out⟩
    · have hd : disF [⟨op, n, s⟩] = ([], (checkF [⟨op, n, s⟩]).2) := if_pos h0
      rw [hd]
      have h0b : ((checkF [⟨op, n, s⟩]).2 != 0) = true := by simp [h0]
      generalize (checkF [⟨op, n, s⟩]).2 = er at *
      have en := txQ []
      clear h0
      go_wp2_with fail
      go_ret
      exact ⟨rfl, Hc4.out⟩
/-FRAME-/
set_option maxRecDepth 100000 in
theorem asmLines_lifted (os : Os) (started : os.Started) (H : Type) (enc : TypeId × Value → H) :
    ReturnsInHanded {} Tryd.checked os 7 .any (fun w args => (Rows.asmLinesSpec.pre enc Tryd.prog Tryd.f7 [] false w args ∧ laidMetH Tryd.prog Rows.asmLinesRow.laid w) ∧ sizedMet enc Tryd.prog Tryd.f7 (OpenSpec.ofChange Rows.asmLinesSpec) false w args)
      (Rows.asmLinesSpec.post enc Tryd.prog Tryd.f7 false true false false) := by
  refine returns_both (C := Tryd.checked) (X := fun w _ => laidMetH Tryd.prog Rows.asmLinesRow.laid w) (fun _ _ _ hh h => h.of_heap hh) Tryd.own started (by kernel_rfl) Tryd.func7
    (ChangeSpec.witness_shaped (enc := enc) (C := Tryd.checked) (os := os) (X := fun w _ => laidMetH Tryd.prog Rows.asmLinesRow.laid w) false (World.laidAll Tryd.prog os Rows.asmLinesRow.laid) #[.agg #[.int .i64 0, .int .i64 0, .string ByteArray.empty]] 8 (World.laidAll_os _ _ _)
      (World.shaped_of_ZipB (by kernel_rfl) (by kernel_rfl)) (by kernel_rfl) (by kernel_rfl) (by kernel_rfl)
      (by rw [MakeChecks.laidMetH_plain _ _ _ (by kernel_rfl)]; exact laidMet_laidAll _ (by kernel_rfl) (by kernel_rfl))) ?_
  intro W base args ds gs before hval0 hW _ hsz hL hsh _
  have hval : ∀ (j : Nat) t v, Tryd.f7.params[j]? = some t → args[j]? = some v → Value.okWide Tryd.prog W .any base t v := hval0
  have hW' := hW
  obtain ⟨p, q, hA0, hV, rfl, _, _⟩ := hW
  have hA : DataW.TrodAll enc Tryd.prog W 0 (fun _ => true) true Tryd.f7.params.toList args.toList ds p := hA0
  have hsz1 : (DataW.weightsEach Tryd.prog (Tryd.f7.params.toList ++ Rows.asmLinesSpec.plain.varTypes Tryd.prog) (ds ++ gs)).all (· ≤ reachBytes) = true := hsz
  rw [Tryd.params7] at hA hval hsz1
  obtain ⟨v0, d0, rfl, rfl, h0⟩ := trodAll_one hA
  obtain ⟨rfl, rfl⟩ := trodVars_none hV
  obtain ⟨x0, rfl, wx0⟩ := open_ins (hval 0 38 v0 rfl rfl) h0 (fun m hm => of_decide_eq_true (List.all_eq_true.1 hsz1 m (DataW.weights_mem_each (j := 0) (t := 38) (d := d0) rfl rfl m hm)))
  simp only [List.append_nil] at hW'
  rw [MakeChecks.laidMetH_plain _ _ _ (by kernel_rfl)] at hL
  obtain ⟨hlb, hwd⟩ := lb8_of hL hsh
  have hml := ml_lt hsh
  clear hA0 hval0
  refine (asmLines_all x0 W wx0 hlb hwd hml).mono fun e W' ⟨he, hb⟩ => ?_
  subst he
  exact ⟨_, rfl, _, _, _, [], _, [], hW', trodAll_mk1 (shut_bool Tryd.underlying4 _), (trodAll_cons_mk (ins_stays h0 hb.below) trodAll_mk0), rfl, hb.below.frame _, fun h => by cases h⟩
theorem asmLines_holds : Rows.AsmLinesSaid :=
  OpenClaim.holds_of_wide 7 Tryd.f7 rfl rfl rfl rfl rfl rfl rfl ⟨rfl, rfl, rfl, rfl, rfl⟩ rfl rfl rfl rfl rfl (by kernel_rfl) Tryd.func7 (by kernel_rfl)
    (of_decide_eq_true (by kernel_rfl)) (by unfold Func.isWrapper; first | (rw [if_pos (by decide +kernel)]; kernel_rfl) | (rw [if_neg (by decide +kernel)]; exact ⟨rfl, rfl⟩))
    (fun os started H enc _ => asmLines_lifted os started H enc)
theorem asmLines_card : Rows.AsmLinesCardSaid :=
  Claim7.holds_tied_plain_at .later [] [.data, .data, .data, .data, .sentinel, .sentinel, .widerDeep, .pinned] true (true, "aa88663d2f6238ae8a16603652b38a6635f2e0c3772bf95b981f2b479d7df801") true asmLines_holds (fun _ h => by cases h) (by kernel_rfl) (fun _ h => by cases h) asmLines_row_tie rfl ⟨rfl, rfl⟩ (by kernel_rfl) rfl
    (fun f fn hf hfn => by
      obtain rfl : f = 7 := Option.some.inj ((show Tryd.prog.funcNamed "sapling/saplinglaw09.AsmLines" = some 7 by kernel_rfl).symm.trans hf) |>.symm
      obtain rfl : fn = Tryd.f7 := (Option.some.inj (Tryd.func7.symm.trans hfn)).symm
      exact ⟨by kernel_rfl, fun j t ht => by
        rw [Tryd.params7] at ht
        have hm : t ∈ [38] := by simpa using Array.mem_of_getElem? ht
        have hall : ([38].all fun u => !Tryd.prog.wantsStandIn u) = true := by kernel_rfl
        exact (show Tryd.prog.wantsStandIn t = false by simpa using List.all_eq_true.1 hall t hm)⟩)
    (by kernel_rfl)
#print axioms asmLines_card
end Go.Proofs.YtaihgciokfkonaaDoor
