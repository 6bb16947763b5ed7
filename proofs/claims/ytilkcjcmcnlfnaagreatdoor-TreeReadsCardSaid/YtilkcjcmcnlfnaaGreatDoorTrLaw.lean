/- What the document tells of trees, as the statements ask ahead of all: it is so. Conditions: the list of powers reads as the program's text lays it; the library's own variable holds some number. -/
import Derived.Test.YtilkcjcmcnlfnaaGreatDoorTrEnc
import Derived.Laws.EntriesVeiled
namespace Go.Proofs.YtilkcjcmcnlfnaaGreatDoor
set_option linter.unusedVariables false
open Go.ChangeShapes Go.WideShapes Go.ChangeAt Go.RowKit
theorem func_ne (w1 : World) (b : Nat) : (Sem.run Tryz.prog (binOp BinOp.eql 43 (Value.func (Fn.func 56) #[] #[Value.pointer (some { block := b, off := 0 })]) Value.nilFunc) w1) = .ok (.bool false) w1 := by
  unfold binOp Op.equal
  obtain ⟨d, hd⟩ : ∃ d, Op.maxDepth = d + 1 := ⟨_, rfl⟩
  rw [hd]
  clear hd
  simp only [Op.equalIn, Sem.run_bind, run_underlying Tryz.underlying43, Result.andThen_ok, Sem.run_pure]
/- what Names answers: a closure over a box that holds a closure over the copied files and the place -/
def NamesP (l : List FileL) (d : List UInt8) (w : World) (e : Ending) (w' : World) : Prop := Chg NoB w w' ∧ ∃ (b fb db : Nat) (fv : Value) (nb : Nat), e = .returned (.func (.func 56) #[] #[.pointer (some ⟨b, 0, none⟩)]) ∧
  w.heap.size ≤ b ∧ w.heap.size ≤ fb ∧ w.heap.size ≤ db ∧ w'.cell? ⟨b, 0, none⟩ = some (.func (.func 78) #[] #[.pointer (some ⟨fb, 0, none⟩), .pointer (some ⟨db, 0, none⟩)]) ∧ w'.cell? ⟨fb, 0, none⟩ = some fv ∧ w'.cell? ⟨db, 0, none⟩ = some (.string (tx d)) ∧ InpS w' (NewB w w') fv l nb 0
def BehindP (fv : Value) (d : List UInt8) (w : World) (e : Ending) (w' : World) : Prop := Chg NoB w w' ∧ ∃ fb db, e = .returned (.func (.func 78) #[] #[.pointer (some ⟨fb, 0, none⟩), .pointer (some ⟨db, 0, none⟩)]) ∧ w.heap.size ≤ fb ∧ w.heap.size ≤ db ∧ w'.cell? ⟨fb, 0, none⟩ = some fv ∧ w'.cell? ⟨db, 0, none⟩ = some (.string (tx d))
theorem behind_new (q : Option Addr) (n c : Nat) (d : List UInt8) (w : World) : Calls Tryz.prog 55 #[.slice q n c, .string (tx d)] w (BehindP (.slice q n c) d w) := by
  have hal := (Chg.refl NoB w).alloc (.cells #[.slice q n c] 22)
  have hb := heap_alloc_new w (.cells #[.slice q n c] 22)
  have hs1 := aSize w (.cells #[.slice q n c] 22)
  obtain ⟨w1, hw1⟩ : ∃ w1, w.alloc (.cells #[.slice q n c] 22) = w1 := ⟨_, rfl⟩
  rw [hw1] at hal hb hs1
  have hal2 := (Chg.refl NoB w1).alloc (.cells #[.string (tx d)] 9)
  have hb2 := heap_alloc_new w1 (.cells #[.string (tx d)] 9)
  rw [hs1] at hb2
  have hk1 := row_kept hal2 hb id
  have Hw1 := Lib.hid hw1
  have Hc := Lib.hid (hal.trans hal2)
  have Hk1 := Lib.hid hk1
  have Hb2 := Lib.hid hb2
  clear hal hb hs1 hw1 hal2 hb2 hk1
  go_enter Tryz.func55, Tryz.ntmps55
  go_wp2_with fail
  rw [Hw1.out]
  go_ret
  exact ⟨Hc.out, w.heap.size, w.heap.size + 1, rfl, Nat.le_refl _, by omega, var1 Hk1.out, var1 Hb2.out⟩
set_option maxHeartbeats 1000000 in
set_option maxRecDepth 20000 in
theorem names_new (l : List FileL) (hl : l.length ≤ 1048576) (S : Nat → Prop) (v : Value) (kb ko : Nat) (d : List UInt8) (w : World) (hs : InpS w S v l kb ko) : Calls Tryz.prog 27 #[.agg #[v], .string (tx d)] w (NamesP l d w) := by
  have Hs := Lib.hid hs
  obtain ⟨⟨q, c, rfl, -, -, -⟩, -⟩ := hs
  obtain ⟨n, hn⟩ : ∃ n, n = l.length := ⟨_, rfl⟩
  rw [← hn] at Hs hl ⊢
  have Hn := Lib.hid hn
  have hal := (Chg.refl NoB w).alloc (.cells #[.slice q n c] 26)
  have hb := heap_alloc_new w (.cells #[.slice q n c] 26)
  obtain ⟨tb, htb⟩ : ∃ b, b = w.heap.size := ⟨_, rfl⟩
  obtain ⟨w1, hw1⟩ : ∃ w1, w.alloc (.cells #[.slice q n c] 26) = w1 := ⟨_, rfl⟩
  rw [hw1] at hal hb
  rw [← htb] at hb
  have Hcl := Lib.hid (clone_any l S _ kb ko w1 (by rw [← hn]; exact hl) (Hs.out.keep hal fun _ _ => id))
  have Hw1 := Lib.hid hw1
  have Htb := Lib.hid htb
  have Hal := Lib.hid hal
  have f0 := var1 hb
  clear hn hal hb htb hw1
  go_enter Tryz.func27, Tryz.ntmps27
  go_upto_region 1 with fail
  rw [Hw1.out, ← Htb.out]
  go_wp2_with fail
  refine Hcl.out.mono ?_
  rintro e w2 ⟨hc2, v2, rfl, hrow2⟩
  obtain ⟨vq, vc, hv2, -, -⟩ := row_shape hrow2
  obtain ⟨nb, hns⟩ := InpS.of_row hrow2
  rw [← Hn.out] at hv2
  subst hv2
  have Hc2 := Lib.hid (Hal.out.trans hc2)
  have Hns := Lib.hid hns
  have Hbe := Lib.hid (behind_new vq n vc d w2)
  have Hz2 := Lib.hid Hal.out.size
  clear f0 hc2 hrow2 hns Hcl
  go_wp2_with fail
  refine Hbe.out.mono ?_
  rintro e w3 ⟨hc3, fb, db, rfl, hfb, hdb, g1, g2⟩
  have hal4 := (Chg.refl NoB w3).alloc (.cells #[.func (.func 78) #[] #[.pointer (some ⟨fb, 0, none⟩), .pointer (some ⟨db, 0, none⟩)]] 43)
  have hb4 := heap_alloc_new w3 (.cells #[.func (.func 78) #[] #[.pointer (some ⟨fb, 0, none⟩), .pointer (some ⟨db, 0, none⟩)]] 43)
  have Hc4 := Lib.hid (Hc2.out.trans (hc3.trans hal4))
  have Hns4 := Lib.hid (Hns.out.keep (hc3.trans hal4) fun _ _ => id)
  have G1 := Lib.hid (hal4.keep g1)
  have G2 := Lib.hid (hal4.keep g2)
  have Hb4 := Lib.hid hb4
  have Hsz := Lib.hid (show w.heap.size ≤ w2.heap.size ∧ w2.heap.size ≤ w3.heap.size from ⟨Hc2.out.size, hc3.size⟩)
  have Hfd := Lib.hid (And.intro hfb hdb)
  clear hc3 hfb hdb g1 g2 hal4 hb4 Hbe
  go_wp2_with fail
  go_ret
  have hz := Hsz.out
  have hz2 := Hz2.out
  have hfd := Hfd.out
  have hz4 := Hc4.out.size
  refine ⟨Hc4.out, w3.heap.size, fb, db, _, nb, rfl, by omega, by omega, by omega, var1 Hb4.out, G1.out, G2.out, Hns4.out.mono fun y hy => ?_⟩
  have h1 : w1.heap.size ≤ y := hy.1
  have h2 : y < w2.heap.size := hy.2
  have h3 : w3.heap.size ≤ (w3.alloc (.cells #[.func (.func 78) #[] #[.pointer (some ⟨fb, 0, none⟩), .pointer (some ⟨db, 0, none⟩)]] 43)).heap.size := by rw [aSize]; omega
  exact ⟨by omega, by omega⟩
theorem inpS_two (w : World) (a b c d : List UInt8) : InpS (w.alloc (.cells #[.string (tx a), .string (tx b), .string (tx c), .string (tx d)] 33)) (fun y => y = w.heap.size) (.slice (some ⟨w.heap.size, 0, none⟩) 2 2) [(a, b), (c, d)] w.heap.size 0 := by
  obtain ⟨h0, h1, h2, h3⟩ := var4 (heap_alloc_new w (.cells #[.string (tx a), .string (tx b), .string (tx c), .string (tx d)] 33))
  refine ⟨⟨_, 2, rfl, Nat.le_refl _, by decide, fun _ => ⟨rfl, rfl⟩⟩, fun i hi => ?_⟩
  match i, hi with
  | 0, _ => exact ⟨h0, h1⟩
  | 1, _ => exact ⟨h2, h3⟩
def fA : List FileL := [([98], [120]), ([97, 47, 99], [])]
def gA : List FileL := [([97, 47, 99], []), ([98], [120])]
def fB : List FileL := [([97], []), ([97, 47, 98], [])]
theorem fA_make : makeF fA = .ok gA := by kernel_rfl
theorem fB_make : makeF fB = .error 12 := by kernel_rfl
theorem gA_enc : encT gA = (tx [40, 40, 51, 58, 97, 47, 99, 48, 58, 41, 40, 49, 58, 98, 49, 58, 120, 41, 41], 0) := by kernel_rfl
theorem fA_w : ∀ x ∈ fA, x.1.length ≤ 1048576 ∧ x.2.length ≤ 1048576 := by decide
theorem fB_w : ∀ x ∈ fB, x.1.length ≤ 1048576 ∧ x.2.length ≤ 1048576 := by decide
theorem gA_w : ∀ x ∈ gA, x.1.length ≤ 131072 ∧ x.2.length ≤ 131072 := by decide
set_option maxHeartbeats 2000000 in
set_option maxRecDepth 20000 in
theorem talive_any (base : Nat) (w : World) (hlw : Lw base w) (hm : Pth.Ml w) : Calls Tryz.prog 9 #[] w fun e w' => e = .returned (.bool true) ∧ Chg NoB w w' := by
  have hn := names_new [] (by decide) NoB (.slice none 0 0) 0 0 [] w (InpS.nil _ _)
  have hn : Calls Tryz.prog 27 #[.agg #[.slice none 0 0], .string ⟨#[]⟩] w (NamesP [] [] w) := hn
  have Hnm := Lib.hid hn
  have hM1 : ∀ w', Chg NoB w w' → Calls Tryz.prog 11 #[.slice (some ⟨w'.heap.size, 0, none⟩) 2 2] (w'.alloc (.cells #[.string ⟨#[98]⟩, .string ⟨#[120]⟩, .string ⟨#[97, 47, 99]⟩, .string ⟨#[]⟩] 33)) (MakeP (.ok gA) (w'.alloc (.cells #[.string ⟨#[98]⟩, .string ⟨#[120]⟩, .string ⟨#[97, 47, 99]⟩, .string ⟨#[]⟩] 33))) := fun w' h => by
    have := make_any fA (by decide) fA_w _ _ _ _ _ (ml_keep hm (h.alloc _)) (inpS_two w' [98] [120] [97, 47, 99] [])
    rw [fA_make] at this
    exact this
  have hM2 : ∀ w', Chg NoB w w' → Calls Tryz.prog 11 #[.slice (some ⟨w'.heap.size, 0, none⟩) 2 2] (w'.alloc (.cells #[.string ⟨#[97]⟩, .string ⟨#[]⟩, .string ⟨#[97, 47, 98]⟩, .string ⟨#[]⟩] 33)) (MakeP (.error 12) (w'.alloc (.cells #[.string ⟨#[97]⟩, .string ⟨#[]⟩, .string ⟨#[97, 47, 98]⟩, .string ⟨#[]⟩] 33))) := fun w' h => by
    have := make_any fB (by decide) fB_w _ _ _ _ _ (ml_keep hm (h.alloc _)) (inpS_two w' [97] [] [97, 47, 98] [])
    rw [fB_make] at this
    exact this
  have HM1 := Lib.hid hM1
  have HM2 := Lib.hid hM2
  have Hlw := Lib.hid hlw
  have Hm := Lib.hid hm
  clear hn hM1 hM2 hlw hm
  go_enter Tryz.func9, Tryz.ntmps9
  go_wp2_with fail
  refine Hnm.out.mono ?_
  rintro e w1 ⟨hc1, b, fb, db, fv, nb, rfl, -, -, -, -, -, -, -⟩
  have Hc1 := Lib.hid hc1
  have hne := func_ne w1 b
  clear hc1 Hnm
  go_wp2_with fail
  clear hne
  refine (HM1.out w1 Hc1.out).mono ?_
  rintro e w2 ⟨hc2, v2, rfl, hrow2⟩
  obtain ⟨vq, vc, rfl, -, -⟩ := row_shape hrow2
  obtain ⟨mb, hns⟩ := InpS.of_row hrow2
  have hal3 := (Chg.refl NoB w2).alloc (.cells #[.slice vq gA.length vc] 26)
  have hb3 := heap_alloc_new w2 (.cells #[.slice vq gA.length vc] 26)
  have Hc3 := Lib.hid ((Hc1.out.alloc _).trans (hc2.trans hal3))
  have hen := tencode_any gA (by decide) gA_w _ _ mb 0 base (w2.alloc (.cells #[.slice vq gA.length vc] 26)) (Hlw.out.keep Hc3.out) (ml_keep Hm.out Hc3.out) (hns.keep hal3 fun _ _ => id)
  rw [gA_enc] at hen
  have Hen := Lib.hid hen
  have g0 := var1 hb3
  clear hc2 hrow2 hns hal3 hb3 hen
  go_upto_region 4 with fail
  go_wp2_with fail
  refine Hen.out.mono ?_
  rintro e w4 ⟨hc4, rfl⟩
  have Hc4 := Lib.hid (Hc3.out.trans hc4)
  clear hc4 g0 Hen
  go_wp2_with fail
  refine (HM2.out w4 Hc4.out).mono ?_
  rintro e w5 ⟨hc5, rfl⟩
  have Hc5 := Lib.hid ((Hc4.out.alloc _).trans (hc5.alloc (.cells #[.slice none 0 0] 26)))
  have htx : ((tx [40, 40, 51, 58, 97, 47, 99, 48, 58, 41, 40, 49, 58, 98, 49, 58, 120, 41, 41]).toList == [40, 40, 51, 58, 97, 47, 99, 48, 58, 41, 40, 49, 58, 98, 49, 58, 120, 41, 41]) = true := by rw [Lib.toList_data, tx_list]; rfl
  clear hc5
  go_wp2_with fail
  go_ret
  exact ⟨rfl, Hc5.out⟩
end Go.Proofs.YtilkcjcmcnlfnaaGreatDoor
