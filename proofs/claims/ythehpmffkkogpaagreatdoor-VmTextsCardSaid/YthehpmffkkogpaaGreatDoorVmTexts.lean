/- Proved: the statement VmTexts holds for every two texts and every two numbers. Conditions: the listed package variables read as the program's text lays them (the card ties them); nothing else. -/
import Derived.Test.YthehpmffkkogpaaGreatDoorVmOutF

namespace Go.Proofs.YthehpmffkkogpaaGreatDoor
set_option linter.unusedVariables false
open Go.ChangeShapes Go.WideShapes Go.ChangeAt Go.RowKit
open Go.ChangeMaps (open_string shut_string)
theorem row4_new {w : World} {b lo : Nat} {ps : List InsL} {cs : Array Value} (h : w.heap[b]? = some (.cells cs 46 (0, 0))) (hc : cs = (flatI ps).toArray) (hlo : lo ≤ b) (hl : ps.length ≤ maxLen) {k : Nat} (hk : k = ps.length) : w.ownsRow lo 46 3 (.slice (some ⟨b, 0, none⟩) k k) k (flatI ps) := by
  subst hk
  subst hc
  exact ⟨flatI_len ps, .inr ⟨b, ps.length, _, rfl, hlo, h, Nat.le_refl _, hl, by simp [flatI_len], by rw [List.toList_toArray]; exact List.take_of_length_le (by rw [flatI_len]; exact Nat.le_refl _)⟩⟩
theorem getA4 (t : List UInt8) : (getF [(([97] : List UInt8), t)] [97]).1 = t := by unfold getF; simp
theorem tail4_wf : ∀ x ∈ tailI, x.wf := by
  intro x hx
  simp only [tailI, List.mem_cons, List.not_mem_nil, or_false] at hx
  rcases hx with rfl | rfl | rfl | rfl <;> exact ⟨by decide, by decide, by decide⟩
theorem tP_wf {a b : List UInt8} (ha : a.length ≤ 256) (hb : b.length ≤ 256) : ∀ x ∈ tP a b, x.wf := by
  intro x hx
  simp only [tP, List.mem_cons, List.not_mem_nil, or_false] at hx
  rcases hx with rfl | rfl | rfl
  · exact ⟨(by decide : (-9223372036854775808 : Int) ≤ 3 ∧ (3 : Int) ≤ 9223372036854775807), (by decide : (-9223372036854775808 : Int) ≤ 0 ∧ (0 : Int) ≤ 9223372036854775807), by show a.length ≤ _; omega⟩
  · exact ⟨(by decide : (-9223372036854775808 : Int) ≤ 3 ∧ (3 : Int) ≤ 9223372036854775807), (by decide : (-9223372036854775808 : Int) ≤ 0 ∧ (0 : Int) ≤ 9223372036854775807), by show b.length ≤ _; omega⟩
  · exact ⟨by decide, by decide, by decide⟩
theorem app_wf {p q : List InsL} (hp : ∀ x ∈ p, x.wf) (hq : ∀ x ∈ q, x.wf) : ∀ x ∈ p ++ q, x.wf := fun x hx => by
  rcases List.mem_append.1 hx with h | h
  · exact hp x h
  · exact hq x h
theorem GrowI.of {lo : Nat} {v v' : Value} {ps : List InsL} {w w1 w' : World} (hal : Chg NoB w w1) (hr : w'.ownsRow lo 46 3 v' ps.length (flatI ps)) (hg : w1.grownBy w' v.ownBlock) (hp : v'.ownBlock = v.ownBlock ∨ v'.ownBlock = some w1.heap.size) : GrowI lo v ps v' w w' :=
  ⟨hr, (hal.mono fun _ _ h => h.elim : Chg (fun k => v.ownBlock = some k) w w1).grown hg fun k hk => .inl hk, by
    rcases hp with h | h
    · exact .inl h
    · exact .inr ⟨_, h, hal.size⟩⟩
theorem lit_inss (w : World) (ps : List InsL) (cs : Array Value) (hc : cs = (flatI ps).toArray) : ∀ j u, (flatI ps)[j]? = some u → (w.alloc (.cells cs 46)).cell? ((⟨w.heap.size, 0, none⟩ : Addr).add j) = some u := fun j u hj => by
  rw [add_zero_off, cell_of_row _ w.heap.size j _ _ (0, 0) (heap_alloc_new w _), hc, List.getElem?_toArray]
  exact hj
theorem one22_wf : ∀ x ∈ [(⟨22, 0, []⟩ : InsL)], x.wf := by
  intro x hx
  rw [List.mem_singleton.1 hx]
  exact ⟨by decide, by decide, by decide⟩
theorem str4_wf : ∀ x ∈ [strI], x.wf := by
  intro x hx
  rw [List.mem_singleton.1 hx]
  exact ⟨by decide, by decide, by decide⟩
theorem itoa_beq4 (n : Int) : ((tx (itoaL n)).toList == Lib.itoa n) = true := by simp [tx, itoaL]
theorem cx_wf {x2 y2 : Int} (hx : -9223372036854775808 ≤ x2 ∧ x2 ≤ 9223372036854775807) (hy : -9223372036854775808 ≤ y2 ∧ y2 ≤ 9223372036854775807) : ∀ x ∈ ([⟨2, x2, []⟩, ⟨2, y2, []⟩, ⟨23, 0, []⟩] : List InsL), x.wf := by
  intro x h
  simp only [List.mem_cons, List.not_mem_nil, or_false] at h
  rcases h with rfl | rfl | rfl
  · exact ⟨(by decide : (-9223372036854775808 : Int) ≤ 2 ∧ (2 : Int) ≤ 9223372036854775807), hx, Nat.zero_le _⟩
  · exact ⟨(by decide : (-9223372036854775808 : Int) ≤ 2 ∧ (2 : Int) ≤ 9223372036854775807), hy, Nat.zero_le _⟩
  · exact ⟨by decide, by decide, by decide⟩
theorem litB {w13 w14 : World} {x2 y2 : Int} (h : Chg (fun j => j = w13.heap.size) ((w13.alloc (.cells #[] 46)).drew.alloc (.cells #[.int .i64 2, .int .i64 x2, .string ⟨#[]⟩, .int .i64 2, .int .i64 y2, .string ⟨#[]⟩, .int .i64 23, .int .i64 0, .string ⟨#[]⟩] 46)) w14) : ∀ j u, (flatI [⟨2, x2, []⟩, ⟨2, y2, []⟩, ⟨23, 0, []⟩])[j]? = some u → w14.cell? ((⟨w13.heap.size + 1, 0, none⟩ : Addr).add j) = some u := fun j u hj => by
  have hz : (w13.alloc (.cells #[] 46)).drew.heap.size = w13.heap.size + 1 := alloc_size _ _
  have hr := heap_alloc_new (w13.alloc (.cells #[] 46)).drew (.cells #[.int .i64 2, .int .i64 x2, .string ⟨#[]⟩, .int .i64 2, .int .i64 y2, .string ⟨#[]⟩, .int .i64 23, .int .i64 0, .string ⟨#[]⟩] 46)
  rw [hz] at hr
  have hr2 := row_kept h hr (by omega)
  rw [add_zero_off, cell_of_row _ _ j _ _ (0, 0) hr2]
  show (flatI [⟨2, x2, []⟩, ⟨2, y2, []⟩, ⟨23, 0, []⟩]).toArray[j]? = some u
  rw [List.getElem?_toArray]; exact hj
theorem litC {w13 w14 : World} {x2 y2 : Int} (h : Chg (fun j => j = w13.heap.size + 1) ((w13.alloc (.cells #[.int .i64 2, .int .i64 x2, .string ⟨#[]⟩, .int .i64 2, .int .i64 y2, .string ⟨#[]⟩, .int .i64 23, .int .i64 0, .string ⟨#[]⟩] 46)).drew.alloc (.cells #[] 46)) w14) : ∀ j u, (flatI [⟨2, x2, []⟩, ⟨2, y2, []⟩, ⟨23, 0, []⟩])[j]? = some u → w14.cell? ((⟨w13.heap.size, 0, none⟩ : Addr).add j) = some u := fun j u hj => by
  have hr := heap_alloc_new w13 (.cells #[.int .i64 2, .int .i64 x2, .string ⟨#[]⟩, .int .i64 2, .int .i64 y2, .string ⟨#[]⟩, .int .i64 23, .int .i64 0, .string ⟨#[]⟩] 46)
  have hr1 := row_kept (((Chg.refl NoB (w13.alloc (.cells #[.int .i64 2, .int .i64 x2, .string ⟨#[]⟩, .int .i64 2, .int .i64 y2, .string ⟨#[]⟩, .int .i64 23, .int .i64 0, .string ⟨#[]⟩] 46))).drew).alloc (.cells #[] 46)) hr id
  have hr2 := row_kept h hr1 (by omega)
  rw [add_zero_off, cell_of_row _ _ j _ _ (0, 0) hr2]
  show (flatI [⟨2, x2, []⟩, ⟨2, y2, []⟩, ⟨23, 0, []⟩]).toArray[j]? = some u
  rw [List.getElem?_toArray]; exact hj
set_option maxHeartbeats 8000000 in
set_option maxRecDepth 20000 in
theorem vmTexts_all (x0 x1 : ByteArray) (x2 y2 : Int) (W : World) (wx0 : x0.size ≤ maxLen) (wx1 : x1.size ≤ maxLen) (wx2 : -9223372036854775808 ≤ x2 ∧ x2 ≤ 9223372036854775807) (wy2 : -9223372036854775808 ≤ y2 ∧ y2 ≤ 9223372036854775807) (hml : Pth.Ml W) (hlb : Lb W.heap.size W) (hwd : Wd W.heap.size W) :
    Calls Tryz.prog 10 #[.string x0, .string x1, .agg #[.int .i64 x2, .int .i64 y2]] W fun e w' => e = .returned (.bool true) ∧ Chg NoB W w' := by
  obtain ⟨a, rfl⟩ : ∃ a, x0 = tx a := ⟨_, (tx_back x0).symm⟩
  obtain ⟨b, rfl⟩ : ∃ a, x1 = tx a := ⟨_, (tx_back x1).symm⟩
  obtain ⟨al, hal⟩ : ∃ n, n = a.length := ⟨_, rfl⟩
  obtain ⟨bl', hbl⟩ : ∃ n, n = b.length := ⟨_, rfl⟩
  have hsa : (tx a).size = al := by rw [tx_size, hal]
  have hsb : (tx b).size = bl' := by rw [tx_size, hbl]
  rw [hsa] at wx0
  rw [hsb] at wx1
  have Hal := Lib.hid hal
  have Hbl := Lib.hid hbl
  have Hwd := Lib.hid hwd
  have Hlb := Lib.hid hlb
  have Hml := Lib.hid hml
  obtain ⟨i0, hi, hz0, hz1, hz2⟩ := info_parts insInfo
  have Hi := Lib.hid hi
  have Zi0 := Lib.hid hz0
  have Zi1 := Lib.hid hz1
  have Zi2 := Lib.hid hz2
  have hmx : maxLen = 9223372036854775807 := rfl
  clear hwd hlb hml hi hz0 hz1 hz2 hal hbl
  have hal_ := (Chg.refl NoB W).alloc (.cells #[.int .i64 x2, .int .i64 y2] 57)
  have hb_ := heap_alloc_new W (.cells #[.int .i64 x2, .int .i64 y2] 57)
  obtain ⟨cb, hxb_⟩ : ∃ b, b = W.heap.size := ⟨_, rfl⟩
  obtain ⟨w1, hw_⟩ : ∃ w_, W.alloc (.cells #[.int .i64 x2, .int .i64 y2] 57) = w_ := ⟨_, rfl⟩
  have hz_ : w1.heap.size = cb + 1 := by rw [← hw_, hxb_]; exact alloc_size _ _
  rw [hw_] at hal_ hb_
  rw [← hxb_] at hb_
  have Hw1 := Lib.hid hw_
  have Hx1 := Lib.hid hxb_
  have Ha1 := Lib.hid hal_
  have Hb1 := Lib.hid hb_
  have Hz1 := Lib.hid hz_
  clear hal_ hb_ hxb_ hw_ hz_
  go_enter Tryz.func10, Tryz.ntmps10
  go_upto_region 1 with fail
  rw [Hw1.out, ← Hx1.out]
  go_wp2_with fail
  refine (malive_any W.heap.size w1 (Hwd.out.keep Ha1.out) (Hlb.out.keep Ha1.out) (ml_keep Hml.out Ha1.out)).mono ?_
  rintro e w2 ⟨rfl, hc2⟩
  have Hc2 := Lib.hid (Ha1.out.trans hc2)
  have Hd2 := Lib.hid hc2
  clear hc2
  by_cases h0 : 256 < al
  · go_wp2_with fail
    go_ret
    exact ⟨rfl, Hc2.out⟩
  by_cases h1 : 256 < bl'
  · go_wp2_with fail
    go_ret
    exact ⟨rfl, Hc2.out⟩
  have Hla := Lib.hid (show a.length ≤ 256 by rw [← Hal.out]; omega)
  have Hlb2 := Lib.hid (show b.length ≤ 256 by rw [← Hbl.out]; omega)
  have hal_ := (Chg.refl NoB w2).alloc (.cells #[.int .i64 3, .int .i64 0, .string (tx a), .int .i64 3, .int .i64 0, .string (tx b), .int .i64 21, .int .i64 0, .string ⟨#[]⟩] 46)
  have hb_ := heap_alloc_new w2 (.cells #[.int .i64 3, .int .i64 0, .string (tx a), .int .i64 3, .int .i64 0, .string (tx b), .int .i64 21, .int .i64 0, .string ⟨#[]⟩] 46)
  obtain ⟨gb, hxb_⟩ : ∃ b, b = w2.heap.size := ⟨_, rfl⟩
  obtain ⟨w3, hw_⟩ : ∃ w_, w2.alloc (.cells #[.int .i64 3, .int .i64 0, .string (tx a), .int .i64 3, .int .i64 0, .string (tx b), .int .i64 21, .int .i64 0, .string ⟨#[]⟩] 46) = w_ := ⟨_, rfl⟩
  have hz_ : w3.heap.size = gb + 1 := by rw [← hw_, hxb_]; exact alloc_size _ _
  rw [hw_] at hal_ hb_
  rw [← hxb_] at hb_
  have Hw3 := Lib.hid hw_
  have Hx3 := Lib.hid hxb_
  have Ha3 := Lib.hid hal_
  have Hb3 := Lib.hid hb_
  have Hz3 := Lib.hid hz_
  clear hal_ hb_ hxb_ hw_ hz_
  have hal_ := (Chg.refl NoB w3).alloc (.cells #[] 46)
  have hb_ := heap_alloc_new w3 (.cells #[] 46)
  obtain ⟨zb, hxb_⟩ : ∃ b, b = w3.heap.size := ⟨_, rfl⟩
  obtain ⟨w4, hw_⟩ : ∃ w_, w3.alloc (.cells #[] 46) = w_ := ⟨_, rfl⟩
  have hz_ : w4.heap.size = zb + 1 := by rw [← hw_, hxb_]; exact alloc_size _ _
  rw [hw_] at hal_ hb_
  rw [← hxb_] at hb_
  have Hw4 := Lib.hid hw_
  have Hx4 := Lib.hid hxb_
  have Ha4 := Lib.hid hal_
  have Hb4 := Lib.hid hb_
  have Hz4 := Lib.hid hz_
  clear hal_ hb_ hxb_ hw_ hz_
  have hx4 : gb + 1 = zb := by rw [Hx4.out, Hz3.out]
  have Hg4 := Lib.hid (row_kept Ha4.out Hb3.out id)
  have Hgw := Lib.hid (show W.heap.size ≤ gb by have := Hx3.out; have := Hc2.out.size; omega)
  have HE4 := Lib.hid (row4_new (lo := W.heap.size) (ps := []) Hb4.out rfl (by have := Hgw.out; omega) (by decide) (k := 0) rfl)
  have HNew : Hid (∀ (w' : World), Chg NoB w3 w' → ∀ j u, (flatI (tP a b))[j]? = some u → w'.cell? ((⟨gb, 0, none⟩ : Addr).add j) = some u) := Lib.hid (fun w' h j u hj => by rw [add_zero_off, cell_of_row w' gb j _ _ (0, 0) (row_kept h Hb3.out id)]; show (flatI (tP a b)).toArray[j]? = some u; rw [List.getElem?_toArray]; exact hj)
  have Hc4 := Lib.hid (Hc2.out.trans (Ha3.out.trans Ha4.out))
  have Hd4 := Lib.hid (Hd2.out.trans (Ha3.out.trans Ha4.out))
  have hs4 := Lib.hid (Hc4.out.size)
  go_upto_region 6 with fail
  rw [← Hx3.out, Hw3.out]
  go_wp2_with (at_builtin; go_must (rw [← Hx4.out, Hw4.out]); go_must (refine wpList_append_at _ rfl _ _ 22 rfl W.heap.size 46 i0 (.agg #[.int .i64 0, .int .i64 0, .string ⟨#[]⟩]) 3 32 Tryz.underlying22 Hi.out Zi0.out Zi1.out Zi2.out rfl (by decide) (.slice (some ⟨zb, 0, none⟩) 0 0) 0 (flatI []) rfl HE4.out ⟨gb, 0, none⟩ 3 3 (flatI (tP a b)) rfl rfl (HNew.out _ Ha4.out) (flatI_one _) (by omega) (by omega) hs4.out ?_); intro v5 w5 hown5 hgr5 hpl5)
  have hc5 : Chg (fun j => j = zb) w4 w5 := (Chg.refl (fun j => j = zb) w4).grown hgr5 fun j hj => .inl (Option.some.inj hj).symm
  have hr5 : w5.ownsRow W.heap.size 46 3 v5 (tP a b).length (flatI (tP a b)) := hown5
  have hblk5 : ∀ j, v5.ownBlock = some j → zb ≤ j := fun j hj => by
    rcases hpl5 with h | h
    · rw [h] at hj; have e2 : zb = j := Option.some.inj hj; omega
    · rw [h] at hj; have e2 : w4.heap.size = j := Option.some.inj hj; have := Hz4.out; omega
  have Hc5 : Hid (Chg NoB w3 w5) := Lib.hid (Ha4.out.transR hc5 fun j hj e => by have h1 := Hz3.out; have e2 : j = zb := e; exact absurd hj (by omega))
  have Hblk5 := Lib.hid hblk5
  have HO := Lib.hid (out_any (tP a b) false W.heap.size v5 w5 (by have := hs4.out; have := hc5.size; omega) (by show 3 ≤ 1000; decide) hr5)
  clear hown5 hgr5 hpl5 hc5 hr5 hblk5
  go_wp2_with fail
  refine HO.out.mono ?_
  rintro e w6 ⟨v6, rfl, g6⟩
  have Hc6 : Hid (Chg NoB w3 w6) := Lib.hid (Hc5.out.transR g6.chg fun j hj e => by have h1 := Hblk5.out j e; have h2 := Hz3.out; exact absurd hj (by omega))
  have hr6 := g6.row
  simp only [Bool.false_eq_true, if_false, List.append_nil] at hr6
  obtain ⟨kb6, hs6⟩ := InsS.of_row hr6 fun i hi => app_wf (tP_wf Hla.out Hlb2.out) tail4_wf _ (List.getElem_mem hi)
  have Hf6 := Lib.hid (Hc2.out.trans (Ha3.out.trans Hc6.out))
  have HW := Lib.hid (wrote_any (tP a b ++ tailI) _ v6 kb6 0 W.heap.size w6 (Hwd.out.keep Hf6.out) (Hlb.out.keep Hf6.out) (ml_keep Hml.out Hf6.out) (by show 7 ≤ 131072; decide) hs6)
  have hrn := tP_run Hla.out Hlb2.out
  rw [hrn.1, hrn.2, getA4] at HW
  clear hr6 hs6 g6 hrn HO
  go_wp2_with fail
  refine HW.out.mono ?_
  rintro e w7 ⟨hc7, rfl⟩
  have Hc7 := Lib.hid (Hc6.out.trans hc7)
  clear hc7 HW
  have hcat : ((tx (a ++ b)).toList == (tx a ++ tx b).toList) = true := by rw [tx_cat]; exact beq_self_eq_true _
  go_upto_region 7 with fail
  have hal_ := (Chg.refl NoB w7).alloc (.cells #[] 46)
  have hb_ := heap_alloc_new w7 (.cells #[] 46)
  obtain ⟨zc, hxb_⟩ : ∃ b, b = w7.heap.size := ⟨_, rfl⟩
  obtain ⟨w8, hw_⟩ : ∃ w_, w7.alloc (.cells #[] 46) = w_ := ⟨_, rfl⟩
  have hz_ : w8.heap.size = zc + 1 := by rw [← hw_, hxb_]; exact alloc_size _ _
  rw [hw_] at hal_ hb_
  rw [← hxb_] at hb_
  have Hw8 := Lib.hid hw_
  have Hx8 := Lib.hid hxb_
  have Ha8 := Lib.hid hal_
  have Hb8 := Lib.hid hb_
  have Hz8 := Lib.hid hz_
  clear hal_ hb_ hxb_ hw_ hz_
  have hz8 := Lib.hid (show W.heap.size ≤ zc by have h1 := Hx8.out; have h2 := Hc7.out.size; have h3 := Hx3.out; have h4 := Hgw.out; have h5 := Hz3.out; omega)
  have HE8 := Lib.hid (row4_new (lo := W.heap.size) (ps := []) Hb8.out rfl hz8.out (by decide) (k := 0) rfl)
  have HN8 := Lib.hid (HNew.out w8 (Hc7.out.trans Ha8.out))
  have hs8 := Lib.hid (show W.heap.size ≤ w8.heap.size by have h1 := hz8.out; have h2 := Hz8.out; omega)
  go_upto_region 9 with fail
  go_wp2_with (at_builtin; first
    | (rw [← Hx8.out, Hw8.out]; refine wpList_append_at _ rfl _ _ 22 rfl W.heap.size 46 i0 (.agg #[.int .i64 0, .int .i64 0, .string ⟨#[]⟩]) 3 32 Tryz.underlying22 Hi.out Zi0.out Zi1.out Zi2.out rfl (by decide) (.slice (some ⟨zc, 0, none⟩) 0 0) 0 (flatI []) rfl HE8.out ⟨gb, 0, none⟩ 3 3 (flatI (tP a b)) rfl rfl HN8.out (flatI_one _) (by omega) (by omega) hs8.out ?_; intro v9 w9 hown9 hgr9 hpl9; go_must (have G9 : Hid (GrowI W.heap.size (.slice (some ⟨zc, 0, none⟩) 0 0) (tP a b) v9 w8 w9) := Lib.hid (GrowI.of (Chg.refl _ _) hown9 hgr9 hpl9)); have Hs9 := Lib.hid (G9.out.chg.size); clear hown9 hgr9 hpl9)
    | (go_must (refine wpList_append_at _ rfl _ _ 22 rfl W.heap.size 46 i0 (.agg #[.int .i64 0, .int .i64 0, .string ⟨#[]⟩]) 3 32 Tryz.underlying22 Hi.out Zi0.out Zi1.out Zi2.out rfl (by decide) v9 3 (flatI (tP a b)) rfl (ownsRow_chg G9.out.row ((Chg.refl NoB w9).alloc _) fun _ _ => id) ⟨w9.heap.size, 0, none⟩ 1 1 (flatI [⟨22, 0, []⟩]) rfl rfl (lit_inss w9 [⟨22, 0, []⟩] _ rfl) (flatI_one _) (by omega) (by omega) (by have h1 := hs8.out; have h2 := Hs9.out; have h3 := ((Chg.refl NoB w9).alloc (.cells #[.int .i64 22, .int .i64 0, .string ⟨#[]⟩] 46)).size; omega) ?_); intro v10 w10 hown10 hgr10 hpl10; go_must (have G10 : Hid (GrowI W.heap.size v9 (tP a b ++ [⟨22, 0, []⟩]) v10 w9 w10) := Lib.hid (GrowI.of ((Chg.refl NoB w9).alloc _) (by rw [flatI_app]; exact hown10) hgr10 hpl10)); have Hs10 := Lib.hid (G10.out.chg.size); clear hown10 hgr10 hpl10))
  refine (out_any (tP a b ++ [⟨22, 0, []⟩]) true W.heap.size v10 w10 (by have h1 := hs8.out; have h2 := Hs9.out; have h3 := Hs10.out; omega) (by show 4 ≤ 1000; decide) G10.out.row).mono ?_
  rintro e w11 ⟨v11, rfl, g11⟩
  simp only [if_true] at g11
  have G11 := Lib.hid ((G9.out.trans G10.out).trans g11)
  have Hc11 : Hid (Chg NoB w7 w11) := Lib.hid (Ha8.out.transR G11.out.chg fun j hj e => by have e2 : zc = j := Option.some.inj e; have h1 := Hx8.out; exact absurd hj (by omega))
  obtain ⟨kb11, hs11⟩ := InsS.of_row G11.out.row fun i hi => app_wf (app_wf (app_wf (tP_wf Hla.out Hlb2.out) one22_wf) str4_wf) tail4_wf _ (List.getElem_mem hi)
  have Hf11 := Lib.hid (Hc2.out.trans (Ha3.out.trans (Hc7.out.trans Hc11.out)))
  have HW11 := Lib.hid (wrote_any _ _ v11 kb11 0 W.heap.size w11 (Hwd.out.keep Hf11.out) (Hlb.out.keep Hf11.out) (ml_keep Hml.out Hf11.out) (by show 9 ≤ 131072; decide) hs11)
  have hrn := lP_run Hla.out Hlb2.out
  have el : tP a b ++ [⟨22, 0, []⟩] ++ [strI] ++ tailI = lP a b ++ tailI := rfl
  rw [el, hrn.1, hrn.2, getA4, ← Hal.out, ← Hbl.out] at HW11
  have HI := Lib.hid (fun (w' : World) (h : Chg NoB w11 w') => itoaW_any ((al : Int) + bl') (by omega) (by omega) W.heap.size w' ((Hlb.out.keep Hf11.out).keep h).lw)
  clear g11 hs11 hrn el G9 G10 G11
  go_wp2_with fail
  refine HW11.out.mono ?_
  rintro e w12 ⟨hc12, rfl⟩
  have Hc12 := Lib.hid (Hc7.out.trans (Hc11.out.trans hc12))
  have HI12 := Lib.hid (HI.out w12 hc12)
  have hbs := itoa_beq4 ((al : Int) + bl')
  clear hc12 HW11 HI
  go_upto_region 10 with fail
  go_wp2_with fail
  refine HI12.out.mono ?_
  rintro e w13 ⟨rfl, hc13⟩
  have Hc13 := Lib.hid (Hc12.out.trans hc13)
  clear hc13 HI12
  go_upto_region 12 with fail
  have Hk13 := Lib.hid (Hd2.out.trans (Ha3.out.trans Hc13.out))
  obtain ⟨c0, c1⟩ := var2 (row_kept Hk13.out Hb1.out id)
  have HS := Lib.hid (show ∀ w', Chg NoB w13 w' → w'.cell? ⟨cb, 0, none⟩ = some (.int .i64 x2) ∧ w'.cell? ⟨cb, 1, none⟩ = some (.int .i64 y2) from fun w' h => ⟨h.keep c0, h.keep c1⟩)
  have hlo13 := Lib.hid (show W.heap.size ≤ w13.heap.size from (Hc2.out.trans (Ha3.out.trans Hc13.out)).size)
  have HA := Lib.hid (show ∀ (w' : World) (z : Nat), w13.heap.size ≤ z → Chg NoB w13 w' → ∀ v14 w14, w14.ownsRow W.heap.size 46 3 v14 (0 + 3) (flatI [] ++ flatI (tP a b)) → w'.grownBy w14 (Value.slice (some ⟨z, 0, none⟩) 0 0).ownBlock → (v14.ownBlock = (Value.slice (some ⟨z, 0, none⟩) 0 0).ownBlock ∨ v14.ownBlock = some w'.heap.size) →
      w14.ownsRow W.heap.size 46 3 v14 3 (flatI (tP a b)) ∧ Chg NoB w13 w14 ∧ (∀ j, v14.ownBlock = some j → w13.heap.size ≤ j) ∧ Chg (fun j => j = z) w' w14 from fun w' z hz hc v14 w14 ho hg hp => by
    have hk : Chg (fun j => j = z) w' w14 := (Chg.refl (fun j => j = z) w').grown hg fun j hj => .inl (Option.some.inj hj).symm
    refine ⟨ho, hc.transR hk fun j hj e => by have e2 : j = z := e; exact absurd hj (by omega), fun j hj => ?_, hk⟩
    rcases hp with h | h
    · rw [h] at hj; have e2 : z = j := Option.some.inj hj; omega
    · rw [h] at hj; have e2 : w'.heap.size = j := Option.some.inj hj; have := hc.size; omega)
  have HB := Lib.hid (show ∀ (w' : World) (v14 : Value), Chg NoB w13 w' → (∀ j, v14.ownBlock = some j → w13.heap.size ≤ j) → ∀ v15 w15, w15.ownsRow W.heap.size 46 3 v15 (3 + 3) (flatI (tP a b) ++ flatI [⟨2, x2, []⟩, ⟨2, y2, []⟩, ⟨23, 0, []⟩]) → w'.grownBy w15 v14.ownBlock → (v15.ownBlock = v14.ownBlock ∨ v15.ownBlock = some w'.heap.size) →
      w15.ownsRow W.heap.size 46 3 v15 (cP a b x2 y2).length (flatI (cP a b x2 y2)) ∧ Chg NoB w13 w15 ∧ (∀ j, v15.ownBlock = some j → w13.heap.size ≤ j) from fun w' v14 hc hb v15 w15 ho hg hp => by
    refine ⟨by unfold cP; rw [flatI_app]; exact ho, hc.grown hg fun j hj => .inr (hb j hj), fun j hj => ?_⟩
    rcases hp with h | h
    · exact hb j (by rw [← h]; exact hj)
    · rw [h] at hj; have e2 : w'.heap.size = j := Option.some.inj hj; have := hc.size; omega)
  have hE1 : Chg NoB w13 (w13.alloc (.cells #[] 46)).drew := ((Chg.refl NoB w13).alloc _).drew
  have hE2 : Chg NoB w13 ((w13.alloc (.cells #[] 46)).drew.alloc (.cells #[.int .i64 2, .int .i64 x2, .string ⟨#[]⟩, .int .i64 2, .int .i64 y2, .string ⟨#[]⟩, .int .i64 23, .int .i64 0, .string ⟨#[]⟩] 46)) := hE1.alloc _
  have hE3 : Chg NoB w13 (w13.alloc (.cells #[.int .i64 2, .int .i64 x2, .string ⟨#[]⟩, .int .i64 2, .int .i64 y2, .string ⟨#[]⟩, .int .i64 23, .int .i64 0, .string ⟨#[]⟩] 46)).drew := ((Chg.refl NoB w13).alloc _).drew
  have hE4 : Chg NoB w13 ((w13.alloc (.cells #[.int .i64 2, .int .i64 x2, .string ⟨#[]⟩, .int .i64 2, .int .i64 y2, .string ⟨#[]⟩, .int .i64 23, .int .i64 0, .string ⟨#[]⟩] 46)).drew.alloc (.cells #[] 46)) := hE3.alloc _
  have hS0 := HS.out _ (Chg.refl NoB w13).drew
  have hS1 := HS.out _ hE1
  have hS2 := HS.out _ hE2
  have hS3 := HS.out _ hE3
  have hS4 := HS.out _ hE4
  have hS2b : ((w13.alloc (.cells #[] 46)).alloc (.cells #[.int .i64 2, .int .i64 x2, .string ⟨#[]⟩, .int .i64 2, .int .i64 y2, .string ⟨#[]⟩, .int .i64 23, .int .i64 0, .string ⟨#[]⟩] 46)).drew.cell? ⟨cb, 0, none⟩ = some (.int .i64 x2) ∧ ((w13.alloc (.cells #[] 46)).alloc (.cells #[.int .i64 2, .int .i64 x2, .string ⟨#[]⟩, .int .i64 2, .int .i64 y2, .string ⟨#[]⟩, .int .i64 23, .int .i64 0, .string ⟨#[]⟩] 46)).drew.cell? ⟨cb, 1, none⟩ = some (.int .i64 y2) := hS2
  have hS4b : ((w13.alloc (.cells #[.int .i64 2, .int .i64 x2, .string ⟨#[]⟩, .int .i64 2, .int .i64 y2, .string ⟨#[]⟩, .int .i64 23, .int .i64 0, .string ⟨#[]⟩] 46)).alloc (.cells #[] 46)).drew.cell? ⟨cb, 0, none⟩ = some (.int .i64 x2) ∧ ((w13.alloc (.cells #[.int .i64 2, .int .i64 x2, .string ⟨#[]⟩, .int .i64 2, .int .i64 y2, .string ⟨#[]⟩, .int .i64 23, .int .i64 0, .string ⟨#[]⟩] 46)).alloc (.cells #[] 46)).drew.cell? ⟨cb, 1, none⟩ = some (.int .i64 y2) := hS4
  have HR1 := Lib.hid (row4_new (lo := W.heap.size) (ps := []) (w := (w13.alloc (.cells #[] 46)).drew) (b := w13.heap.size) (heap_alloc_new w13 (.cells #[] 46)) rfl hlo13.out (by decide) (k := 0) rfl)
  have HR2 := Lib.hid (ownsRow_chg HR1.out ((Chg.refl NoB _).alloc (.cells #[.int .i64 2, .int .i64 x2, .string ⟨#[]⟩, .int .i64 2, .int .i64 y2, .string ⟨#[]⟩, .int .i64 23, .int .i64 0, .string ⟨#[]⟩] 46)) fun _ _ => id)
  have hsz3 : (w13.alloc (.cells #[.int .i64 2, .int .i64 x2, .string ⟨#[]⟩, .int .i64 2, .int .i64 y2, .string ⟨#[]⟩, .int .i64 23, .int .i64 0, .string ⟨#[]⟩] 46)).drew.heap.size = w13.heap.size + 1 := alloc_size _ _
  have HR4 := Lib.hid (row4_new (lo := W.heap.size) (ps := []) (w := (w13.alloc (.cells #[.int .i64 2, .int .i64 x2, .string ⟨#[]⟩, .int .i64 2, .int .i64 y2, .string ⟨#[]⟩, .int .i64 23, .int .i64 0, .string ⟨#[]⟩] 46)).drew.alloc (.cells #[] 46)) (b := w13.heap.size + 1) (by rw [← hsz3]; exact heap_alloc_new _ (.cells #[] 46)) rfl (by have := hlo13.out; omega) (by decide) (k := 0) rfl)
  have HN1 := Lib.hid (HNew.out _ (Hc13.out.trans hE1))
  have HN2 := Lib.hid (HNew.out _ (Hc13.out.trans hE2))
  have HN4 := Lib.hid (HNew.out _ (Hc13.out.trans hE4))
  have HCP := Lib.hid (show ∀ (w' : World) (v : Value), w'.ownsRow W.heap.size 46 3 v (cP a b x2 y2 ++ (if false = true then [strI] else []) ++ tailI).length (flatI (cP a b x2 y2 ++ (if false = true then [strI] else []) ++ tailI)) → w'.ownsRow W.heap.size 46 3 v (cP a b x2 y2 ++ tailI).length (flatI (cP a b x2 y2 ++ tailI)) from fun w' v h => by simpa using h)
  have HCW := Lib.hid (show ∀ x ∈ cP a b x2 y2 ++ tailI, x.wf from app_wf (app_wf (tP_wf Hla.out Hlb2.out) (cx_wf wx2 wy2)) tail4_wf)
  obtain ⟨rt, hrt⟩ : ∃ z, z = (getF (runL (cP a b x2 y2 ++ tailI) []) [97]).1 := ⟨_, rfl⟩
  obtain ⟨ry, hry⟩ : ∃ z, z = runE (cP a b x2 y2 ++ tailI) [] := ⟨_, rfl⟩
  have HWR := Lib.hid (show ∀ (w' : World) (v : Value) (kb : Nat), Chg NoB w13 w' → ∀ (S : Nat → Prop), InsS w' S v (cP a b x2 y2 ++ tailI) kb 0 → Calls Tryz.prog 29 #[v] w' (fun e w'' => Chg NoB w' w'' ∧ e = .returned (.tuple #[.string (tx rt), .int .i64 ry])) from fun w' v kb hc S hs => by
    rw [hrt, hry]
    have hf := Hc2.out.trans (Ha3.out.trans (Hc13.out.trans hc))
    exact wrote_any _ S v kb 0 W.heap.size w' (Hwd.out.keep hf) (Hlb.out.keep hf) (ml_keep Hml.out hf) (by show 10 ≤ 131072; decide) hs)
  have Hrt := Lib.hid hrt
  have Hry := Lib.hid hry
  clear hrt hry
  have HE1 := Lib.hid hE1
  have HE2 := Lib.hid hE2
  have HE4 := Lib.hid hE4
  clear hE1 hE2 hE3 hE4 hsz3
  go_region_held3 (fun w' => w'.cell? ⟨cb, 0, none⟩ = some (.int .i64 x2) ∧ w'.cell? ⟨cb, 1, none⟩ = some (.int .i64 y2)) (first | with_reducible exact ⟨c0, c1⟩ | with_reducible exact hS14 | with_reducible exact hS14x | with_reducible exact hS15 | with_reducible exact hS16 | with_reducible exact hS17 | with_reducible exact hS0 | with_reducible exact hS1 | with_reducible exact hS2 | with_reducible exact hS3 | with_reducible exact hS2b | with_reducible exact hS4b | with_reducible exact hS4)
    (first
      | (refine step_append_at (by rfl) _ (.tmp 67) (.tmp 68) 22 (by rfl) W.heap.size 46 i0 (.agg #[.int .i64 0, .int .i64 0, .string ⟨#[]⟩]) 3 32 Tryz.underlying22 Hi.out Zi0.out Zi1.out Zi2.out rfl (by decide) (.slice (some ⟨w13.heap.size, 0, none⟩) 0 0) 0 (flatI []) (by rfl) HR1.out ⟨gb, 0, none⟩ 3 3 (flatI (tP a b)) (by rfl) rfl HN1.out (flatI_one _) (by omega) (by omega) (Nat.le_trans hlo13.out HE1.out.size) ?_; intro v14 w14 hown14 hgr14 hpl14; obtain ⟨ho14, hc14, hb14, hk14⟩ := HA.out _ _ (Nat.le_refl _) HE1.out _ _ hown14 hgr14 hpl14; have hS14 := HS.out _ hc14; have hS14x := HS.out _ (hc14.alloc (.cells #[.int .i64 2, .int .i64 x2, .string ⟨#[]⟩, .int .i64 2, .int .i64 y2, .string ⟨#[]⟩, .int .i64 23, .int .i64 0, .string ⟨#[]⟩] 46)); have Ho14 := Lib.hid ho14; have Hc14 := Lib.hid hc14; have Hb14 := Lib.hid hb14; have Hk14 := Lib.hid hk14; clear hown14 hgr14 hpl14 ho14 hc14 hb14 hk14)
      | (refine step_append_at (by rfl) _ (.tmp 67) (.tmp 68) 22 (by rfl) W.heap.size 46 i0 (.agg #[.int .i64 0, .int .i64 0, .string ⟨#[]⟩]) 3 32 Tryz.underlying22 Hi.out Zi0.out Zi1.out Zi2.out rfl (by decide) (.slice (some ⟨w13.heap.size, 0, none⟩) 0 0) 0 (flatI []) (by rfl) HR2.out ⟨gb, 0, none⟩ 3 3 (flatI (tP a b)) (by rfl) rfl HN2.out (flatI_one _) (by omega) (by omega) (Nat.le_trans hlo13.out HE2.out.size) ?_; intro v14 w14 hown14 hgr14 hpl14; obtain ⟨ho14, hc14, hb14, hk14⟩ := HA.out _ _ (Nat.le_refl _) HE2.out _ _ hown14 hgr14 hpl14; have hS14 := HS.out _ hc14; have hS14x := HS.out _ (hc14.alloc (.cells #[.int .i64 2, .int .i64 x2, .string ⟨#[]⟩, .int .i64 2, .int .i64 y2, .string ⟨#[]⟩, .int .i64 23, .int .i64 0, .string ⟨#[]⟩] 46)); have Ho14 := Lib.hid ho14; have Hc14 := Lib.hid hc14; have Hb14 := Lib.hid hb14; have Hk14 := Lib.hid hk14; clear hown14 hgr14 hpl14 ho14 hc14 hb14 hk14)
      | (refine step_append_at (by rfl) _ (.tmp 67) (.tmp 68) 22 (by rfl) W.heap.size 46 i0 (.agg #[.int .i64 0, .int .i64 0, .string ⟨#[]⟩]) 3 32 Tryz.underlying22 Hi.out Zi0.out Zi1.out Zi2.out rfl (by decide) (.slice (some ⟨w13.heap.size + 1, 0, none⟩) 0 0) 0 (flatI []) (by rfl) HR4.out ⟨gb, 0, none⟩ 3 3 (flatI (tP a b)) (by rfl) rfl HN4.out (flatI_one _) (by omega) (by omega) (Nat.le_trans hlo13.out HE4.out.size) ?_; intro v14 w14 hown14 hgr14 hpl14; obtain ⟨ho14, hc14, hb14, hk14⟩ := HA.out _ _ (Nat.le_succ _) HE4.out _ _ hown14 hgr14 hpl14; have hS14 := HS.out _ hc14; have hS14x := HS.out _ (hc14.alloc (.cells #[.int .i64 2, .int .i64 x2, .string ⟨#[]⟩, .int .i64 2, .int .i64 y2, .string ⟨#[]⟩, .int .i64 23, .int .i64 0, .string ⟨#[]⟩] 46)); have Ho14 := Lib.hid ho14; have Hc14 := Lib.hid hc14; have Hb14 := Lib.hid hb14; have Hk14 := Lib.hid hk14; clear hown14 hgr14 hpl14 ho14 hc14 hb14 hk14)
      | (refine step_append_at (by rfl) _ (.tmp 69) (.tmp 77) 22 (by rfl) W.heap.size 46 i0 (.agg #[.int .i64 0, .int .i64 0, .string ⟨#[]⟩]) 3 32 Tryz.underlying22 Hi.out Zi0.out Zi1.out Zi2.out rfl (by decide) v14 3 (flatI (tP a b)) (by rfl) (ownsRow_chg Ho14.out ((Chg.refl NoB w14).alloc (.cells #[.int .i64 2, .int .i64 x2, .string ⟨#[]⟩, .int .i64 2, .int .i64 y2, .string ⟨#[]⟩, .int .i64 23, .int .i64 0, .string ⟨#[]⟩] 46)) fun _ _ => id) ⟨w14.heap.size, 0, none⟩ 3 3 (flatI [⟨2, x2, []⟩, ⟨2, y2, []⟩, ⟨23, 0, []⟩]) (by rfl) rfl (lit_inss w14 [⟨2, x2, []⟩, ⟨2, y2, []⟩, ⟨23, 0, []⟩] _ rfl) (flatI_one _) (by omega) (by omega) (Nat.le_trans hlo13.out (Hc14.out.alloc (.cells #[.int .i64 2, .int .i64 x2, .string ⟨#[]⟩, .int .i64 2, .int .i64 y2, .string ⟨#[]⟩, .int .i64 23, .int .i64 0, .string ⟨#[]⟩] 46)).size) ?_; intro v15 w15 hown15 hgr15 hpl15; obtain ⟨ho15, hc15, hb15⟩ := HB.out _ _ (Hc14.out.alloc (.cells #[.int .i64 2, .int .i64 x2, .string ⟨#[]⟩, .int .i64 2, .int .i64 y2, .string ⟨#[]⟩, .int .i64 23, .int .i64 0, .string ⟨#[]⟩] 46)) Hb14.out _ _ hown15 hgr15 hpl15; have hS15 := HS.out _ hc15; have Ho15 := Lib.hid ho15; have Hc15 := Lib.hid hc15; have Hb15 := Lib.hid hb15; clear hown15 hgr15 hpl15 ho15 hc15 hb15)
      | (refine step_append_at (by rfl) _ (.tmp 69) (.tmp 77) 22 (by rfl) W.heap.size 46 i0 (.agg #[.int .i64 0, .int .i64 0, .string ⟨#[]⟩]) 3 32 Tryz.underlying22 Hi.out Zi0.out Zi1.out Zi2.out rfl (by decide) v14 3 (flatI (tP a b)) (by rfl) Ho14.out ⟨w13.heap.size + 1, 0, none⟩ 3 3 (flatI [⟨2, x2, []⟩, ⟨2, y2, []⟩, ⟨23, 0, []⟩]) (by rfl) rfl (litB Hk14.out) (flatI_one _) (by omega) (by omega) (Nat.le_trans hlo13.out Hc14.out.size) ?_; intro v15 w15 hown15 hgr15 hpl15; obtain ⟨ho15, hc15, hb15⟩ := HB.out _ _ Hc14.out Hb14.out _ _ hown15 hgr15 hpl15; have hS15 := HS.out _ hc15; have Ho15 := Lib.hid ho15; have Hc15 := Lib.hid hc15; have Hb15 := Lib.hid hb15; clear hown15 hgr15 hpl15 ho15 hc15 hb15)
      | (refine step_append_at (by rfl) _ (.tmp 69) (.tmp 77) 22 (by rfl) W.heap.size 46 i0 (.agg #[.int .i64 0, .int .i64 0, .string ⟨#[]⟩]) 3 32 Tryz.underlying22 Hi.out Zi0.out Zi1.out Zi2.out rfl (by decide) v14 3 (flatI (tP a b)) (by rfl) Ho14.out ⟨w13.heap.size, 0, none⟩ 3 3 (flatI [⟨2, x2, []⟩, ⟨2, y2, []⟩, ⟨23, 0, []⟩]) (by rfl) rfl (litC Hk14.out) (flatI_one _) (by omega) (by omega) (Nat.le_trans hlo13.out Hc14.out.size) ?_; intro v15 w15 hown15 hgr15 hpl15; obtain ⟨ho15, hc15, hb15⟩ := HB.out _ _ Hc14.out Hb14.out _ _ hown15 hgr15 hpl15; have hS15 := HS.out _ hc15; have Ho15 := Lib.hid ho15; have Hc15 := Lib.hid hc15; have Hb15 := Lib.hid hb15; clear hown15 hgr15 hpl15 ho15 hc15 hb15)
      | (go_at_call 30; refine (out_any (cP a b x2 y2) false W.heap.size v15 w15 (Nat.le_trans hlo13.out Hc15.out.size) (by show 6 ≤ 1000; decide) Ho15.out).mono ?_; rintro e w16 ⟨v16, rfl, g16⟩; have hc16 : Chg NoB w13 w16 := Hc15.out.transR g16.chg (fun j hj e => absurd hj (by have := Hb15.out j e; omega)); have hS16 := HS.out _ hc16; have Hc16 := Lib.hid hc16; have G16 := Lib.hid g16.row; clear hc16 g16)
      | (go_at_call 29; obtain ⟨kb16, hs16⟩ := InsS.of_row (HCP.out _ _ G16.out) (fun i hi => HCW.out _ (List.getElem_mem hi)); have HW16 := HWR.out w16 v16 kb16 Hc16.out _ hs16; refine HW16.mono ?_; rintro e w17 ⟨hc17, rfl⟩; have hS17 := HS.out _ (Hc16.out.trans hc17); have Hc17 := Lib.hid (Hc16.out.trans hc17); clear hc17 hs16 HW16))
  all_goals
    obtain ⟨d0, d1⟩ := HS.out _ Hc17.out
    have Hcf := Lib.hid (Hc2.out.trans (Ha3.out.trans (Hc13.out.trans Hc17.out)))
    have hrun := cP_run Hla.out Hlb2.out x2 y2
    have hlab : ((a ++ b).length : Int) = (al : Int) + bl' := by rw [List.length_append, ← Hal.out, ← Hbl.out]; rfl
    rw [hlab, ← Hry.out] at hrun
    have Hrun := Lib.hid hrun
    have Hlab := Lib.hid hlab
    clear hrun hlab hS0 hS1 hS2 hS3 hS4 hS2b hS4b hS14 hS14x hS15 hS16 hS17 c0 c1 hcat HA HB HWR HCP HCW
    by_cases p1 : x2 < 0
    · have e43 : ry = 43 := by have h := Hrun.out; rw [if_pos (.inl p1)] at h; exact h
      subst e43
      go_wp2_with fail
      go_ret
      exact ⟨rfl, Hcf.out⟩
    by_cases p2 : y2 < x2
    · have e43 : ry = 43 := by have h := Hrun.out; rw [if_pos (.inr (.inl p2))] at h; exact h
      subst e43
      go_wp2_with fail
      go_ret
      exact ⟨rfl, Hcf.out⟩
    by_cases p3 : (al : Int) + bl' < y2
    · have e43 : ry = 43 := by have h := Hrun.out; rw [if_pos (.inr (.inr p3))] at h; exact h
      subst e43
      go_wp2_with fail
      go_ret
      exact ⟨rfl, Hcf.out⟩
    have hgood : runL (cP a b x2 y2 ++ tailI) [] = [([97], cutT (a ++ b) x2 y2)] ∧ ry = 0 := by have h := Hrun.out; rw [if_neg (by rintro (h | h | h); exact p1 h; exact p2 h; exact p3 h)] at h; exact h
    have hrt2 : rt = cutT (a ++ b) x2 y2 := by rw [Hrt.out, hgood.1, getA4]
    obtain ⟨-, e0⟩ := hgood
    subst e0
    subst hrt2
    obtain ⟨an, rfl⟩ : ∃ n : Nat, x2 = n := ⟨x2.toNat, by omega⟩
    obtain ⟨bn, rfl⟩ : ∃ n : Nat, y2 = n := ⟨y2.toNat, by omega⟩
    have hab : an ≤ bn := by omega
    have hbt : bn ≤ al + bl' := by omega
    have hcut : (tx (a ++ b)).extract an bn = tx (cutT (a ++ b) an bn) := cut_tx (a ++ b) an bn hab (by have := Hlab.out; omega)
    have hcat2 := tx_cat a b
    have hsab : (tx (a ++ b)).size = al + bl' := by rw [tx_size]; have := Hlab.out; omega
    clear p1 p2 p3 Hrun
    go_wp2_with fail
    go_ret
    exact ⟨rfl, Hcf.out⟩
/-FRAME-/
set_option maxRecDepth 100000 in
theorem vmTexts_lifted (os : Os) (started : os.Started) (H : Type) (enc : TypeId × Value → H) :
    ReturnsInHanded {} Tryz.checked os 10 .any (fun w args => (Rows.vmTextsSpec.pre enc Tryz.prog Tryz.f10 [] false w args ∧ laidMetH Tryz.prog Rows.vmTextsRow.laid w) ∧ sizedMet enc Tryz.prog Tryz.f10 (OpenSpec.ofChange Rows.vmTextsSpec) false w args)
      (Rows.vmTextsSpec.post enc Tryz.prog Tryz.f10 false true false false) := by
  refine returns_both (C := Tryz.checked) (X := fun w _ => laidMetH Tryz.prog Rows.vmTextsRow.laid w) (fun _ _ _ hh h => h.of_heap hh) Tryz.own started (by kernel_rfl) Tryz.func10
    (ChangeSpec.witness_shaped (enc := enc) (C := Tryz.checked) (os := os) (X := fun w _ => laidMetH Tryz.prog Rows.vmTextsRow.laid w) false (World.laidAll Tryz.prog os Rows.vmTextsRow.laid) #[.string ByteArray.empty, .string ByteArray.empty, .agg #[.int .i64 0, .int .i64 0]] 8 (World.laidAll_os _ _ _)
      (World.shaped_of_ZipB (by kernel_rfl) (by kernel_rfl)) (by kernel_rfl) (by kernel_rfl) (by kernel_rfl)
      (by rw [MakeChecks.laidMetH_plain _ _ _ (by kernel_rfl)]; exact laidMet_laidAll _ (by kernel_rfl) (by kernel_rfl))) ?_
  intro W base args ds gs before hval0 hW _ hsz hL hsh _
  have hval : ∀ (j : Nat) t v, Tryz.f10.params[j]? = some t → args[j]? = some v → Value.okWide Tryz.prog W .any base t v := hval0
  have hW' := hW
  obtain ⟨p, q, hA0, hV, rfl, _, _⟩ := hW
  have hA : DataW.TrodAll enc Tryz.prog W 0 (fun _ => true) true Tryz.f10.params.toList args.toList ds p := hA0
  have hsz1 : (DataW.weightsEach Tryz.prog (Tryz.f10.params.toList ++ Rows.vmTextsSpec.plain.varTypes Tryz.prog) (ds ++ gs)).all (· ≤ reachBytes) = true := hsz
  rw [Tryz.params10] at hA hval hsz1
  obtain ⟨v0, v1, v2, d0, d1, d2, p0, p1, p2, rfl, rfl, rfl, h0, h1, h2⟩ := trodAll_three hA
  obtain ⟨rfl, rfl⟩ := trodVars_none hV
  obtain ⟨x0, rfl, rfl, rfl, wx0⟩ := open_string Tryz.underlying9 (hval 0 9 v0 rfl rfl) h0
  obtain ⟨x1, rfl, rfl, rfl, wx1⟩ := open_string Tryz.underlying9 (hval 1 9 v1 rfl rfl) h1
  obtain ⟨x2, y2, rfl, wx2, wy2⟩ := open_pair (hval 2 57 v2 rfl rfl) h2
  simp only [List.append_nil] at hW'
  rw [MakeChecks.laidMetH_plain _ _ _ (by kernel_rfl)] at hL
  have hml : Pth.Ml W := wml_of hsh
  obtain ⟨hlb, hwd⟩ := lb8_of hL hsh
  clear hA0 hval0
  refine (vmTexts_all x0 x1 x2 y2 W wx0 wx1 wx2 wy2 hml hlb hwd).mono fun e W' ⟨he, hb⟩ => ?_
  subst he
  exact ⟨_, rfl, _, _, _, [], _, [], hW', trodAll_mk1 (shut_bool Tryz.underlying4 _), (trodAll_cons_mk (shut_string Tryz.underlying9 wx0) (trodAll_cons_mk (shut_string Tryz.underlying9 wx1) (trodAll_cons_mk (pair_stays h2 hb.below) trodAll_mk0))), rfl, hb.below.frame _, fun h => by cases h⟩
theorem vmTexts_holds : Rows.VmTextsSaid :=
  OpenClaim.holds_of_wide 10 Tryz.f10 rfl rfl rfl rfl rfl rfl rfl ⟨rfl, rfl, rfl, rfl, rfl⟩ rfl rfl rfl rfl rfl (by kernel_rfl) Tryz.func10 (by kernel_rfl)
    (of_decide_eq_true (by kernel_rfl)) (by unfold Func.isWrapper; first | (rw [if_pos (by decide +kernel)]; kernel_rfl) | (rw [if_neg (by decide +kernel)]; exact ⟨rfl, rfl⟩))
    (fun os started H enc _ => vmTexts_lifted os started H enc)
theorem vmTexts_card : Rows.VmTextsCardSaid :=
  Claim7.holds_tied_plain_at .later [] [.data, .data, .data, .data, .sentinel, .sentinel, .widerDeep, .pinned] true (true, "ec86cb7f90a952613a297ea1a1848055ebca9cdb2e48697e77ccb43f8b788bff") true vmTexts_holds (fun _ h => by cases h) (by kernel_rfl) (fun _ h => by cases h) vmTexts_row_tie rfl ⟨rfl, rfl⟩ (by kernel_rfl) rfl
    (fun f fn hf hfn => by
      obtain rfl : f = 10 := Option.some.inj ((show Tryz.prog.funcNamed "sapling/saplinglaw10.VmTexts" = some 10 by kernel_rfl).symm.trans hf) |>.symm
      obtain rfl : fn = Tryz.f10 := (Option.some.inj (Tryz.func10.symm.trans hfn)).symm
      exact ⟨by kernel_rfl, fun j t ht => by
        rw [Tryz.params10] at ht
        have hm : t ∈ [9, 9, 57] := by simpa using Array.mem_of_getElem? ht
        have hall : ([9, 9, 57].all fun u => !Tryz.prog.wantsStandIn u) = true := by kernel_rfl
        exact (show Tryz.prog.wantsStandIn t = false by simpa using List.all_eq_true.1 hall t hm)⟩)
    (by kernel_rfl)
#print axioms vmTexts_card
end Go.Proofs.YthehpmffkkogpaaGreatDoor
