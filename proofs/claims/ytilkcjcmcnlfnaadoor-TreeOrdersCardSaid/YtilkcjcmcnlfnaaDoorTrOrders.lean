/- Proved: the statement TreeOrders holds for every list of files and every place in it. Conditions: the listed package variables read as the program's text lays them (the card ties them); nothing else. -/
import Derived.Test.YtilkcjcmcnlfnaaDoorTrFrame
import Derived.Test.YtilkcjcmcnlfnaaDoorTrSet
import Derived.IntWalk
namespace Go.Proofs.YtilkcjcmcnlfnaaDoor
set_option linter.unusedVariables false
open Go.ChangeShapes Go.WideShapes Go.ChangeAt Go.RowKit
open Go.ChangeMaps (open_string shut_string)
theorem flatP_drop : ∀ (xs : List FileL) (p : Nat), flatP (xs.drop p) = (flatP xs).drop (p * 2)
  | [], p => by simp [flatP]
  | x :: r, 0 => by simp
  | x :: r, p + 1 => by
    have e : (p + 1) * 2 = p * 2 + 1 + 1 := by omega
    rw [List.drop_succ_cons, flatP_drop r p, flatP, e, List.drop_succ_cons, List.drop_succ_cons]
theorem flatP_take : ∀ (xs : List FileL) (p : Nat), flatP (xs.take p) = (flatP xs).take (p * 2)
  | [], p => by simp [flatP]
  | x :: r, 0 => by simp [flatP]
  | x :: r, p + 1 => by
    have e : (p + 1) * 2 = p * 2 + 1 + 1 := by omega
    rw [List.take_succ_cons, flatP, flatP_take r p, flatP, e, List.take_succ_cons, List.take_succ_cons]
theorem flat_cells {w : World} {S : Nat → Prop} {a : Addr} {n c : Nat} {l : List FileL} {kb ko : Nat} (hs : InpS w S (.slice (some a) n c) l kb ko) : ∀ (p j : Nat) (u : Value), (flatP l)[p * 2 + j]? = some u → w.cell? ((a.add (p * 2)).add j) = some u := fun p j u hj => by
  have hlt : p * 2 + j < (flatP l).length := (List.getElem?_eq_some_iff.1 hj).1
  rw [flatP_len] at hlt
  have hne : l ≠ [] := by rintro rfl; simp at hlt
  obtain ⟨q', c', e, _, _, h3⟩ := hs.sh
  cases e
  obtain ⟨ha, -⟩ := h3 hne
  cases ha
  have hd : (p * 2 + j) / 2 < l.length := by omega
  obtain ⟨g0, g1⟩ := flatP_at l ((p * 2 + j) / 2) hd
  obtain ⟨c0, c1⟩ := hs.at' ((p * 2 + j) / 2) hd
  rw [Go.WideShapes.add_plain, Go.WideShapes.add_plain, Nat.add_assoc]
  rcases Nat.mod_two_eq_zero_or_one (p * 2 + j) with hm | hm
  · have e : (p * 2 + j) / 2 * 2 = p * 2 + j := by omega
    rw [e] at g0 c0
    rw [g0] at hj
    cases hj
    exact c0
  · have e : (p * 2 + j) / 2 * 2 + 1 = p * 2 + j := by omega
    rw [e] at g1
    rw [Nat.add_assoc, e] at c1
    rw [g1] at hj
    cases hj
    exact c1
theorem row_cells2 {w : World} {base g n cap : Nat} {xs : List FileL} (h : w.ownsRow base 26 2 (.slice (some ⟨g, 0, none⟩) n cap) n (flatP xs)) (i : Nat) (hi : i < xs.length) : w.cell? ⟨g, i * 2, none⟩ = some (.string (tx xs[i].1)) ∧ w.cell? ⟨g, i * 2 + 1, none⟩ = some (.string (tx xs[i].2)) := by
  have hcl := World.ownsRow.cells (g := g) h rfl
  obtain ⟨g0, g1⟩ := flatP_at xs i hi
  exact ⟨by have := hcl _ _ g0; rwa [add_zero_off] at this, by have := hcl _ _ g1; rwa [add_zero_off] at this⟩
theorem row_free2 {w : World} {base g n cap : Nat} {xs : List Value} {t : TypeId} {z : Nat} (h : w.ownsRow base t z (.slice (some ⟨g, 0, none⟩) n cap) n xs) : ∀ j, w.frozen? ⟨g, j, none⟩ = false := by
  rcases h.2 with ⟨e, _⟩ | ⟨g', cap', cur, e, hb, hh, _⟩
  · cases e
  · cases e
    exact row_free hh
theorem row_addr {w : World} {base n cap : Nat} {q : Option Addr} {xs : List Value} {t : TypeId} {z : Nat} (h : w.ownsRow base t z (.slice q n cap) n xs) (hn : 0 < n) : ∃ g, q = some ⟨g, 0, none⟩ := by
  rcases h.2 with ⟨e, h0⟩ | ⟨g', cap', cur, e, _⟩
  · omega
  · cases e
    exact ⟨g', rfl⟩
set_option maxHeartbeats 16000000 in
set_option maxRecDepth 20000 in
theorem treeOrders_all (l : List FileL) (v : Value) (kb ko : Nat) (x : Int) (W : World) (hs : InpS W (OldB W) v l kb ko) (hr : Reach l) (wx : (Lit.int .i64 x).wf = true) (hlb : Lw W.heap.size W) (hml : Pth.Ml W) :
    Calls Tryd.prog 3 #[v, .int .i64 x] W fun e w' => e = .returned (.bool true) ∧ Chg NoB W w' := by
  have Hs := Lib.hid hs
  obtain ⟨⟨q, c, rfl, h1, h2, h3⟩, hat⟩ := hs
  obtain ⟨n, hn⟩ : ∃ n, n = l.length := ⟨_, rfl⟩
  rw [← hn] at Hs h1 ⊢
  have Hn := Lib.hid hn
  have Hr := Lib.hid hr
  have Hlb := Lib.hid hlb
  have Hml := Lib.hid hml
  have H3 := Lib.hid h3
  have hnr : n ≤ 140737488351232 := by rw [hn]; exact hr.1
  unfold maxLen at h2
  clear hn hr hlb hml h3 hat wx
  go_enter Tryd.func3, Tryd.ntmps3
  go_wp2_with fail
  refine (talive_any _ W Hlb.out Hml.out).mono ?_
  rintro e w1 ⟨rfl, hc1⟩
  have Hc1 := Lib.hid hc1
  have Hgr := Lib.hid (tgreat_any l Hr.out.1 Hr.out.2 _ _ kb ko w1 (Hs.out.keep hc1 fun _ _ => id))
  obtain ⟨g, hg⟩ : ∃ g, g = greatF l := ⟨_, rfl⟩
  rw [← hg] at Hgr
  have Hg := Lib.hid hg
  clear hc1 hg
  go_wp2_with fail
  refine Hgr.out.mono ?_
  rintro e w2 ⟨rfl, hc2⟩
  have Hc2 := Lib.hid (Hc1.out.trans hc2)
  clear hc2 Hgr
  cases g with
  | true =>
    go_wp2_with fail
    go_ret
    exact ⟨rfl, Hc2.out⟩
  | false =>
  by_cases hx0 : x < 0
  · go_wp2_with fail
    go_ret
    exact ⟨rfl, Hc2.out⟩
  by_cases hxn : (n : Int) < x
  · go_wp2_with fail
    go_ret
    exact ⟨rfl, Hc2.out⟩
  obtain ⟨p, rfl⟩ := Int.eq_ofNat_of_zero_le (show 0 ≤ x by omega)
  have hat1 : p ≤ n := by omega
  obtain ⟨hl, hw0⟩ := great_no Hg.out.symm
  have hw : ∀ x ∈ l, x.1.length ≤ 1048576 ∧ x.2.length ≤ 1048576 := fun x hx => by have := hw0 x hx; omega
  have hl2 : l.length ≤ 1048576 := by omega
  have hn2 : n ≤ 200 := by rw [Hn.out]; exact hl
  have Hl := Lib.hid hl2
  have Hw := Lib.hid hw
  have Hw0 := Lib.hid hw0
  have hlt : (p : Int) ≤ (n : Int) := by omega
  have hlc : (n : Int) ≤ (c : Int) := by omega
  have hac : (p : Int) ≤ (c : Int) := by omega
  have hxx : ¬ (p : Int) < 0 := by omega
  have hyy : ¬ (n : Int) < (p : Int) := by omega
  obtain ⟨lo, hlo⟩ : ∃ lo, lo = w2.heap.size := ⟨_, rfl⟩
  have Hlo := Lib.hid hlo
  obtain ⟨i0, hi, hz0, hz1, hz2⟩ := info_parts inpInfo
  have Hi := Lib.hid hi
  have Hz0 := Lib.hid hz0
  have Hz1 := Lib.hid hz1
  have Hz2 := Lib.hid hz2
  clear hw hl2 hl hw0 Hg hlo hi hz0 hz1 hz2
  go_upto_region 6 with fail
  cases q with
  | none =>
    have hl0 : l = [] := by
      by_cases h : l = []
      · exact h
      · obtain ⟨h, -⟩ := H3.out h; cases h
    obtain rfl : n = 0 := by rw [Hn.out, hl0]; rfl
    obtain rfl : p = 0 := by omega
    subst hl0
    have Hrow4 : Hid (w2.ownsRow lo 26 2 (.slice none 0 0) 0 (flatP [])) := Lib.hid (World.ownsRow_nil _ _ _ _)
    have Hc4 := Hc2
    have Hp4 : Hid (([] : List FileL).Perm []) := Lib.hid (List.Perm.refl _)
    go_wp2_with fail
    have hrow4 := Hrow4.out
    go_loopw [6] (fun i wr => ∃ (k : Nat) (xs : List FileL), k ≤ 0 + 1 ∧ i = .int .i64 k ∧ xs.Perm ([] : List FileL) ∧ wr.ownsRow lo 26 2 (.slice none 0 0) 0 (flatP xs) ∧ Chg NoB W wr) (fun i _ => 0 + 1 - (intOf i).toNat)
    case atStart => exact ⟨0, [], Nat.zero_le _, rfl, Hp4.out, Hrow4.out, Hc4.out⟩
    case round =>
      obtain ⟨k, xs, hk, rfl, hp, hrow, hch⟩ := hrel
      have Hp := Lib.hid hp
      have Hrow := Lib.hid hrow
      have Hch := Lib.hid hch
      have Hxl : Hid (xs.length = 0) := Lib.hid (by rw [hp.length_eq, ← Hn.out])
      clear hp hrow hch hrow4
      by_cases hlt : k + 1 < 0
      · exact absurd hlt (by omega)
      · have hne : ¬ ((k : Int) + 1 < (0 : Int)) := by omega
        have Hxl2 := Lib.hid (show xs.length ≤ 1048576 by rw [Hxl.out, Hn.out]; exact Hl.out)
        have Hxw : Hid (∀ x ∈ xs, x.1.length ≤ 1048576 ∧ x.2.length ≤ 1048576) := Lib.hid fun x hx => Hw.out x (Hp.out.mem_iff.1 hx)
        have hrowx : wr.ownsRow lo 26 2 (.slice none 0 0) xs.length (flatP xs) := by rw [Hxl.out]; exact Hrow.out
        obtain ⟨nb, hns⟩ := InpS.of_row hrowx
        have Hns := Lib.hid hns
        have Hmk1 := Lib.hid (fun w' (h : Chg NoB W w') => make_any ([] : List FileL) Hl.out Hw.out _ _ kb ko w' (ml_keep Hml.out h) (Hs.out.keep h fun _ _ => id))
        have Hmk2 := Lib.hid (fun w' (h : Chg NoB W w') (h2 : Chg NoB wr w') => make_any xs Hxl2.out Hxw.out _ _ nb 0 w' (ml_keep Hml.out h) (Hns.out.keep h2 fun _ _ => id))
        have hpm := make_perm Hp.out.symm
        clear hrowx hns
        obtain ⟨r1, hr1⟩ : ∃ r, r = makeF ([] : List FileL) := ⟨_, rfl⟩
        obtain ⟨r2, hr2⟩ : ∃ r, r = makeF xs := ⟨_, rfl⟩
        rw [← hr1] at Hmk1 hpm
        rw [← hr2] at Hmk2 hpm
        have Hr1 := Lib.hid hr1
        clear hr1 hr2 hlt
        rcases hpm with hpm | ⟨y, z, rfl, rfl, hy, hz⟩
        · subst hpm
          cases r1 with
          | error y =>
            unfold MakeP at Hmk1 Hmk2
            have Hen := Lib.hid (fun w' (h : Chg NoB W w') => tencode_any [] (by decide) (fun x hx => by cases hx) NoB (.slice none 0 0) 0 0 W.heap.size w' (Hlb.out.keep h) (ml_keep Hml.out h) (InpS.nil _ _))
            obtain ⟨ea, hea⟩ : ∃ a, a = (encT []).1 := ⟨_, rfl⟩
            obtain ⟨eb, heb⟩ : ∃ a, a = (encT []).2 := ⟨_, rfl⟩
            rw [← hea, ← heb] at Hen
            clear hea heb
            go_wp2_with fail
            refine (Hmk1.out _ Hch.out).mono ?_
            rintro e w5 ⟨hc5, rfl⟩
            have hal_ := (Chg.refl NoB w5).alloc (.cells #[.slice none 0 0] 28)
            have hb_ := heap_alloc_new w5 (.cells #[.slice none 0 0] 28)
            obtain ⟨tb, hxb_⟩ : ∃ b, b = w5.heap.size := ⟨_, rfl⟩
            obtain ⟨w6, hw_⟩ : ∃ w2, w5.alloc (.cells #[.slice none 0 0] 28) = w2 := ⟨_, rfl⟩
            rw [hw_] at hal_ hb_
            rw [← hxb_] at hb_
            have Hw5t := Lib.hid hw_
            have Hx5t := Lib.hid hxb_
            have Hal5t := Lib.hid hal_
            have Hb5t := Lib.hid hb_
            have Hc5t := Lib.hid (Hch.out.trans (hc5.trans hal_))
            have Hd5t := Lib.hid (hc5.trans hal_)
            clear hal_ hb_ hxb_ hw_ hc5
            go_upto_region 15 with fail
            rw [Hw5t.out, ← Hx5t.out]
            go_wp2_with fail
            refine (Hmk2.out _ Hc5t.out Hd5t.out).mono ?_
            rintro e w7 ⟨hc7, rfl⟩
            have hal_ := (Chg.refl NoB w7).alloc (.cells #[.slice none 0 0] 28)
            have hb_ := heap_alloc_new w7 (.cells #[.slice none 0 0] 28)
            obtain ⟨ub, hxb_⟩ : ∃ b, b = w7.heap.size := ⟨_, rfl⟩
            obtain ⟨w8, hw_⟩ : ∃ w2, w7.alloc (.cells #[.slice none 0 0] 28) = w2 := ⟨_, rfl⟩
            rw [hw_] at hal_ hb_
            rw [← hxb_] at hb_
            have Hw7t := Lib.hid hw_
            have Hx7t := Lib.hid hxb_
            have Hal7t := Lib.hid hal_
            have Hb7t := Lib.hid hb_
            have Hc7t := Lib.hid (Hc5t.out.trans (hc7.trans hal_))
            have Hb57 := Lib.hid (row_kept (hc7.trans hal_) Hb5t.out id)
            have Hal57 := Lib.hid (hc7.trans hal_)
            clear hal_ hb_ hxb_ hw_ hc7
            go_upto_region 16 with fail
            rw [Hw7t.out, ← Hx7t.out]
            have t0 := var1 Hb57.out
            have u0 := var1 Hb7t.out
            by_cases hy10 : y = 10
            · subst hy10
              go_wp2_with fail
              go_ret
              exact ⟨rfl, Hc7t.out⟩
            by_cases hy3 : y = 3
            · subst hy3
              go_wp2_with fail
              go_ret
              exact ⟨rfl, Hc7t.out⟩
            have b10 : (y == 10) = false := by rw [beq_eq_false_iff_ne]; exact hy10
            have b3 : (y == 3) = false := by rw [beq_eq_false_iff_ne]; exact hy3
            have byy : (y == y) = true := by simp
            have bss : (ea.toList == ea.toList) = true := by simp
            clear hy10 hy3
            go_wp2_with fail
            refine (Hen.out _ Hc7t.out).mono ?_
            rintro e w9 ⟨hc9, rfl⟩
            have Hc9 := Lib.hid (Hc7t.out.trans hc9)
            have u1 := hc9.keep u0
            clear hc9 t0 u0
            go_wp2_with fail
            refine (Hen.out _ Hc9.out).mono ?_
            rintro e w10 ⟨hc10, rfl⟩
            have Hc10 := Lib.hid (Hc9.out.trans hc10)
            clear hc10 u1
            go_wp2_with fail
            go_ret
            exact ⟨rfl, Hc10.out⟩
          | ok d =>
            have hdl : d.length = ([] : List FileL).length := (make_len Hr1.out.symm).1
            have hdw0 : ∀ x ∈ d, x.1.length ≤ 131072 ∧ x.2.length ≤ 131072 := fun x hx => Hw0.out x ((make_len Hr1.out.symm).2.mem_iff.1 hx)
            unfold MakeP at Hmk1 Hmk2
            obtain ⟨ea, hea⟩ : ∃ a, a = (encT d).1 := ⟨_, rfl⟩
            obtain ⟨eb, heb⟩ : ∃ a, a = (encT d).2 := ⟨_, rfl⟩
            have Hen := Lib.hid (fun w' (h : Chg NoB W w') S' v' kb' ko' (h2 : InpS w' S' v' d kb' ko') => tencode_any d (by rw [hdl]; exact Hl.out) hdw0 S' v' kb' ko' W.heap.size w' (Hlb.out.keep h) (ml_keep Hml.out h) h2)
            rw [← hea, ← heb] at Hen
            clear hea heb hdl hdw0
            go_wp2_with fail
            refine (Hmk1.out _ Hch.out).mono ?_
            rintro e w5 ⟨hc5, v5, rfl, hrow5⟩
            obtain ⟨vq5, vc5, hv5, -, -⟩ := row_shape hrow5
            obtain ⟨nb5, hns5⟩ := InpS.of_row hrow5
            obtain ⟨dl, hdl⟩ : ∃ m, m = d.length := ⟨_, rfl⟩
            rw [← hdl] at hv5
            subst hv5
            have Hdl := Lib.hid hdl
            clear hdl
            have hal_ := (Chg.refl NoB w5).alloc (.cells #[.slice vq5 dl vc5] 28)
            have hb_ := heap_alloc_new w5 (.cells #[.slice vq5 dl vc5] 28)
            obtain ⟨tb, hxb_⟩ : ∃ b, b = w5.heap.size := ⟨_, rfl⟩
            obtain ⟨w6, hw_⟩ : ∃ w2, w5.alloc (.cells #[.slice vq5 dl vc5] 28) = w2 := ⟨_, rfl⟩
            rw [hw_] at hal_ hb_
            rw [← hxb_] at hb_
            have Hw5t := Lib.hid hw_
            have Hx5t := Lib.hid hxb_
            have Hal5t := Lib.hid hal_
            have Hb5t := Lib.hid hb_
            have Hc5t := Lib.hid (Hch.out.trans (hc5.trans hal_))
            have Hd5t := Lib.hid (hc5.trans hal_)
            clear hal_ hb_ hxb_ hw_ hc5
            have Hns5 := Lib.hid (hns5.keep Hal5t.out fun _ _ => id)
            clear hns5 hrow5
            go_upto_region 15 with fail
            rw [Hw5t.out, ← Hx5t.out]
            go_wp2_with fail
            refine (Hmk2.out _ Hc5t.out Hd5t.out).mono ?_
            rintro e w7 ⟨hc7, v7, rfl, hrow7⟩
            obtain ⟨vq7, vc7, hv7, -, -⟩ := row_shape hrow7
            obtain ⟨nb7, hns7⟩ := InpS.of_row hrow7
            rw [← Hdl.out] at hv7
            subst hv7
            have hal_ := (Chg.refl NoB w7).alloc (.cells #[.slice vq7 dl vc7] 28)
            have hb_ := heap_alloc_new w7 (.cells #[.slice vq7 dl vc7] 28)
            obtain ⟨ub, hxb_⟩ : ∃ b, b = w7.heap.size := ⟨_, rfl⟩
            obtain ⟨w8, hw_⟩ : ∃ w2, w7.alloc (.cells #[.slice vq7 dl vc7] 28) = w2 := ⟨_, rfl⟩
            rw [hw_] at hal_ hb_
            rw [← hxb_] at hb_
            have Hw7t := Lib.hid hw_
            have Hx7t := Lib.hid hxb_
            have Hal7t := Lib.hid hal_
            have Hb7t := Lib.hid hb_
            have Hc7t := Lib.hid (Hc5t.out.trans (hc7.trans hal_))
            have Hb57 := Lib.hid (row_kept (hc7.trans hal_) Hb5t.out id)
            have Hal57 := Lib.hid (hc7.trans hal_)
            clear hal_ hb_ hxb_ hw_ hc7
            have Hns57 := Lib.hid (Hns5.out.keep Hal57.out fun _ _ => id)
            have Hns7 := Lib.hid (hns7.keep Hal7t.out fun _ _ => id)
            clear hns7 hrow7
            go_upto_region 16 with fail
            rw [Hw7t.out, ← Hx7t.out]
            have t0 := var1 Hb57.out
            have u0 := var1 Hb7t.out
            have bss : (ea.toList == ea.toList) = true := by simp
            go_wp2_with fail
            refine (Hen.out _ Hc7t.out _ _ _ _ Hns57.out).mono ?_
            rintro e w9 ⟨hc9, rfl⟩
            have Hc9 := Lib.hid (Hc7t.out.trans hc9)
            have Hns9 := Lib.hid (Hns7.out.keep hc9 fun _ _ => id)
            have u1 := hc9.keep u0
            clear hc9 t0 u0
            go_wp2_with fail
            refine (Hen.out _ Hc9.out _ _ _ _ Hns9.out).mono ?_
            rintro e w10 ⟨hc10, rfl⟩
            have Hc10 := Lib.hid (Hc9.out.trans hc10)
            clear hc10 u1
            go_wp2_with fail
            go_ret
            exact ⟨rfl, Hc10.out⟩
        · unfold MakeP at Hmk1 Hmk2
          go_wp2_with fail
          refine (Hmk1.out _ Hch.out).mono ?_
          rintro e w5 ⟨hc5, rfl⟩
          have hal_ := (Chg.refl NoB w5).alloc (.cells #[.slice none 0 0] 28)
          have hb_ := heap_alloc_new w5 (.cells #[.slice none 0 0] 28)
          obtain ⟨tb, hxb_⟩ : ∃ b, b = w5.heap.size := ⟨_, rfl⟩
          obtain ⟨w6, hw_⟩ : ∃ w2, w5.alloc (.cells #[.slice none 0 0] 28) = w2 := ⟨_, rfl⟩
          rw [hw_] at hal_ hb_
          rw [← hxb_] at hb_
          have Hw5t := Lib.hid hw_
          have Hx5t := Lib.hid hxb_
          have Hal5t := Lib.hid hal_
          have Hb5t := Lib.hid hb_
          have Hc5t := Lib.hid (Hch.out.trans (hc5.trans hal_))
          have Hd5t := Lib.hid (hc5.trans hal_)
          clear hal_ hb_ hxb_ hw_ hc5
          go_upto_region 15 with fail
          rw [Hw5t.out, ← Hx5t.out]
          go_wp2_with fail
          refine (Hmk2.out _ Hc5t.out Hd5t.out).mono ?_
          rintro e w7 ⟨hc7, rfl⟩
          have hal_ := (Chg.refl NoB w7).alloc (.cells #[.slice none 0 0] 28)
          have hb_ := heap_alloc_new w7 (.cells #[.slice none 0 0] 28)
          obtain ⟨ub, hxb_⟩ : ∃ b, b = w7.heap.size := ⟨_, rfl⟩
          obtain ⟨w8, hw_⟩ : ∃ w2, w7.alloc (.cells #[.slice none 0 0] 28) = w2 := ⟨_, rfl⟩
          rw [hw_] at hal_ hb_
          rw [← hxb_] at hb_
          have Hw7t := Lib.hid hw_
          have Hx7t := Lib.hid hxb_
          have Hal7t := Lib.hid hal_
          have Hb7t := Lib.hid hb_
          have Hc7t := Lib.hid (Hc5t.out.trans (hc7.trans hal_))
          have Hb57 := Lib.hid (row_kept (hc7.trans hal_) Hb5t.out id)
          have Hal57 := Lib.hid (hc7.trans hal_)
          clear hal_ hb_ hxb_ hw_ hc7
          go_upto_region 16 with fail
          rw [Hw7t.out, ← Hx7t.out]
          rcases hy with rfl | rfl
          · rcases hz with rfl | rfl
            · go_wp2_with fail
              go_ret
              exact ⟨rfl, Hc7t.out⟩
            · go_wp2_with fail
              go_ret
              exact ⟨rfl, Hc7t.out⟩
          · rcases hz with rfl | rfl
            · go_wp2_with fail
              go_ret
              exact ⟨rfl, Hc7t.out⟩
            · go_wp2_with fail
              go_ret
              exact ⟨rfl, Hc7t.out⟩

  | some a =>
  have hnews1 : ∀ j u, (flatP (l.drop p))[j]? = some u → w2.cell? ((a.add (p * 2)).add j) = some u := fun j u hj => by
    rw [flatP_drop, List.getElem?_drop] at hj
    exact Hc2.out.keep (flat_cells Hs.out p j u hj)
  have hnews2 : ∀ w', Chg NoB W w' → ∀ j u, (flatP (l.take p))[j]? = some u → w'.cell? (a.add j) = some u := fun w' h j u hj => by
    rw [flatP_take] at hj
    have hj' : (flatP l)[0 * 2 + j]? = some u := by
      rw [Nat.zero_mul, Nat.zero_add]
      have hlt := (List.getElem?_eq_some_iff.1 hj).1
      rw [List.length_take] at hlt
      rw [List.getElem?_take_of_lt (by omega)] at hj
      exact hj
    have := h.keep (flat_cells Hs.out 0 j u hj')
    rw [Nat.zero_mul] at this
    have e : (a.add 0) = a := by cases a; simp [Addr.add]
    rwa [e] at this
  have Hnews1 := Lib.hid hnews1
  have Hnews2 := Lib.hid hnews2
  have hrow0 : w2.ownsRow lo 26 2 (.slice none 0 0) 0 [] := World.ownsRow_nil _ _ _ _
  have Hrow0 := Lib.hid hrow0
  have Hlen1 : Hid ((flatP (l.drop p)).length = (n - p) * 2) := Lib.hid (by rw [flatP_len, List.length_drop, ← Hn.out])
  have Hlen2 : Hid ((flatP (l.take p)).length = p * 2) := Lib.hid (by rw [flatP_len, List.length_take, ← Hn.out]; omega)
  have M1 := Lib.hid (show 0 + (n - p) ≤ maxLen by unfold maxLen; omega)
  have M2 := Lib.hid (show (0 + (n - p)) * 32 ≤ 140737488355328 by omega)
  have M3 := Lib.hid (show (n - p) + p ≤ maxLen by unfold maxLen; omega)
  have M4 := Lib.hid (show ((n - p) + p) * 32 ≤ 140737488355328 by omega)
  have Hlz := Lib.hid (show lo ≤ w2.heap.size by rw [Hlo.out]; exact Nat.le_refl _)
  clear hnews1 hnews2 hrow0
  by_cases hcp : c = p
  · obtain rfl : p = n := by omega
    subst hcp
    have Hnil : Hid (∀ j u, (flatP ([] : List FileL))[j]? = some u → w2.cell? (a.add j) = some u) := Lib.hid fun j u hj => by simp [flatP] at hj
    have Z1 := Lib.hid (show 0 + 0 ≤ maxLen by decide)
    have Z2 := Lib.hid (show (0 + 0) * 32 ≤ 140737488355328 by decide)
    have Z3 := Lib.hid (show 0 + c ≤ maxLen by unfold maxLen; omega)
    have Z4 := Lib.hid (show (0 + c) * 32 ≤ 140737488355328 by omega)
    go_wp2_with (at_builtin; refine wpList_append_at _ rfl (.tmp 30) (.tmp 33) 22 rfl lo 26 i0 (.agg #[.string ⟨#[]⟩, .string ⟨#[]⟩]) 2 32 Tryd.underlying22 Hi.out Hz0.out Hz1.out Hz2.out rfl (by decide) _ 0 _ rfl Hrow0.out a 0 0 (flatP ([] : List FileL)) rfl rfl Hnil.out (flatP_one _) Z1.out Z2.out Hlz.out ?_)
    intro v3 w3 hown3 hgr3 hpl3
    have hch3 : Chg NoB W w3 := Hc2.out.grown hgr3 fun j hj => by cases hj
    have Hch3 := Lib.hid hch3
    have Hown3 := Lib.hid hown3
    have Hlz3 : Hid (lo ≤ w3.heap.size) := Lib.hid (Nat.le_trans Hlz.out hgr3.size)
    have Hn2 := Lib.hid (Hnews2.out w3 hch3)
    obtain ⟨vq, vc, hv3, -, -⟩ := row_shape hown3
    subst hv3
    clear hch3 hown3 hgr3 hpl3
    go_wp2_with (at_builtin; refine wpList_append_at _ rfl (.tmp 35) (.tmp 38) 22 rfl lo 26 i0 (.agg #[.string ⟨#[]⟩, .string ⟨#[]⟩]) 2 32 Tryd.underlying22 Hi.out Hz0.out Hz1.out Hz2.out rfl (by decide) _ 0 _ rfl Hown3.out a c c (flatP (l.take c)) rfl Hlen2.out Hn2.out (flatP_one _) Z3.out Z4.out Hlz3.out ?_)
    intro v4 w4 hown4 hgr4 hpl4
    obtain ⟨oq, oc, hv4, -, -⟩ := row_shape hown4
    subst hv4
    obtain ⟨xs0, hxs0⟩ : ∃ xs0, xs0 = l.take c := ⟨_, rfl⟩
    have hrow : w4.ownsRow lo 26 2 (.slice oq c oc) c (flatP xs0) := by
      rw [hxs0]
      simpa [flatP] using hown4
    have Hrow4 := Lib.hid hrow
    have Hc4 : Hid (Chg NoB W w4) := Lib.hid (Hch3.out.grown hgr4 fun j hj => .inr (by have h1 := (World.ownsRow.lt Hown3.out j hj).1; have := Hlo.out; have := Hc2.out.size; omega))
    have Hp4 : Hid (xs0.Perm l) := Lib.hid (by rw [hxs0, Hn.out, List.take_length])
    clear hown4 hgr4 hpl4 hrow hxs0
    go_wp2_with fail
    have hrow4 := Hrow4.out
    go_loopw [6] (fun i wr => ∃ (k : Nat) (xs : List FileL), k ≤ c + 1 ∧ i = .int .i64 k ∧ xs.Perm l ∧ wr.ownsRow lo 26 2 (.slice oq c oc) c (flatP xs) ∧ Chg NoB W wr) (fun i _ => c + 1 - (intOf i).toNat)
    case atStart => exact ⟨0, xs0, Nat.zero_le _, rfl, Hp4.out, Hrow4.out, Hc4.out⟩
    case round =>
      obtain ⟨k, xs, hk, rfl, hp, hrow, hch⟩ := hrel
      have Hp := Lib.hid hp
      have Hrow := Lib.hid hrow
      have Hch := Lib.hid hch
      have Hxl : Hid (xs.length = c) := Lib.hid (by rw [hp.length_eq, ← Hn.out])
      clear hp hrow hch hrow4
      by_cases hlt : k + 1 < c
      · obtain ⟨g, rfl⟩ := row_addr Hrow.out (by omega)
        have hx1 : k + 1 < xs.length := by rw [Hxl.out]; exact hlt
        have hx0 : k < xs.length := by omega
        have Hperm := Lib.hid (swap_perm hx1)
        have Hset1 := Lib.hid (fun (wz : World) (hc : Chg NoB wr wz) => row_set (ownsRow_chg Hrow.out hc fun _ _ => id) (show k < c by omega) xs[k + 1])
        have Hset2 := Lib.hid (fun (wz : World) (h : wz.ownsRow lo 26 2 (.slice (some ⟨g, 0, none⟩) c oc) c (flatP (xs.set k xs[k + 1]))) => row_set h (show k + 1 < c by omega) xs[k])
        obtain ⟨c0, c1⟩ := row_cells2 Hrow.out k hx0
        obtain ⟨d0, d1⟩ := row_cells2 Hrow.out (k + 1) hx1
        have hgl : lo ≤ g := (World.ownsRow.lt Hrow.out g rfl).1
        have Hgl := Lib.hid hgl
        have fr := row_free2 Hrow.out
        obtain ⟨xs', hxs'⟩ : ∃ y, y = (xs.set k xs[k + 1]).set (k + 1) xs[k] := ⟨_, rfl⟩
        rw [← hxs'] at Hperm
        simp only [← hxs'] at Hset2
        generalize xs[k + 1] = b at *
        generalize xs[k] = a1 at *
        obtain ⟨x1, x2⟩ := a1
        obtain ⟨y1, y2⟩ := b
        simp only at c0 c1 d0 d1 Hset1 Hset2
        have hal := (Chg.refl NoB wr).alloc (.cells #[.string (tx x1), .string (tx x2)] 26)
        have hb5 := heap_alloc_new wr (.cells #[.string (tx x1), .string (tx x2)] 26)
        have hrl : g < wr.heap.size := (World.ownsRow.lt Hrow.out g rfl).2
        obtain ⟨fb, hfb⟩ : ∃ b, b = wr.heap.size := ⟨_, rfl⟩
        obtain ⟨w5, hw5⟩ : ∃ w5, wr.alloc (.cells #[.string (tx x1), .string (tx x2)] 26) = w5 := ⟨_, rfl⟩
        rw [hw5] at hal hb5
        rw [← hfb] at hb5 hrl
        have Hw5 := Lib.hid hw5
        have Hfb := Lib.hid hfb
        have Hal := Lib.hid hal
        have Hb5 := Lib.hid hb5
        have D0 := Lib.hid d0
        have D1 := Lib.hid d1
        have Fr := Lib.hid (fun (j : Nat) => show w5.frozen? ⟨g, j, none⟩ = false from by rw [← hw5]; exact row_free2 (ownsRow_chg Hrow.out ((Chg.refl NoB wr).alloc _) fun _ _ => id) j)
        have hki : (k : Int) < (c : Int) := by omega
        have hki1 : (k : Int) + 1 < (c : Int) := by omega
        have hnoc : (c : Int) ≤ (oc : Int) := by
          obtain ⟨q', c', e, h, _⟩ := row_shape Hrow.out
          cases e
          omega
        have C0 := Lib.hid c0
        have C1 := Lib.hid c1
        have Hgf := Lib.hid hrl
        have Hal' := Lib.hid (show Chg NoB wr w5 from Hal.out)
        clear hx1 hx0 hxs' hgl hal hb5 hw5 hfb d0 d1 hrl
        go_upto_region 12 with fail
        rw [Hw5.out, ← Hfb.out]
        clear c0 c1 fr
        have d0 := Hal.out.keep D0.out
        have d1 := Hal.out.keep D1.out
        have c0 := Hal.out.keep C0.out
        have c1 := Hal.out.keep C1.out
        have fr := Fr.out
        have Hrow6 := Lib.hid (Hset1.out w5 Hal.out)
        have hsc := set_chg (w := w5) (g := g) (i := k) (.string (tx y1)) (.string (tx y2))
        have Hb6 := Lib.hid (row_kept hsc Hb5.out (fun e => by have := Hgf.out; have h : fb = g := e; omega))
        have hc6 : Chg NoB W ((w5.setCell ⟨g, k * 2, none⟩ (.string (tx y1))).setCell ⟨g, k * 2 + 1, none⟩ (.string (tx y2))) := (Hch.out.trans Hal.out).above hsc fun y hy => by have h : y = g := hy; have := Hgl.out; have := Hlo.out; have := Hc2.out.size; omega
        have Hc6 := Lib.hid hc6
        clear hsc hc6
        go_upto_region 13 with fail
        clear c0 c1 d0 d1 fr
        generalize (w5.setCell ⟨g, k * 2, none⟩ (.string (tx y1))).setCell ⟨g, k * 2 + 1, none⟩ (.string (tx y2)) = w6 at *
        have hl6 : k + 1 < (xs.set k (y1, y2)).length := by rw [List.length_set, Hxl.out]; exact hlt
        obtain ⟨d0, d1⟩ := row_cells2 Hrow6.out (k + 1) hl6
        have fr := row_free2 Hrow6.out
        obtain ⟨x0, x1'⟩ := var2 Hb6.out
        have Hrow7 := Lib.hid (Hset2.out w6 Hrow6.out)
        have hsc := set_chg (w := w6) (g := g) (i := k + 1) (.string (tx x1)) (.string (tx x2))
        have hc7 : Chg NoB W ((w6.setCell ⟨g, (k + 1) * 2, none⟩ (.string (tx x1))).setCell ⟨g, (k + 1) * 2 + 1, none⟩ (.string (tx x2))) := Hc6.out.above hsc fun y hy => by have h : y = g := hy; have := Hgl.out; have := Hlo.out; have := Hc2.out.size; omega
        have Hc7 := Lib.hid hc7
        generalize (xs.set k (y1, y2))[k + 1] = zz at *
        clear hsc hc7 hl6
        go_wp2_with fail
        go_roundw
        case rel => exact ⟨k + 2, xs', by omega, by go_num, Hperm.out.trans Hp.out, Hrow7.out, Hc7.out⟩
        case measure => simp [intOf]; omega
      · have hne : ¬ ((k : Int) + 1 < (c : Int)) := by omega
        have Hxl2 := Lib.hid (show xs.length ≤ 1048576 by rw [Hxl.out, Hn.out]; exact Hl.out)
        have Hxw : Hid (∀ x ∈ xs, x.1.length ≤ 1048576 ∧ x.2.length ≤ 1048576) := Lib.hid fun x hx => Hw.out x (Hp.out.mem_iff.1 hx)
        have hrowx : wr.ownsRow lo 26 2 (.slice oq c oc) xs.length (flatP xs) := by rw [Hxl.out]; exact Hrow.out
        obtain ⟨nb, hns⟩ := InpS.of_row hrowx
        have Hns := Lib.hid hns
        have Hmk1 := Lib.hid (fun w' (h : Chg NoB W w') => make_any l Hl.out Hw.out _ _ kb ko w' (ml_keep Hml.out h) (Hs.out.keep h fun _ _ => id))
        have Hmk2 := Lib.hid (fun w' (h : Chg NoB W w') (h2 : Chg NoB wr w') => make_any xs Hxl2.out Hxw.out _ _ nb 0 w' (ml_keep Hml.out h) (Hns.out.keep h2 fun _ _ => id))
        have hpm := make_perm Hp.out.symm
        clear hrowx hns
        obtain ⟨r1, hr1⟩ : ∃ r, r = makeF l := ⟨_, rfl⟩
        obtain ⟨r2, hr2⟩ : ∃ r, r = makeF xs := ⟨_, rfl⟩
        rw [← hr1] at Hmk1 hpm
        rw [← hr2] at Hmk2 hpm
        have Hr1 := Lib.hid hr1
        clear hr1 hr2 hlt
        rcases hpm with hpm | ⟨y, z, rfl, rfl, hy, hz⟩
        · subst hpm
          cases r1 with
          | error y =>
            unfold MakeP at Hmk1 Hmk2
            have Hen := Lib.hid (fun w' (h : Chg NoB W w') => tencode_any [] (by decide) (fun x hx => by cases hx) NoB (.slice none 0 0) 0 0 W.heap.size w' (Hlb.out.keep h) (ml_keep Hml.out h) (InpS.nil _ _))
            obtain ⟨ea, hea⟩ : ∃ a, a = (encT []).1 := ⟨_, rfl⟩
            obtain ⟨eb, heb⟩ : ∃ a, a = (encT []).2 := ⟨_, rfl⟩
            rw [← hea, ← heb] at Hen
            clear hea heb
            go_wp2_with fail
            refine (Hmk1.out _ Hch.out).mono ?_
            rintro e w5 ⟨hc5, rfl⟩
            have hal_ := (Chg.refl NoB w5).alloc (.cells #[.slice none 0 0] 28)
            have hb_ := heap_alloc_new w5 (.cells #[.slice none 0 0] 28)
            obtain ⟨tb, hxb_⟩ : ∃ b, b = w5.heap.size := ⟨_, rfl⟩
            obtain ⟨w6, hw_⟩ : ∃ w2, w5.alloc (.cells #[.slice none 0 0] 28) = w2 := ⟨_, rfl⟩
            rw [hw_] at hal_ hb_
            rw [← hxb_] at hb_
            have Hw5t := Lib.hid hw_
            have Hx5t := Lib.hid hxb_
            have Hal5t := Lib.hid hal_
            have Hb5t := Lib.hid hb_
            have Hc5t := Lib.hid (Hch.out.trans (hc5.trans hal_))
            have Hd5t := Lib.hid (hc5.trans hal_)
            clear hal_ hb_ hxb_ hw_ hc5
            go_upto_region 15 with fail
            rw [Hw5t.out, ← Hx5t.out]
            go_wp2_with fail
            refine (Hmk2.out _ Hc5t.out Hd5t.out).mono ?_
            rintro e w7 ⟨hc7, rfl⟩
            have hal_ := (Chg.refl NoB w7).alloc (.cells #[.slice none 0 0] 28)
            have hb_ := heap_alloc_new w7 (.cells #[.slice none 0 0] 28)
            obtain ⟨ub, hxb_⟩ : ∃ b, b = w7.heap.size := ⟨_, rfl⟩
            obtain ⟨w8, hw_⟩ : ∃ w2, w7.alloc (.cells #[.slice none 0 0] 28) = w2 := ⟨_, rfl⟩
            rw [hw_] at hal_ hb_
            rw [← hxb_] at hb_
            have Hw7t := Lib.hid hw_
            have Hx7t := Lib.hid hxb_
            have Hal7t := Lib.hid hal_
            have Hb7t := Lib.hid hb_
            have Hc7t := Lib.hid (Hc5t.out.trans (hc7.trans hal_))
            have Hb57 := Lib.hid (row_kept (hc7.trans hal_) Hb5t.out id)
            have Hal57 := Lib.hid (hc7.trans hal_)
            clear hal_ hb_ hxb_ hw_ hc7
            go_upto_region 16 with fail
            rw [Hw7t.out, ← Hx7t.out]
            have t0 := var1 Hb57.out
            have u0 := var1 Hb7t.out
            by_cases hy10 : y = 10
            · subst hy10
              go_wp2_with fail
              go_ret
              exact ⟨rfl, Hc7t.out⟩
            by_cases hy3 : y = 3
            · subst hy3
              go_wp2_with fail
              go_ret
              exact ⟨rfl, Hc7t.out⟩
            have b10 : (y == 10) = false := by rw [beq_eq_false_iff_ne]; exact hy10
            have b3 : (y == 3) = false := by rw [beq_eq_false_iff_ne]; exact hy3
            have byy : (y == y) = true := by simp
            have bss : (ea.toList == ea.toList) = true := by simp
            clear hy10 hy3
            go_wp2_with fail
            refine (Hen.out _ Hc7t.out).mono ?_
            rintro e w9 ⟨hc9, rfl⟩
            have Hc9 := Lib.hid (Hc7t.out.trans hc9)
            have u1 := hc9.keep u0
            clear hc9 t0 u0
            go_wp2_with fail
            refine (Hen.out _ Hc9.out).mono ?_
            rintro e w10 ⟨hc10, rfl⟩
            have Hc10 := Lib.hid (Hc9.out.trans hc10)
            clear hc10 u1
            go_wp2_with fail
            go_ret
            exact ⟨rfl, Hc10.out⟩
          | ok d =>
            have hdl : d.length = l.length := (make_len Hr1.out.symm).1
            have hdw0 : ∀ x ∈ d, x.1.length ≤ 131072 ∧ x.2.length ≤ 131072 := fun x hx => Hw0.out x ((make_len Hr1.out.symm).2.mem_iff.1 hx)
            unfold MakeP at Hmk1 Hmk2
            obtain ⟨ea, hea⟩ : ∃ a, a = (encT d).1 := ⟨_, rfl⟩
            obtain ⟨eb, heb⟩ : ∃ a, a = (encT d).2 := ⟨_, rfl⟩
            have Hen := Lib.hid (fun w' (h : Chg NoB W w') S' v' kb' ko' (h2 : InpS w' S' v' d kb' ko') => tencode_any d (by rw [hdl]; exact Hl.out) hdw0 S' v' kb' ko' W.heap.size w' (Hlb.out.keep h) (ml_keep Hml.out h) h2)
            rw [← hea, ← heb] at Hen
            clear hea heb hdl hdw0
            go_wp2_with fail
            refine (Hmk1.out _ Hch.out).mono ?_
            rintro e w5 ⟨hc5, v5, rfl, hrow5⟩
            obtain ⟨vq5, vc5, hv5, -, -⟩ := row_shape hrow5
            obtain ⟨nb5, hns5⟩ := InpS.of_row hrow5
            obtain ⟨dl, hdl⟩ : ∃ m, m = d.length := ⟨_, rfl⟩
            rw [← hdl] at hv5
            subst hv5
            have Hdl := Lib.hid hdl
            clear hdl
            have hal_ := (Chg.refl NoB w5).alloc (.cells #[.slice vq5 dl vc5] 28)
            have hb_ := heap_alloc_new w5 (.cells #[.slice vq5 dl vc5] 28)
            obtain ⟨tb, hxb_⟩ : ∃ b, b = w5.heap.size := ⟨_, rfl⟩
            obtain ⟨w6, hw_⟩ : ∃ w2, w5.alloc (.cells #[.slice vq5 dl vc5] 28) = w2 := ⟨_, rfl⟩
            rw [hw_] at hal_ hb_
            rw [← hxb_] at hb_
            have Hw5t := Lib.hid hw_
            have Hx5t := Lib.hid hxb_
            have Hal5t := Lib.hid hal_
            have Hb5t := Lib.hid hb_
            have Hc5t := Lib.hid (Hch.out.trans (hc5.trans hal_))
            have Hd5t := Lib.hid (hc5.trans hal_)
            clear hal_ hb_ hxb_ hw_ hc5
            have Hns5 := Lib.hid (hns5.keep Hal5t.out fun _ _ => id)
            clear hns5 hrow5
            go_upto_region 15 with fail
            rw [Hw5t.out, ← Hx5t.out]
            go_wp2_with fail
            refine (Hmk2.out _ Hc5t.out Hd5t.out).mono ?_
            rintro e w7 ⟨hc7, v7, rfl, hrow7⟩
            obtain ⟨vq7, vc7, hv7, -, -⟩ := row_shape hrow7
            obtain ⟨nb7, hns7⟩ := InpS.of_row hrow7
            rw [← Hdl.out] at hv7
            subst hv7
            have hal_ := (Chg.refl NoB w7).alloc (.cells #[.slice vq7 dl vc7] 28)
            have hb_ := heap_alloc_new w7 (.cells #[.slice vq7 dl vc7] 28)
            obtain ⟨ub, hxb_⟩ : ∃ b, b = w7.heap.size := ⟨_, rfl⟩
            obtain ⟨w8, hw_⟩ : ∃ w2, w7.alloc (.cells #[.slice vq7 dl vc7] 28) = w2 := ⟨_, rfl⟩
            rw [hw_] at hal_ hb_
            rw [← hxb_] at hb_
            have Hw7t := Lib.hid hw_
            have Hx7t := Lib.hid hxb_
            have Hal7t := Lib.hid hal_
            have Hb7t := Lib.hid hb_
            have Hc7t := Lib.hid (Hc5t.out.trans (hc7.trans hal_))
            have Hb57 := Lib.hid (row_kept (hc7.trans hal_) Hb5t.out id)
            have Hal57 := Lib.hid (hc7.trans hal_)
            clear hal_ hb_ hxb_ hw_ hc7
            have Hns57 := Lib.hid (Hns5.out.keep Hal57.out fun _ _ => id)
            have Hns7 := Lib.hid (hns7.keep Hal7t.out fun _ _ => id)
            clear hns7 hrow7
            go_upto_region 16 with fail
            rw [Hw7t.out, ← Hx7t.out]
            have t0 := var1 Hb57.out
            have u0 := var1 Hb7t.out
            have bss : (ea.toList == ea.toList) = true := by simp
            go_wp2_with fail
            refine (Hen.out _ Hc7t.out _ _ _ _ Hns57.out).mono ?_
            rintro e w9 ⟨hc9, rfl⟩
            have Hc9 := Lib.hid (Hc7t.out.trans hc9)
            have Hns9 := Lib.hid (Hns7.out.keep hc9 fun _ _ => id)
            have u1 := hc9.keep u0
            clear hc9 t0 u0
            go_wp2_with fail
            refine (Hen.out _ Hc9.out _ _ _ _ Hns9.out).mono ?_
            rintro e w10 ⟨hc10, rfl⟩
            have Hc10 := Lib.hid (Hc9.out.trans hc10)
            clear hc10 u1
            go_wp2_with fail
            go_ret
            exact ⟨rfl, Hc10.out⟩
        · unfold MakeP at Hmk1 Hmk2
          go_wp2_with fail
          refine (Hmk1.out _ Hch.out).mono ?_
          rintro e w5 ⟨hc5, rfl⟩
          have hal_ := (Chg.refl NoB w5).alloc (.cells #[.slice none 0 0] 28)
          have hb_ := heap_alloc_new w5 (.cells #[.slice none 0 0] 28)
          obtain ⟨tb, hxb_⟩ : ∃ b, b = w5.heap.size := ⟨_, rfl⟩
          obtain ⟨w6, hw_⟩ : ∃ w2, w5.alloc (.cells #[.slice none 0 0] 28) = w2 := ⟨_, rfl⟩
          rw [hw_] at hal_ hb_
          rw [← hxb_] at hb_
          have Hw5t := Lib.hid hw_
          have Hx5t := Lib.hid hxb_
          have Hal5t := Lib.hid hal_
          have Hb5t := Lib.hid hb_
          have Hc5t := Lib.hid (Hch.out.trans (hc5.trans hal_))
          have Hd5t := Lib.hid (hc5.trans hal_)
          clear hal_ hb_ hxb_ hw_ hc5
          go_upto_region 15 with fail
          rw [Hw5t.out, ← Hx5t.out]
          go_wp2_with fail
          refine (Hmk2.out _ Hc5t.out Hd5t.out).mono ?_
          rintro e w7 ⟨hc7, rfl⟩
          have hal_ := (Chg.refl NoB w7).alloc (.cells #[.slice none 0 0] 28)
          have hb_ := heap_alloc_new w7 (.cells #[.slice none 0 0] 28)
          obtain ⟨ub, hxb_⟩ : ∃ b, b = w7.heap.size := ⟨_, rfl⟩
          obtain ⟨w8, hw_⟩ : ∃ w2, w7.alloc (.cells #[.slice none 0 0] 28) = w2 := ⟨_, rfl⟩
          rw [hw_] at hal_ hb_
          rw [← hxb_] at hb_
          have Hw7t := Lib.hid hw_
          have Hx7t := Lib.hid hxb_
          have Hal7t := Lib.hid hal_
          have Hb7t := Lib.hid hb_
          have Hc7t := Lib.hid (Hc5t.out.trans (hc7.trans hal_))
          have Hb57 := Lib.hid (row_kept (hc7.trans hal_) Hb5t.out id)
          have Hal57 := Lib.hid (hc7.trans hal_)
          clear hal_ hb_ hxb_ hw_ hc7
          go_upto_region 16 with fail
          rw [Hw7t.out, ← Hx7t.out]
          rcases hy with rfl | rfl
          · rcases hz with rfl | rfl
            · go_wp2_with fail
              go_ret
              exact ⟨rfl, Hc7t.out⟩
            · go_wp2_with fail
              go_ret
              exact ⟨rfl, Hc7t.out⟩
          · rcases hz with rfl | rfl
            · go_wp2_with fail
              go_ret
              exact ⟨rfl, Hc7t.out⟩
            · go_wp2_with fail
              go_ret
              exact ⟨rfl, Hc7t.out⟩

  · go_wp2_with (at_builtin; refine wpList_append_at _ rfl (.tmp 30) (.tmp 33) 22 rfl lo 26 i0 (.agg #[.string ⟨#[]⟩, .string ⟨#[]⟩]) 2 32 Tryd.underlying22 Hi.out Hz0.out Hz1.out Hz2.out rfl (by decide) _ 0 _ rfl Hrow0.out (a.add (p * 2)) (n - p) (c - p) (flatP (l.drop p)) rfl Hlen1.out Hnews1.out (flatP_one _) M1.out M2.out Hlz.out ?_)
    intro v3 w3 hown3 hgr3 hpl3
    have hch3 : Chg NoB W w3 := Hc2.out.grown hgr3 fun j hj => by cases hj
    have Hch3 := Lib.hid hch3
    have Hown3 := Lib.hid hown3
    have Hlz3 : Hid (lo ≤ w3.heap.size) := Lib.hid (Nat.le_trans Hlz.out hgr3.size)
    have Hn2 := Lib.hid (Hnews2.out w3 hch3)
    obtain ⟨vq, vc, hv3, -, -⟩ := row_shape hown3
    subst hv3
    clear hch3 hown3 hgr3 hpl3
    go_wp2_with (at_builtin; refine wpList_append_at _ rfl (.tmp 35) (.tmp 38) 22 rfl lo 26 i0 (.agg #[.string ⟨#[]⟩, .string ⟨#[]⟩]) 2 32 Tryd.underlying22 Hi.out Hz0.out Hz1.out Hz2.out rfl (by decide) _ (n - p) _ rfl Hown3.out a p c (flatP (l.take p)) rfl Hlen2.out Hn2.out (flatP_one _) M3.out M4.out Hlz3.out ?_)
    intro v4 w4 hown4 hgr4 hpl4
    obtain ⟨oq, oc, hv4, -, -⟩ := row_shape hown4
    subst hv4
    have hsum : n - p + p = n := by omega
    obtain ⟨xs0, hxs0⟩ : ∃ xs0, xs0 = l.drop p ++ l.take p := ⟨_, rfl⟩
    have hrow : w4.ownsRow lo 26 2 (.slice oq n oc) n (flatP xs0) := by
      rw [hxs0, flatP_app]
      exact hown4
    have Hrow4 := Lib.hid hrow
    have Hc4 : Hid (Chg NoB W w4) := Lib.hid (Hch3.out.grown hgr4 fun j hj => .inr (by have h1 := (World.ownsRow.lt Hown3.out j hj).1; have := Hlo.out; have := Hc2.out.size; omega))
    have Hp4 : Hid (xs0.Perm l) := Lib.hid (by rw [hxs0]; exact List.perm_append_comm.trans (by rw [List.take_append_drop]))
    clear hown4 hgr4 hpl4 hrow hxs0 hsum
    go_wp2_with fail
    have hrow4 := Hrow4.out
    go_loopw [6] (fun i wr => ∃ (k : Nat) (xs : List FileL), k ≤ n + 1 ∧ i = .int .i64 k ∧ xs.Perm l ∧ wr.ownsRow lo 26 2 (.slice oq n oc) n (flatP xs) ∧ Chg NoB W wr) (fun i _ => n + 1 - (intOf i).toNat)
    case atStart => exact ⟨0, xs0, Nat.zero_le _, rfl, Hp4.out, Hrow4.out, Hc4.out⟩
    case round =>
      obtain ⟨k, xs, hk, rfl, hp, hrow, hch⟩ := hrel
      have Hp := Lib.hid hp
      have Hrow := Lib.hid hrow
      have Hch := Lib.hid hch
      have Hxl : Hid (xs.length = n) := Lib.hid (by rw [hp.length_eq, ← Hn.out])
      clear hp hrow hch hrow4
      by_cases hlt : k + 1 < n
      · obtain ⟨g, rfl⟩ := row_addr Hrow.out (by omega)
        have hx1 : k + 1 < xs.length := by rw [Hxl.out]; exact hlt
        have hx0 : k < xs.length := by omega
        have Hperm := Lib.hid (swap_perm hx1)
        have Hset1 := Lib.hid (fun (wz : World) (hc : Chg NoB wr wz) => row_set (ownsRow_chg Hrow.out hc fun _ _ => id) (show k < n by omega) xs[k + 1])
        have Hset2 := Lib.hid (fun (wz : World) (h : wz.ownsRow lo 26 2 (.slice (some ⟨g, 0, none⟩) n oc) n (flatP (xs.set k xs[k + 1]))) => row_set h (show k + 1 < n by omega) xs[k])
        obtain ⟨c0, c1⟩ := row_cells2 Hrow.out k hx0
        obtain ⟨d0, d1⟩ := row_cells2 Hrow.out (k + 1) hx1
        have hgl : lo ≤ g := (World.ownsRow.lt Hrow.out g rfl).1
        have Hgl := Lib.hid hgl
        have fr := row_free2 Hrow.out
        obtain ⟨xs', hxs'⟩ : ∃ y, y = (xs.set k xs[k + 1]).set (k + 1) xs[k] := ⟨_, rfl⟩
        rw [← hxs'] at Hperm
        simp only [← hxs'] at Hset2
        generalize xs[k + 1] = b at *
        generalize xs[k] = a1 at *
        obtain ⟨x1, x2⟩ := a1
        obtain ⟨y1, y2⟩ := b
        simp only at c0 c1 d0 d1 Hset1 Hset2
        have hal := (Chg.refl NoB wr).alloc (.cells #[.string (tx x1), .string (tx x2)] 26)
        have hb5 := heap_alloc_new wr (.cells #[.string (tx x1), .string (tx x2)] 26)
        have hrl : g < wr.heap.size := (World.ownsRow.lt Hrow.out g rfl).2
        obtain ⟨fb, hfb⟩ : ∃ b, b = wr.heap.size := ⟨_, rfl⟩
        obtain ⟨w5, hw5⟩ : ∃ w5, wr.alloc (.cells #[.string (tx x1), .string (tx x2)] 26) = w5 := ⟨_, rfl⟩
        rw [hw5] at hal hb5
        rw [← hfb] at hb5 hrl
        have Hw5 := Lib.hid hw5
        have Hfb := Lib.hid hfb
        have Hal := Lib.hid hal
        have Hb5 := Lib.hid hb5
        have D0 := Lib.hid d0
        have D1 := Lib.hid d1
        have Fr := Lib.hid (fun (j : Nat) => show w5.frozen? ⟨g, j, none⟩ = false from by rw [← hw5]; exact row_free2 (ownsRow_chg Hrow.out ((Chg.refl NoB wr).alloc _) fun _ _ => id) j)
        have hki : (k : Int) < (n : Int) := by omega
        have hki1 : (k : Int) + 1 < (n : Int) := by omega
        have hnoc : (n : Int) ≤ (oc : Int) := by
          obtain ⟨q', c', e, h, _⟩ := row_shape Hrow.out
          cases e
          omega
        have C0 := Lib.hid c0
        have C1 := Lib.hid c1
        have Hgf := Lib.hid hrl
        have Hal' := Lib.hid (show Chg NoB wr w5 from Hal.out)
        clear hx1 hx0 hxs' hgl hal hb5 hw5 hfb d0 d1 hrl
        go_upto_region 12 with fail
        rw [Hw5.out, ← Hfb.out]
        clear c0 c1 fr
        have d0 := Hal.out.keep D0.out
        have d1 := Hal.out.keep D1.out
        have c0 := Hal.out.keep C0.out
        have c1 := Hal.out.keep C1.out
        have fr := Fr.out
        have Hrow6 := Lib.hid (Hset1.out w5 Hal.out)
        have hsc := set_chg (w := w5) (g := g) (i := k) (.string (tx y1)) (.string (tx y2))
        have Hb6 := Lib.hid (row_kept hsc Hb5.out (fun e => by have := Hgf.out; have h : fb = g := e; omega))
        have hc6 : Chg NoB W ((w5.setCell ⟨g, k * 2, none⟩ (.string (tx y1))).setCell ⟨g, k * 2 + 1, none⟩ (.string (tx y2))) := (Hch.out.trans Hal.out).above hsc fun y hy => by have h : y = g := hy; have := Hgl.out; have := Hlo.out; have := Hc2.out.size; omega
        have Hc6 := Lib.hid hc6
        clear hsc hc6
        go_upto_region 13 with fail
        clear c0 c1 d0 d1 fr
        generalize (w5.setCell ⟨g, k * 2, none⟩ (.string (tx y1))).setCell ⟨g, k * 2 + 1, none⟩ (.string (tx y2)) = w6 at *
        have hl6 : k + 1 < (xs.set k (y1, y2)).length := by rw [List.length_set, Hxl.out]; exact hlt
        obtain ⟨d0, d1⟩ := row_cells2 Hrow6.out (k + 1) hl6
        have fr := row_free2 Hrow6.out
        obtain ⟨x0, x1'⟩ := var2 Hb6.out
        have Hrow7 := Lib.hid (Hset2.out w6 Hrow6.out)
        have hsc := set_chg (w := w6) (g := g) (i := k + 1) (.string (tx x1)) (.string (tx x2))
        have hc7 : Chg NoB W ((w6.setCell ⟨g, (k + 1) * 2, none⟩ (.string (tx x1))).setCell ⟨g, (k + 1) * 2 + 1, none⟩ (.string (tx x2))) := Hc6.out.above hsc fun y hy => by have h : y = g := hy; have := Hgl.out; have := Hlo.out; have := Hc2.out.size; omega
        have Hc7 := Lib.hid hc7
        generalize (xs.set k (y1, y2))[k + 1] = zz at *
        clear hsc hc7 hl6
        go_wp2_with fail
        go_roundw
        case rel => exact ⟨k + 2, xs', by omega, by go_num, Hperm.out.trans Hp.out, Hrow7.out, Hc7.out⟩
        case measure => simp [intOf]; omega
      · have hne : ¬ ((k : Int) + 1 < (n : Int)) := by omega
        have Hxl2 := Lib.hid (show xs.length ≤ 1048576 by rw [Hxl.out, Hn.out]; exact Hl.out)
        have Hxw : Hid (∀ x ∈ xs, x.1.length ≤ 1048576 ∧ x.2.length ≤ 1048576) := Lib.hid fun x hx => Hw.out x (Hp.out.mem_iff.1 hx)
        have hrowx : wr.ownsRow lo 26 2 (.slice oq n oc) xs.length (flatP xs) := by rw [Hxl.out]; exact Hrow.out
        obtain ⟨nb, hns⟩ := InpS.of_row hrowx
        have Hns := Lib.hid hns
        have Hmk1 := Lib.hid (fun w' (h : Chg NoB W w') => make_any l Hl.out Hw.out _ _ kb ko w' (ml_keep Hml.out h) (Hs.out.keep h fun _ _ => id))
        have Hmk2 := Lib.hid (fun w' (h : Chg NoB W w') (h2 : Chg NoB wr w') => make_any xs Hxl2.out Hxw.out _ _ nb 0 w' (ml_keep Hml.out h) (Hns.out.keep h2 fun _ _ => id))
        have hpm := make_perm Hp.out.symm
        clear hrowx hns
        obtain ⟨r1, hr1⟩ : ∃ r, r = makeF l := ⟨_, rfl⟩
        obtain ⟨r2, hr2⟩ : ∃ r, r = makeF xs := ⟨_, rfl⟩
        rw [← hr1] at Hmk1 hpm
        rw [← hr2] at Hmk2 hpm
        have Hr1 := Lib.hid hr1
        clear hr1 hr2 hlt
        rcases hpm with hpm | ⟨y, z, rfl, rfl, hy, hz⟩
        · subst hpm
          cases r1 with
          | error y =>
            unfold MakeP at Hmk1 Hmk2
            have Hen := Lib.hid (fun w' (h : Chg NoB W w') => tencode_any [] (by decide) (fun x hx => by cases hx) NoB (.slice none 0 0) 0 0 W.heap.size w' (Hlb.out.keep h) (ml_keep Hml.out h) (InpS.nil _ _))
            obtain ⟨ea, hea⟩ : ∃ a, a = (encT []).1 := ⟨_, rfl⟩
            obtain ⟨eb, heb⟩ : ∃ a, a = (encT []).2 := ⟨_, rfl⟩
            rw [← hea, ← heb] at Hen
            clear hea heb
            go_wp2_with fail
            refine (Hmk1.out _ Hch.out).mono ?_
            rintro e w5 ⟨hc5, rfl⟩
            have hal_ := (Chg.refl NoB w5).alloc (.cells #[.slice none 0 0] 28)
            have hb_ := heap_alloc_new w5 (.cells #[.slice none 0 0] 28)
            obtain ⟨tb, hxb_⟩ : ∃ b, b = w5.heap.size := ⟨_, rfl⟩
            obtain ⟨w6, hw_⟩ : ∃ w2, w5.alloc (.cells #[.slice none 0 0] 28) = w2 := ⟨_, rfl⟩
            rw [hw_] at hal_ hb_
            rw [← hxb_] at hb_
            have Hw5t := Lib.hid hw_
            have Hx5t := Lib.hid hxb_
            have Hal5t := Lib.hid hal_
            have Hb5t := Lib.hid hb_
            have Hc5t := Lib.hid (Hch.out.trans (hc5.trans hal_))
            have Hd5t := Lib.hid (hc5.trans hal_)
            clear hal_ hb_ hxb_ hw_ hc5
            go_upto_region 15 with fail
            rw [Hw5t.out, ← Hx5t.out]
            go_wp2_with fail
            refine (Hmk2.out _ Hc5t.out Hd5t.out).mono ?_
            rintro e w7 ⟨hc7, rfl⟩
            have hal_ := (Chg.refl NoB w7).alloc (.cells #[.slice none 0 0] 28)
            have hb_ := heap_alloc_new w7 (.cells #[.slice none 0 0] 28)
            obtain ⟨ub, hxb_⟩ : ∃ b, b = w7.heap.size := ⟨_, rfl⟩
            obtain ⟨w8, hw_⟩ : ∃ w2, w7.alloc (.cells #[.slice none 0 0] 28) = w2 := ⟨_, rfl⟩
            rw [hw_] at hal_ hb_
            rw [← hxb_] at hb_
            have Hw7t := Lib.hid hw_
            have Hx7t := Lib.hid hxb_
            have Hal7t := Lib.hid hal_
            have Hb7t := Lib.hid hb_
            have Hc7t := Lib.hid (Hc5t.out.trans (hc7.trans hal_))
            have Hb57 := Lib.hid (row_kept (hc7.trans hal_) Hb5t.out id)
            have Hal57 := Lib.hid (hc7.trans hal_)
            clear hal_ hb_ hxb_ hw_ hc7
            go_upto_region 16 with fail
            rw [Hw7t.out, ← Hx7t.out]
            have t0 := var1 Hb57.out
            have u0 := var1 Hb7t.out
            by_cases hy10 : y = 10
            · subst hy10
              go_wp2_with fail
              go_ret
              exact ⟨rfl, Hc7t.out⟩
            by_cases hy3 : y = 3
            · subst hy3
              go_wp2_with fail
              go_ret
              exact ⟨rfl, Hc7t.out⟩
            have b10 : (y == 10) = false := by rw [beq_eq_false_iff_ne]; exact hy10
            have b3 : (y == 3) = false := by rw [beq_eq_false_iff_ne]; exact hy3
            have byy : (y == y) = true := by simp
            have bss : (ea.toList == ea.toList) = true := by simp
            clear hy10 hy3
            go_wp2_with fail
            refine (Hen.out _ Hc7t.out).mono ?_
            rintro e w9 ⟨hc9, rfl⟩
            have Hc9 := Lib.hid (Hc7t.out.trans hc9)
            have u1 := hc9.keep u0
            clear hc9 t0 u0
            go_wp2_with fail
            refine (Hen.out _ Hc9.out).mono ?_
            rintro e w10 ⟨hc10, rfl⟩
            have Hc10 := Lib.hid (Hc9.out.trans hc10)
            clear hc10 u1
            go_wp2_with fail
            go_ret
            exact ⟨rfl, Hc10.out⟩
          | ok d =>
            have hdl : d.length = l.length := (make_len Hr1.out.symm).1
            have hdw0 : ∀ x ∈ d, x.1.length ≤ 131072 ∧ x.2.length ≤ 131072 := fun x hx => Hw0.out x ((make_len Hr1.out.symm).2.mem_iff.1 hx)
            unfold MakeP at Hmk1 Hmk2
            obtain ⟨ea, hea⟩ : ∃ a, a = (encT d).1 := ⟨_, rfl⟩
            obtain ⟨eb, heb⟩ : ∃ a, a = (encT d).2 := ⟨_, rfl⟩
            have Hen := Lib.hid (fun w' (h : Chg NoB W w') S' v' kb' ko' (h2 : InpS w' S' v' d kb' ko') => tencode_any d (by rw [hdl]; exact Hl.out) hdw0 S' v' kb' ko' W.heap.size w' (Hlb.out.keep h) (ml_keep Hml.out h) h2)
            rw [← hea, ← heb] at Hen
            clear hea heb hdl hdw0
            go_wp2_with fail
            refine (Hmk1.out _ Hch.out).mono ?_
            rintro e w5 ⟨hc5, v5, rfl, hrow5⟩
            obtain ⟨vq5, vc5, hv5, -, -⟩ := row_shape hrow5
            obtain ⟨nb5, hns5⟩ := InpS.of_row hrow5
            obtain ⟨dl, hdl⟩ : ∃ m, m = d.length := ⟨_, rfl⟩
            rw [← hdl] at hv5
            subst hv5
            have Hdl := Lib.hid hdl
            clear hdl
            have hal_ := (Chg.refl NoB w5).alloc (.cells #[.slice vq5 dl vc5] 28)
            have hb_ := heap_alloc_new w5 (.cells #[.slice vq5 dl vc5] 28)
            obtain ⟨tb, hxb_⟩ : ∃ b, b = w5.heap.size := ⟨_, rfl⟩
            obtain ⟨w6, hw_⟩ : ∃ w2, w5.alloc (.cells #[.slice vq5 dl vc5] 28) = w2 := ⟨_, rfl⟩
            rw [hw_] at hal_ hb_
            rw [← hxb_] at hb_
            have Hw5t := Lib.hid hw_
            have Hx5t := Lib.hid hxb_
            have Hal5t := Lib.hid hal_
            have Hb5t := Lib.hid hb_
            have Hc5t := Lib.hid (Hch.out.trans (hc5.trans hal_))
            have Hd5t := Lib.hid (hc5.trans hal_)
            clear hal_ hb_ hxb_ hw_ hc5
            have Hns5 := Lib.hid (hns5.keep Hal5t.out fun _ _ => id)
            clear hns5 hrow5
            go_upto_region 15 with fail
            rw [Hw5t.out, ← Hx5t.out]
            go_wp2_with fail
            refine (Hmk2.out _ Hc5t.out Hd5t.out).mono ?_
            rintro e w7 ⟨hc7, v7, rfl, hrow7⟩
            obtain ⟨vq7, vc7, hv7, -, -⟩ := row_shape hrow7
            obtain ⟨nb7, hns7⟩ := InpS.of_row hrow7
            rw [← Hdl.out] at hv7
            subst hv7
            have hal_ := (Chg.refl NoB w7).alloc (.cells #[.slice vq7 dl vc7] 28)
            have hb_ := heap_alloc_new w7 (.cells #[.slice vq7 dl vc7] 28)
            obtain ⟨ub, hxb_⟩ : ∃ b, b = w7.heap.size := ⟨_, rfl⟩
            obtain ⟨w8, hw_⟩ : ∃ w2, w7.alloc (.cells #[.slice vq7 dl vc7] 28) = w2 := ⟨_, rfl⟩
            rw [hw_] at hal_ hb_
            rw [← hxb_] at hb_
            have Hw7t := Lib.hid hw_
            have Hx7t := Lib.hid hxb_
            have Hal7t := Lib.hid hal_
            have Hb7t := Lib.hid hb_
            have Hc7t := Lib.hid (Hc5t.out.trans (hc7.trans hal_))
            have Hb57 := Lib.hid (row_kept (hc7.trans hal_) Hb5t.out id)
            have Hal57 := Lib.hid (hc7.trans hal_)
            clear hal_ hb_ hxb_ hw_ hc7
            have Hns57 := Lib.hid (Hns5.out.keep Hal57.out fun _ _ => id)
            have Hns7 := Lib.hid (hns7.keep Hal7t.out fun _ _ => id)
            clear hns7 hrow7
            go_upto_region 16 with fail
            rw [Hw7t.out, ← Hx7t.out]
            have t0 := var1 Hb57.out
            have u0 := var1 Hb7t.out
            have bss : (ea.toList == ea.toList) = true := by simp
            go_wp2_with fail
            refine (Hen.out _ Hc7t.out _ _ _ _ Hns57.out).mono ?_
            rintro e w9 ⟨hc9, rfl⟩
            have Hc9 := Lib.hid (Hc7t.out.trans hc9)
            have Hns9 := Lib.hid (Hns7.out.keep hc9 fun _ _ => id)
            have u1 := hc9.keep u0
            clear hc9 t0 u0
            go_wp2_with fail
            refine (Hen.out _ Hc9.out _ _ _ _ Hns9.out).mono ?_
            rintro e w10 ⟨hc10, rfl⟩
            have Hc10 := Lib.hid (Hc9.out.trans hc10)
            clear hc10 u1
            go_wp2_with fail
            go_ret
            exact ⟨rfl, Hc10.out⟩
        · unfold MakeP at Hmk1 Hmk2
          go_wp2_with fail
          refine (Hmk1.out _ Hch.out).mono ?_
          rintro e w5 ⟨hc5, rfl⟩
          have hal_ := (Chg.refl NoB w5).alloc (.cells #[.slice none 0 0] 28)
          have hb_ := heap_alloc_new w5 (.cells #[.slice none 0 0] 28)
          obtain ⟨tb, hxb_⟩ : ∃ b, b = w5.heap.size := ⟨_, rfl⟩
          obtain ⟨w6, hw_⟩ : ∃ w2, w5.alloc (.cells #[.slice none 0 0] 28) = w2 := ⟨_, rfl⟩
          rw [hw_] at hal_ hb_
          rw [← hxb_] at hb_
          have Hw5t := Lib.hid hw_
          have Hx5t := Lib.hid hxb_
          have Hal5t := Lib.hid hal_
          have Hb5t := Lib.hid hb_
          have Hc5t := Lib.hid (Hch.out.trans (hc5.trans hal_))
          have Hd5t := Lib.hid (hc5.trans hal_)
          clear hal_ hb_ hxb_ hw_ hc5
          go_upto_region 15 with fail
          rw [Hw5t.out, ← Hx5t.out]
          go_wp2_with fail
          refine (Hmk2.out _ Hc5t.out Hd5t.out).mono ?_
          rintro e w7 ⟨hc7, rfl⟩
          have hal_ := (Chg.refl NoB w7).alloc (.cells #[.slice none 0 0] 28)
          have hb_ := heap_alloc_new w7 (.cells #[.slice none 0 0] 28)
          obtain ⟨ub, hxb_⟩ : ∃ b, b = w7.heap.size := ⟨_, rfl⟩
          obtain ⟨w8, hw_⟩ : ∃ w2, w7.alloc (.cells #[.slice none 0 0] 28) = w2 := ⟨_, rfl⟩
          rw [hw_] at hal_ hb_
          rw [← hxb_] at hb_
          have Hw7t := Lib.hid hw_
          have Hx7t := Lib.hid hxb_
          have Hal7t := Lib.hid hal_
          have Hb7t := Lib.hid hb_
          have Hc7t := Lib.hid (Hc5t.out.trans (hc7.trans hal_))
          have Hb57 := Lib.hid (row_kept (hc7.trans hal_) Hb5t.out id)
          have Hal57 := Lib.hid (hc7.trans hal_)
          clear hal_ hb_ hxb_ hw_ hc7
          go_upto_region 16 with fail
          rw [Hw7t.out, ← Hx7t.out]
          rcases hy with rfl | rfl
          · rcases hz with rfl | rfl
            · go_wp2_with fail
              go_ret
              exact ⟨rfl, Hc7t.out⟩
            · go_wp2_with fail
              go_ret
              exact ⟨rfl, Hc7t.out⟩
          · rcases hz with rfl | rfl
            · go_wp2_with fail
              go_ret
              exact ⟨rfl, Hc7t.out⟩
            · go_wp2_with fail
              go_ret
              exact ⟨rfl, Hc7t.out⟩
/-FRAME-/
set_option maxRecDepth 100000 in
theorem treeOrders_lifted (os : Os) (started : os.Started) (H : Type) (enc : TypeId × Value → H) :
    ReturnsInHanded {} Tryd.checked os 3 .any (fun w args => (Rows.treeOrdersSpec.pre enc Tryd.prog Tryd.f3 [] false w args ∧ laidMetH Tryd.prog Rows.treeOrdersRow.laid w) ∧ sizedMet enc Tryd.prog Tryd.f3 (OpenSpec.ofChange Rows.treeOrdersSpec) false w args)
      (Rows.treeOrdersSpec.post enc Tryd.prog Tryd.f3 false true false false) := by
  refine returns_both (C := Tryd.checked) (X := fun w _ => laidMetH Tryd.prog Rows.treeOrdersRow.laid w) (fun _ _ _ hh h => h.of_heap hh) Tryd.own started (by kernel_rfl) Tryd.func3
    (ChangeSpec.witness_shaped (enc := enc) (C := Tryd.checked) (os := os) (X := fun w _ => laidMetH Tryd.prog Rows.treeOrdersRow.laid w) false (World.laidAll Tryd.prog os Rows.treeOrdersRow.laid) #[.slice none 0 0, .int .i64 0] 8 (World.laidAll_os _ _ _)
      (World.shaped_of_ZipB (by kernel_rfl) (by kernel_rfl)) (by kernel_rfl) (by kernel_rfl) (by kernel_rfl)
      (by rw [MakeChecks.laidMetH_plain _ _ _ (by kernel_rfl)]; exact laidMet_laidAll _ (by kernel_rfl) (by kernel_rfl))) ?_
  intro W base args ds gs before hval0 hW _ hsz hL hsh _
  have hval : ∀ (j : Nat) t v, Tryd.f3.params[j]? = some t → args[j]? = some v → Value.okWide Tryd.prog W .any base t v := hval0
  have hW' := hW
  obtain ⟨p, q, hA0, hV, rfl, _, _⟩ := hW
  have hA : DataW.TrodAll enc Tryd.prog W 0 (fun _ => true) true Tryd.f3.params.toList args.toList ds p := hA0
  have hsz1 : (DataW.weightsEach Tryd.prog (Tryd.f3.params.toList ++ Rows.treeOrdersSpec.plain.varTypes Tryd.prog) (ds ++ gs)).all (· ≤ reachBytes) = true := hsz
  rw [Tryd.params3] at hA hval hsz1
  obtain ⟨v0, v1, d0, d1, p0, p1, rfl, rfl, rfl, h0, h1⟩ := trodAll_two hA
  obtain ⟨rfl, rfl⟩ := trodVars_none hV
  obtain ⟨l0, kb0, ko0, hn0, hr0⟩ := open_files (hval 0 22 v0 rfl rfl) h0 (fun m hm => of_decide_eq_true (List.all_eq_true.1 hsz1 m (DataW.weights_mem_each (j := 0) (t := 22) (d := d0) rfl rfl m hm)))
  obtain ⟨x1, rfl, rfl, rfl, wx1⟩ := open_int Tryd.underlying3 (hval 1 3 v1 rfl rfl) h1
  simp only [List.append_nil] at hW'
  rw [MakeChecks.laidMetH_plain _ _ _ (by kernel_rfl)] at hL
  have hL' : laidMet Tryd.prog [("math/bits.deBruijn32tab", Rows.laid_math_bits_deBruijn32tab), ("math/bits.deBruijn64tab", Rows.laid_math_bits_deBruijn64tab), ("internal/strconv.uint64pow10", Rows.laid_internal_strconv_uint64pow10), ("unicode/utf8.acceptRanges", Rows.laid_unicode_utf8_acceptRanges), ("unicode/utf8.first", Rows.laid_unicode_utf8_first)] W := hL
  have hlb : Lw W.heap.size W := lw_of hL' (.tail _ (.tail _ (.head _)))
  have hml : Pth.Ml W := wml_of hsh
  clear hA0 hval0
  refine (treeOrders_all l0 _ kb0 ko0 x1 W hn0 hr0 wx1 hlb hml).mono fun e W' ⟨he, hb⟩ => ?_
  subst he
  exact ⟨_, rfl, _, _, _, [], _, [], hW', trodAll_mk1 (shut_bool Tryd.underlying4 _), (trodAll_cons_mk (files_stay h0 hb.below) (trodAll_cons_mk (shut_int Tryd.underlying3 wx1) trodAll_mk0)), rfl, hb.below.frame _, fun h => by cases h⟩
theorem treeOrders_holds : Rows.TreeOrdersSaid :=
  OpenClaim.holds_of_wide 3 Tryd.f3 rfl rfl rfl rfl rfl rfl rfl ⟨rfl, rfl, rfl, rfl, rfl⟩ rfl rfl rfl rfl rfl (by kernel_rfl) Tryd.func3 (by kernel_rfl)
    (of_decide_eq_true (by kernel_rfl)) (by unfold Func.isWrapper; first | (rw [if_pos (by decide +kernel)]; kernel_rfl) | (rw [if_neg (by decide +kernel)]; exact ⟨rfl, rfl⟩))
    (fun os started H enc _ => treeOrders_lifted os started H enc)
theorem treeOrders_card : Rows.TreeOrdersCardSaid :=
  Claim7.holds_tied_plain_at .later [] [.data, .data, .data, .data, .pinned] true (true, "cbee21be2c2894f033b1d23d06768d056e4ff80436066a5319d37677786e6df4") false treeOrders_holds (fun _ h => by cases h) (by kernel_rfl) (fun _ h => by cases h) treeOrders_row_tie rfl ⟨rfl, rfl⟩ (by kernel_rfl) rfl
    (fun f fn hf hfn => by
      obtain rfl : f = 3 := Option.some.inj ((show Tryd.prog.funcNamed "sapling/saplinglaw05.TreeOrders" = some 3 by kernel_rfl).symm.trans hf) |>.symm
      obtain rfl : fn = Tryd.f3 := (Option.some.inj (Tryd.func3.symm.trans hfn)).symm
      exact ⟨by kernel_rfl, fun j t ht => by
        rw [Tryd.params3] at ht
        have hm : t ∈ [22, 3] := by simpa using Array.mem_of_getElem? ht
        have hall : ([22, 3].all fun u => !Tryd.prog.wantsStandIn u) = true := by kernel_rfl
        exact (show Tryd.prog.wantsStandIn t = false by simpa using List.all_eq_true.1 hall t hm)⟩)
    (by kernel_rfl)
#print axioms treeOrders_card
end Go.Proofs.YtilkcjcmcnlfnaaDoor
