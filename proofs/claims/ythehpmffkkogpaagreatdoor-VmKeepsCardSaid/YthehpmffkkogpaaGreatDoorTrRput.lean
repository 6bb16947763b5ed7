/- The contracts of the document's Put, Drop and Get. Condition: texts of at most 2^18 bytes, at most 2^20 files; the library's own variable holds some number. -/
import Derived.Test.YthehpmffkkogpaaGreatDoorTrCut
import Derived.Test.YthehpmffkkogpaaGreatDoorTrPut
namespace Go.Proofs.YthehpmffkkogpaaGreatDoor
set_option linter.unusedVariables false
open Go.ChangeShapes Go.WideShapes Go.ChangeAt Go.RowKit
set_option maxHeartbeats 8000000 in
set_option maxRecDepth 20000 in
theorem rput_any (t : List FileL) (f : FileL) (hl : t.length ≤ 1048576) (hw : ∀ x ∈ t, x.1.length ≤ 1048576 ∧ x.2.length ≤ 1048576) (hf1 : f.1.length ≤ 1048576) (hf2 : f.2.length ≤ 1048576) (S : Nat → Prop) (v : Value) (kb ko : Nat) (w : World) (hm : Pth.Ml w) (hs : InpS w S v t kb ko) :
    Calls Tryz.prog 73 #[.agg #[v], .agg #[.string (tx f.1), .string (tx f.2)]] w (MakeP (putF t f) w) := by
  obtain ⟨f1, f2⟩ := f
  change f1.length ≤ 1048576 at hf1
  change f2.length ≤ 1048576 at hf2
  show Calls _ _ #[_, .agg #[.string (tx f1), .string (tx f2)]] _ _
  have Hs := Lib.hid hs
  obtain ⟨⟨q, c, rfl, h1, h2, h3⟩, hat⟩ := hs
  have Hat := Lib.hid hat
  have H3 := Lib.hid h3
  unfold maxLen at h2
  have Hm := Lib.hid hm
  have Hl := Lib.hid hl
  have Hw := Lib.hid hw
  have HG := Lib.hid (fun w' (h : Chg NoB w w') => rgood_any t hl hw S _ kb ko w' (Hs.out.keep h fun _ _ => id))
  obtain ⟨gd, hgd⟩ : ∃ g, g = goodF t := ⟨_, rfl⟩
  rw [← hgd] at HG
  have Hgd := Lib.hid hgd
  obtain ⟨n, hn⟩ : ∃ n, n = t.length := ⟨_, rfl⟩
  rw [← hn] at Hs HG h1 ⊢
  have Hn := Lib.hid hn
  obtain ⟨res, hres⟩ : ∃ r, r = putF t (f1, f2) := ⟨_, rfl⟩
  rw [← hres]
  have Hres0 := Lib.hid hres
  have hal_ := (Chg.refl NoB w).alloc (.cells #[.slice q n c] 25)
  have hb_ := heap_alloc_new w (.cells #[.slice q n c] 25)
  obtain ⟨tb, hxb_⟩ : ∃ b, b = w.heap.size := ⟨_, rfl⟩
  obtain ⟨w1, hw_⟩ : ∃ w_, w.alloc (.cells #[.slice q n c] 25) = w_ := ⟨_, rfl⟩
  have hz_ : w1.heap.size = tb + 1 := by rw [← hw_, hxb_]; exact alloc_size _ _
  rw [hw_] at hal_ hb_
  rw [← hxb_] at hb_
  have Hw1 := Lib.hid hw_
  have Hx1 := Lib.hid hxb_
  have Ha1 := Lib.hid hal_
  have Hb1 := Lib.hid hb_
  have Hz1 := Lib.hid hz_
  clear hal_ hb_ hxb_ hw_ hz_
  have hal_ := (Chg.refl NoB w1).alloc (.cells #[.string (tx f1), .string (tx f2)] 43)
  have hb_ := heap_alloc_new w1 (.cells #[.string (tx f1), .string (tx f2)] 43)
  obtain ⟨fb, hxb_⟩ : ∃ b, b = w1.heap.size := ⟨_, rfl⟩
  obtain ⟨w2, hw_⟩ : ∃ w_, w1.alloc (.cells #[.string (tx f1), .string (tx f2)] 43) = w_ := ⟨_, rfl⟩
  have hz_ : w2.heap.size = fb + 1 := by rw [← hw_, hxb_]; exact alloc_size _ _
  rw [hw_] at hal_ hb_
  rw [← hxb_] at hb_
  have Hw2 := Lib.hid hw_
  have Hx2 := Lib.hid hxb_
  have Ha2 := Lib.hid hal_
  have Hb2 := Lib.hid hb_
  have Hz2 := Lib.hid hz_
  clear hal_ hb_ hxb_ hw_ hz_
  have hal_ := (Chg.refl NoB w2).alloc (.cells #[.slice none 0 0] 25)
  have hb_ := heap_alloc_new w2 (.cells #[.slice none 0 0] 25)
  obtain ⟨rb, hxb_⟩ : ∃ b, b = w2.heap.size := ⟨_, rfl⟩
  obtain ⟨w3, hw_⟩ : ∃ w_, w2.alloc (.cells #[.slice none 0 0] 25) = w_ := ⟨_, rfl⟩
  have hz_ : w3.heap.size = rb + 1 := by rw [← hw_, hxb_]; exact alloc_size _ _
  rw [hw_] at hal_ hb_
  rw [← hxb_] at hb_
  have Hw3 := Lib.hid hw_
  have Hx3 := Lib.hid hxb_
  have Ha3 := Lib.hid hal_
  have Hb3 := Lib.hid hb_
  have Hz3 := Lib.hid hz_
  clear hal_ hb_ hxb_ hw_ hz_
  have Hwr := Lib.hid (show w.heap.size ≤ rb by have := Hx1.out; have := Hz1.out; have := Hx2.out; have := Hz2.out; have := Hx3.out; omega)
  have Hc3 := Lib.hid (Ha1.out.trans (Ha2.out.trans Ha3.out))
  have Ht3 := Lib.hid (row_kept (Ha2.out.trans Ha3.out) Hb1.out id)
  have Hf3 := Lib.hid (row_kept Ha3.out Hb2.out id)
  have hx2 : tb + 1 = fb := by rw [Hx2.out, Hz1.out]
  have hx3 : fb + 1 = rb := by rw [Hx3.out, Hz2.out]
  obtain ⟨i0, hi, hz0, hz1, hz2⟩ := info_parts inpInfo
  have Hi := Lib.hid hi
  have Hz0 := Lib.hid hz0
  have Hzb1 := Lib.hid hz1
  have Hzb2 := Lib.hid hz2
  clear hm hl hw hgd hn hres hi hz0 hz1 hz2 h3 hat
  have t0 := var1 Ht3.out
  go_enter Tryz.func73, Tryz.ntmps73
  go_upto_region 1 with fail
  rw [Hw1.out, Hw2.out, Hw3.out, ← Hx1.out]
  rw [hx2, hx3]
  clear hx2 hx3
  go_wp2_with fail
  refine (HG.out _ Hc3.out).mono ?_
  rintro e w4 ⟨rfl, hc4⟩
  have Hc4 := Lib.hid (Hc3.out.trans hc4)
  have Hr4 := Lib.hid (row_kept hc4 Hb3.out id)
  have Ht4 := Lib.hid (row_kept hc4 Ht3.out id)
  have Hf4 := Lib.hid (row_kept hc4 Hf3.out id)
  clear hc4 t0 HG
  have t0 := var1 Ht4.out
  have r0 := var1 Hr4.out
  have rf := row_free Hr4.out
  cases gd with
  | false =>
    have Hres : Hid (res = .error 1) := Lib.hid (by rw [Hres0.out]; exact putF_no Hgd.out.symm)
    go_wp2_with fail
    have e0 := var1 (heap_set Hr4.out (i := 0) (.slice none 0 0))
    have hfin := Hc4.out.setCell (p := ⟨rb, 0, none⟩) (.inr Hwr.out) (.slice none 0 0)
    generalize w4.setCell ⟨rb, 0, none⟩ (.slice none 0 0) = wf at *
    refine bodyPost_ret (v := .tuple #[.agg #[.slice none 0 0], .int .i64 1]) (by simp [results, Tryz.results73, go_sem, e0]) rfl ⟨hfin, ?_⟩
    rw [Hres.out]
  | true =>
    have Hsz := Lib.hid (good_sizes Hgd.out.symm)
    have hnb : n ≤ 32 := by rw [Hn.out]; exact Hsz.out.1
    have Hres : Hid (res = makeF (delF (fun x => decide (x.1 = f1)) t ++ [(f1, f2)])) := Lib.hid (by rw [Hres0.out]; exact putF_yes Hgd.out.symm)
    clear r0 rf
    have hrl := lt_of_block Hr4.out
    have hfl := lt_of_block Hf4.out
    obtain ⟨lo, hlo⟩ : ∃ l, l = w4.heap.size := ⟨_, rfl⟩
    have Hord := Lib.hid (show w.heap.size ≤ rb ∧ rb < lo ∧ fb < lo by have := Hwr.out; omega)
    have Hlo := Lib.hid hlo
    clear hlo hrl hfl
    go_wp2_with fail
    clear t0
    go_loopw [6, 16] (fun lv i wr => ∃ (k : Nat), k ≤ n ∧ i = .int .i64 k ∧ wr.ownsRow lo 43 2 lv (delF (fun x => decide (x.1 = f1)) (t.take k)).length (flatP (delF (fun x => decide (x.1 = f1)) (t.take k))) ∧ Chg NoB w4 wr) (fun lv i _ => n - (intOf i).toNat)
    case atStart => exact ⟨0, Nat.zero_le _, rfl, World.ownsRow_nil _ _ _ _, Chg.refl _ _⟩
    case round =>
      obtain ⟨k, hk, rfl, hrow, hch⟩ := hrel
      have hml := del_len (fun x => decide (x.1 = f1)) (t.take k)
      rw [List.length_take] at hml
      obtain ⟨acc, hacc⟩ : ∃ a, a = delF (fun x : FileL => decide (x.1 = f1)) (t.take k) := ⟨_, rfl⟩
      rw [← hacc] at hrow hml
      obtain ⟨m, hmm⟩ : ∃ m, m = acc.length := ⟨_, rfl⟩
      rw [← hmm] at hrow hml
      have Hacc := Lib.hid hacc
      have Hmm := Lib.hid hmm
      obtain ⟨lq, lc, rfl, hnc, hcm⟩ := row_shape hrow
      have Hch := Lib.hid hch
      have Hrow := Lib.hid hrow
      have Hcw := Lib.hid (Hc4.out.trans hch)
      have Hrr := Lib.hid (row_kept hch Hr4.out id)
      have Hff := Lib.hid (row_kept hch Hf4.out id)
      unfold maxLen at hcm
      clear hrow hch hacc hmm
      by_cases hlt : k < n
      · have hlt' : k < t.length := by rw [← Hn.out]; exact hlt
        obtain ⟨rfl, -⟩ := H3.out (by intro e; rw [e] at hlt'; simp at hlt')
        have c0 := Hcw.out.keep (Hat.out k hlt').1
        have c1 := Hcw.out.keep (Hat.out k hlt').2
        have htk := del_take (p := fun x => decide (x.1 = f1)) hlt'
        rw [← Hacc.out] at htk
        generalize t[k] = x at *
        obtain ⟨x1, x2⟩ := x
        simp only at c0 c1 htk
        have hr := tx_beq x1 f1
        obtain ⟨b1, hb1⟩ : ∃ b, b = decide (x1 = f1) := ⟨_, rfl⟩
        rw [← hb1] at hr htk
        have Htk := Lib.hid htk
        clear hlt' htk hb1
        have hal_ := (Chg.refl NoB wr).alloc (.cells #[.string (tx x1), .string (tx x2)] 43)
        have hb_ := heap_alloc_new wr (.cells #[.string (tx x1), .string (tx x2)] 43)
        obtain ⟨gb, hxb_⟩ : ∃ b, b = wr.heap.size := ⟨_, rfl⟩
        obtain ⟨w7, hw_⟩ : ∃ w_, wr.alloc (.cells #[.string (tx x1), .string (tx x2)] 43) = w_ := ⟨_, rfl⟩
        have hz_ : w7.heap.size = gb + 1 := by rw [← hw_, hxb_]; exact alloc_size _ _
        rw [hw_] at hal_ hb_
        rw [← hxb_] at hb_
        have Hw7 := Lib.hid hw_
        have Hx7 := Lib.hid hxb_
        have Ha7 := Lib.hid hal_
        have Hb7 := Lib.hid hb_
        have Hz7 := Lib.hid hz_
        clear hal_ hb_ hxb_ hw_ hz_
        have Hff7 := Lib.hid (row_kept Ha7.out Hff.out id)
        go_upto_region 7 with fail
        rw [Hw7.out, ← Hx7.out]
        clear c0 c1
        obtain ⟨g0, g1⟩ := var2 Hb7.out
        obtain ⟨f0, f1'⟩ := var2 Hff7.out
        have Hc7 := Lib.hid (Hch.out.trans Ha7.out)
        have Hrow7 := Lib.hid (ownsRow_chg Hrow.out Ha7.out fun _ _ => id)
        cases b1 with
        | true =>
          have Htk' : Hid (delF (fun x => decide (x.1 = f1)) (t.take (k + 1)) = acc) := Lib.hid (by rw [Htk.out]; simp)
          go_wp2_with fail
          go_roundw
          case rel => exact ⟨k + 1, by omega, by go_num, by rw [Htk'.out, ← Hmm.out]; exact Hrow7.out, Hc7.out⟩
          case measure => simp [intOf]; omega
        | false =>
          have Htk' : Hid (delF (fun x => decide (x.1 = f1)) (t.take (k + 1)) = acc ++ [(x1, x2)]) := Lib.hid (by rw [Htk.out]; simp)
          have M1 := Lib.hid (show m + 1 ≤ maxLen by unfold maxLen; omega)
          have M2 := Lib.hid (show (m + 1) * 32 ≤ 140737488355328 by omega)
          have halA := (Chg.refl NoB w7).alloc (.cells #[.string (tx x1), .string (tx x2)] 43)
          have HcA := Lib.hid (Hc7.out.trans halA)
          have HownA := Lib.hid (ownsRow_chg Hrow7.out halA fun _ _ => id)
          have HloA : Hid (lo ≤ (w7.alloc (.cells #[.string (tx x1), .string (tx x2)] 43)).heap.size) := Lib.hid (by have h1 := Hlo.out; have h2 := Hc7.out.size; have h4 := halA.size; omega)
          clear halA
          go_wp2_with (at_builtin; refine wpList_append_at _ rfl _ _ 23 rfl lo 43 i0 (.agg #[.string ⟨#[]⟩, .string ⟨#[]⟩]) 2 32 Tryz.underlying23 Hi.out Hz0.out Hzb1.out Hzb2.out rfl (by decide) _ m _ rfl HownA.out _ 1 1 [.string (tx x1), .string (tx x2)] rfl rfl (lit2 _ _ _ _) (one2 _ _) M1.out M2.out HloA.out ?_; intro v11 w11 hown11 hgr11 hpl11)
          have Hch11 : Hid (Chg NoB w4 w11) := Lib.hid (HcA.out.grown hgr11 fun j hj => .inr (by have h1 := (World.ownsRow.lt HownA.out j hj).1; have := Hlo.out; omega))
          have Hown11 : Hid (w11.ownsRow lo 43 2 v11 (m + 1) (flatP (acc ++ [(x1, x2)]))) := Lib.hid (by rw [flatP_app]; exact hown11)
          clear hown11 hgr11 hpl11
          go_wp2_with fail
          go_roundw
          case rel => exact ⟨k + 1, by omega, by go_num, by rw [Htk'.out, List.length_append, ← Hmm.out]; exact Hown11.out, Hch11.out⟩
          case measure => simp [intOf]; omega
      · obtain rfl : k = n := by omega
        have htk : t.take k = t := by rw [Hn.out]; exact List.take_of_length_le (Nat.le_refl _)
        have had : acc = delF (fun x : FileL => decide (x.1 = f1)) t := by rw [Hacc.out, htk]
        have Hdm := Lib.hid (show ∀ x ∈ acc, x ∈ t from fun x hx => by rw [had] at hx; exact del_mem hx)
        rw [← had] at Hres
        clear htk had hlt
        obtain ⟨f0, f1'⟩ := var2 Hff.out
        have hal6 := (Chg.refl NoB wr).alloc (.cells #[.string (tx f1), .string (tx f2)] 43)
        have Hrow6 := Lib.hid (ownsRow_chg Hrow.out hal6 fun _ _ => id)
        have Hc6 := Lib.hid (Hcw.out.trans hal6)
        have Hr6 := Lib.hid (row_kept hal6 Hrr.out id)
        have M1 := Lib.hid (show m + 1 ≤ maxLen by unfold maxLen; omega)
        have M2 := Lib.hid (show (m + 1) * 32 ≤ 140737488355328 by omega)
        have Hlz : Hid (lo ≤ (wr.alloc (.cells #[.string (tx f1), .string (tx f2)] 43)).heap.size) := Lib.hid (by have h1 := Hlo.out; have h2 := Hch.out.size; have h4 := hal6.size; omega)
        clear hal6
        go_wp2_with (at_builtin; refine wpList_append_at _ rfl _ _ 23 rfl lo 43 i0 (.agg #[.string ⟨#[]⟩, .string ⟨#[]⟩]) 2 32 Tryz.underlying23 Hi.out Hz0.out Hzb1.out Hzb2.out rfl (by decide) _ m _ rfl Hrow6.out _ 1 1 [.string (tx f1), .string (tx f2)] rfl rfl (lit2 _ _ _ _) (one2 _ _) M1.out M2.out Hlz.out ?_)
        intro v9 w7 hown9 hgr9 hpl9
        obtain ⟨q9, c9, rfl, -, -⟩ := row_shape hown9
        have hch7 : Chg NoB w w7 := Hc6.out.grown hgr9 fun j hj => .inr (by have h1 := (World.ownsRow.lt Hrow6.out j hj).1; have := Hord.out; omega)
        have Hr7 := Lib.hid (row_kept ((Chg.refl (fun j => (Value.slice lq m lc).ownBlock = some j) _).grown hgr9 fun j hj => .inl hj) Hr6.out (fun e => by have h1 := (World.ownsRow.lt Hrow6.out rb e).1; have := Hord.out; omega))
        have hrow7 : w7.ownsRow lo 43 2 (.slice q9 (m + 1) c9) (acc ++ [(f1, f2)]).length (flatP (acc ++ [(f1, f2)])) := by
          rw [List.length_append, ← Hmm.out, flatP_app]
          exact hown9
        obtain ⟨nb, hns⟩ := InpS.of_row hrow7
        have Hc7 := Lib.hid hch7
        have HM := Lib.hid (rmake_any (acc ++ [(f1, f2)]) (by rw [List.length_append, ← Hmm.out]; show m + 1 ≤ _; omega) (fun x hx => by
          rcases List.mem_append.1 hx with hx | hx
          · exact Hw.out x (Hdm.out x hx)
          · rw [List.mem_singleton.1 hx]; exact ⟨hf1, hf2⟩) _ _ nb 0 w7 hns)
        have Hrl7 := Lib.hid (lt_of_block Hr7.out)
        rw [← Hres.out] at HM
        clear hown9 hgr9 hpl9 hch7 hrow7 hns f0 f1'
        go_wp2_with fail
        refine HM.out.mono ?_
        intro e w8 hp8
        obtain ⟨q8, n8, c8, y8, rfl, hc8, hps⟩ := hp8.pass
        have Hc8 := Lib.hid (Hc7.out.trans hc8)
        have Hr8 := Lib.hid (row_kept hc8 Hr7.out id)
        have Hps := Lib.hid hps
        have r0 := var1 Hr8.out
        have rf := row_free Hr8.out
        clear hp8 hc8 hps
        go_wp2_with fail
        have e0 := var1 (heap_set Hr8.out (i := 0) (.slice q8 n8 c8))
        have hst : Chg (fun x => x = rb) w8 (w8.setCell ⟨rb, 0, none⟩ (.slice q8 n8 c8)) := (Chg.refl (fun x => x = rb) w8).setCell (p := ⟨rb, 0, none⟩) (.inl rfl) _
        generalize w8.setCell ⟨rb, 0, none⟩ (.slice q8 n8 c8) = wf at *
        exact bodyPost_ret (v := .tuple #[.agg #[.slice q8 n8 c8], .int .i64 y8]) (by simp [results, Tryz.results73, go_sem, e0]) rfl (Hps.out w wf rb Hc7.out Hwr.out Hrl7.out hst)
end Go.Proofs.YthehpmffkkogpaaGreatDoor
namespace Go.Proofs.YthehpmffkkogpaaGreatDoor
set_option linter.unusedVariables false
open Go.ChangeShapes Go.WideShapes Go.ChangeAt Go.RowKit
theorem getF_cons (x : FileL) (r : List FileL) (p : List UInt8) : getF (x :: r) p = if x.1 = p then (x.2, true) else getF r p := by
  unfold getF
  rw [List.find?_cons]
  by_cases h : x.1 = p <;> simp [h]
theorem getF_from {t : List FileL} {p : List UInt8} : ∀ (k : Nat) (hk : k < t.length), (∀ j (hj : j < k), (t[j]'(by omega)).1 ≠ p) → t[k].1 = p → getF t p = (t[k].2, true) := by
  induction t with
  | nil => intro k hk; simp at hk
  | cons x r ih =>
    intro k hk h1 h2
    rw [getF_cons]
    match k, hk with
    | 0, _ => have h2' : x.1 = p := h2; rw [if_pos h2']; rfl
    | k + 1, hk =>
      have h3 : x.1 ≠ p := h1 0 (by omega)
      rw [if_neg h3]
      exact ih k (by simpa using hk) (fun j hj => h1 (j + 1) (by omega)) h2
theorem getF_off {t : List FileL} {p : List UInt8} (h : ∀ j (hj : j < t.length), t[j].1 ≠ p) : getF t p = ([], false) := by
  induction t with
  | nil => rfl
  | cons x r ih =>
    rw [getF_cons]
    have h3 : x.1 ≠ p := h 0 (by simp)
    rw [if_neg h3]
    exact ih fun j hj => h (j + 1) (by simp; omega)
set_option maxHeartbeats 4000000 in
set_option maxRecDepth 20000 in
theorem rget_any (t : List FileL) (p : List UInt8) (S : Nat → Prop) (v : Value) (kb ko : Nat) (w : World) (hl : t.length ≤ 1048576) (hs : InpS w S v t kb ko) :
    Calls Tryz.prog 45 #[.agg #[v], .string (tx p)] w fun e w' => Chg NoB w w' ∧ e = .returned (.tuple #[.string (tx (getF t p).1), .bool (getF t p).2]) := by
  obtain ⟨⟨q, c, rfl, h1, h2, h3⟩, hat⟩ := hs
  have Hat := Lib.hid hat
  have H3 := Lib.hid h3
  unfold maxLen at h2
  obtain ⟨n, hn⟩ : ∃ n, n = t.length := ⟨_, rfl⟩
  rw [← hn] at h1 hl ⊢
  have Hn := Lib.hid hn
  have hal_ := (Chg.refl NoB w).alloc (.cells #[.slice q n c] 25)
  have hb_ := heap_alloc_new w (.cells #[.slice q n c] 25)
  obtain ⟨tb, hxb_⟩ : ∃ b, b = w.heap.size := ⟨_, rfl⟩
  obtain ⟨w1, hw_⟩ : ∃ w_, w.alloc (.cells #[.slice q n c] 25) = w_ := ⟨_, rfl⟩
  have hz_ : w1.heap.size = tb + 1 := by rw [← hw_, hxb_]; exact alloc_size _ _
  rw [hw_] at hal_ hb_
  rw [← hxb_] at hb_
  have Hw1 := Lib.hid hw_
  have Hx1 := Lib.hid hxb_
  have Ha1 := Lib.hid hal_
  have Hb1 := Lib.hid hb_
  have Hz1 := Lib.hid hz_
  clear hal_ hb_ hxb_ hw_ hz_
  obtain ⟨r1, hr1⟩ : ∃ r, r = (getF t p).1 := ⟨_, rfl⟩
  obtain ⟨r2, hr2⟩ : ∃ r, r = (getF t p).2 := ⟨_, rfl⟩
  rw [← hr1, ← hr2]
  have Hr1 := Lib.hid hr1
  have Hr2 := Lib.hid hr2
  clear hn h3 hat hr1 hr2
  have t0 := var1 Hb1.out
  go_enter Tryz.func45, Tryz.ntmps45
  go_upto_region 1 with fail
  rw [Hw1.out, ← Hx1.out]
  go_wp2_with fail
  clear t0
  go_loopw [11] (fun i wr => ∃ (k : Nat), k ≤ n ∧ i = .int .i64 k ∧ (∀ j (hj : j < k) (hl : j < t.length), t[j].1 ≠ p) ∧ Chg NoB w wr) (fun i _ => n - (intOf i).toNat)
  case atStart => exact ⟨0, Nat.zero_le _, rfl, fun j hj => by omega, Ha1.out⟩
  case round =>
    obtain ⟨k, hk, rfl, hno, hch⟩ := hrel
    have Hno := Lib.hid hno
    have Hch := Lib.hid hch
    clear hno hch
    by_cases hlt : k < n
    · have hlt' : k < t.length := by rw [← Hn.out]; exact hlt
      obtain ⟨rfl, -⟩ := H3.out (by intro e; rw [e] at hlt'; simp at hlt')
      have c0 := Hch.out.keep (Hat.out k hlt').1
      have c1 := Hch.out.keep (Hat.out k hlt').2
      have Hit : Hid (t[k].1 = p → getF t p = (t[k].2, true)) := Lib.hid fun h => getF_from k hlt' (fun j hj => Hno.out j hj (by omega)) h
      have Hoff : Hid (t[k].1 ≠ p → ∀ j (hj : j < k + 1) (hl : j < t.length), t[j].1 ≠ p) := Lib.hid fun h j hj hl' => by
        by_cases e : j = k
        · subst e; exact h
        · exact Hno.out j (by omega) hl'
      generalize t[k] = x at *
      obtain ⟨x1, x2⟩ := x
      simp only at c0 c1 Hit Hoff
      have hr := tx_beq x1 p
      by_cases hxp : x1 = p
      · have hg := Hit.out hxp
        have e1 : x2 = r1 := by rw [Hr1.out, hg]
        have e2 : true = r2 := by rw [Hr2.out, hg]
        subst e1 e2
        rw [decide_eq_true hxp] at hr
        clear hxp hg hlt'
        have hal_ := (Chg.refl NoB wr).alloc (.cells #[.string (tx x1), .string (tx x2)] 43)
        have hb_ := heap_alloc_new wr (.cells #[.string (tx x1), .string (tx x2)] 43)
        obtain ⟨gb, hxb_⟩ : ∃ b, b = wr.heap.size := ⟨_, rfl⟩
        obtain ⟨w7, hw_⟩ : ∃ w_, wr.alloc (.cells #[.string (tx x1), .string (tx x2)] 43) = w_ := ⟨_, rfl⟩
        have hz_ : w7.heap.size = gb + 1 := by rw [← hw_, hxb_]; exact alloc_size _ _
        rw [hw_] at hal_ hb_
        rw [← hxb_] at hb_
        have Hw7 := Lib.hid hw_
        have Hx7 := Lib.hid hxb_
        have Ha7 := Lib.hid hal_
        have Hb7 := Lib.hid hb_
        have Hz7 := Lib.hid hz_
        clear hal_ hb_ hxb_ hw_ hz_
        go_upto_region 4 with fail
        rw [Hw7.out, ← Hx7.out]
        clear c0 c1
        obtain ⟨g0, g1⟩ := var2 Hb7.out
        have Hc7 := Lib.hid (Hch.out.trans Ha7.out)
        go_wp2_with fail
        go_ret2
        exact ⟨Hc7.out, rfl⟩
      · rw [decide_eq_false hxp] at hr
        have Hof := Lib.hid (Hoff.out hxp)
        clear hxp hlt'
        have hal_ := (Chg.refl NoB wr).alloc (.cells #[.string (tx x1), .string (tx x2)] 43)
        have hb_ := heap_alloc_new wr (.cells #[.string (tx x1), .string (tx x2)] 43)
        obtain ⟨gb, hxb_⟩ : ∃ b, b = wr.heap.size := ⟨_, rfl⟩
        obtain ⟨w7, hw_⟩ : ∃ w_, wr.alloc (.cells #[.string (tx x1), .string (tx x2)] 43) = w_ := ⟨_, rfl⟩
        have hz_ : w7.heap.size = gb + 1 := by rw [← hw_, hxb_]; exact alloc_size _ _
        rw [hw_] at hal_ hb_
        rw [← hxb_] at hb_
        have Hw7 := Lib.hid hw_
        have Hx7 := Lib.hid hxb_
        have Ha7 := Lib.hid hal_
        have Hb7 := Lib.hid hb_
        have Hz7 := Lib.hid hz_
        clear hal_ hb_ hxb_ hw_ hz_
        go_upto_region 4 with fail
        rw [Hw7.out, ← Hx7.out]
        clear c0 c1
        obtain ⟨g0, g1⟩ := var2 Hb7.out
        have Hc7 := Lib.hid (Hch.out.trans Ha7.out)
        go_wp2_with fail
        go_roundw
        case rel => exact ⟨k + 1, by omega, by go_num, Hof.out, Hc7.out⟩
        case measure => simp [intOf]; omega
    · obtain rfl : k = n := by omega
      have hg := getF_off (t := t) (p := p) fun j hj => Hno.out j (by rw [Hn.out]; exact hj) hj
      have e1 : r1 = [] := by rw [Hr1.out, hg]
      have e2 : r2 = false := by rw [Hr2.out, hg]
      subst e1 e2
      clear hlt hg
      go_wp2_with fail
      go_ret2
      exact ⟨Hch.out, rfl⟩
end Go.Proofs.YthehpmffkkogpaaGreatDoor
