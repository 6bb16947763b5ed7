/- The contract of the document's Make. Conditions: at most 2^20 files, paths of at most 2^20 bytes. -/
import Derived.Test.YthehpmffkkogpaaGreatDoorTrEq
import Derived.Test.YthehpmffkkogpaaGreatDoorPthAll
import Derived.Laws.Cover1
import Derived.OwnWalk
namespace Go.Proofs.YthehpmffkkogpaaGreatDoor
set_option linter.unusedVariables false
open Go.ChangeShapes Go.WideShapes Go.ChangeAt Go.RowKit
theorem rpgood_any (l : List UInt8) (w : World) (hl : l.length ≤ 1048576) : Calls Tryz.prog 68 #[.string (tx l)] w (SayB (Pth.goodL l) w) := by
  have h := Pth.goodR_any (tx l) w (by rw [tx_size]; exact hl)
  rw [tx_list] at h
  exact h.mono fun e w' h => ⟨h.1, chg_of_below h.2⟩
theorem ahead_any (p q : List UInt8) (w : World) (hp : p.length ≤ 262144) (hq : q.length ≤ 262144) : Calls Tryz.prog 69 #[.string (tx p), .string (tx q)] w (SayB (Pth.underL p q).isSome w) := by
  have h := Pth.underR_any (tx p) (tx q) w (by rw [tx_size]; exact hp) (by rw [tx_size]; exact hq)
  rw [tx_list, tx_list] at h
  unfold Pth.Undered at h
  generalize Pth.underL p q = r at *
  have H := Lib.hid h
  clear h
  go_enter Tryz.func69, Tryz.ntmps69
  cases r with
  | none =>
    go_wp2_with fail
    refine H.out.mono ?_
    rintro e w' ⟨rfl, hg⟩
    have Hg := Lib.hid (chg_of_below hg)
    clear hg
    go_wp2_with fail
    go_ret
    exact ⟨rfl, Hg.out⟩
  | some r =>
    go_wp2_with fail
    refine H.out.mono ?_
    rintro e w' ⟨rfl, hg⟩
    have Hg := Lib.hid (chg_of_below hg)
    clear hg
    go_wp2_with fail
    go_ret
    exact ⟨rfl, Hg.out⟩
theorem under_ahead {p q : List UInt8} (hp : Pth.goodL p = true) (hq : Pth.goodL q = true) : (Pth.underL p q).isSome = aheadL p q := by
  have hne : p ≠ [] := by rintro rfl; have := Pth.goodL_pos hp; simp at this
  have hpl : Pth.placeL p = true := by unfold Pth.placeL; rw [hp]; simp
  unfold Pth.underL aheadL dirL
  rw [if_pos ⟨hq, hpl⟩, if_neg hne]
  cases h : (p ++ [47]).isPrefixOf q with
  | true => rw [if_pos rfl]; rfl
  | false => rw [if_neg (by decide)]; rfl
theorem below_yes {f g : FileL} {a : List FileL} (h : bl g.1 f.1 = true) : belowF f (a ++ [g]) = belowF f a ++ [g] := by unfold belowF; rw [List.filter_append]; simp [h]
theorem below_no {f g : FileL} {a : List FileL} (h : bl g.1 f.1 = false) : belowF f (a ++ [g]) = belowF f a := by unfold belowF; rw [List.filter_append]; simp [h]
theorem above_yes {f g : FileL} {a : List FileL} (h : bl f.1 g.1 = true) : aboveF f (a ++ [g]) = aboveF f a ++ [g] := by unfold aboveF; rw [List.filter_append]; simp [h]
theorem above_no {f g : FileL} {a : List FileL} (h : bl f.1 g.1 = false) : aboveF f (a ++ [g]) = aboveF f a := by unfold aboveF; rw [List.filter_append]; simp [h]
theorem take_snoc' {α : Type} (l : List α) (k : Nat) (h : k < l.length) : l.take (k + 1) = l.take k ++ [l[k]] := by rw [List.take_add_one, List.getElem?_eq_getElem h]; rfl
theorem keys_snoc {l : List FileL} {k : Nat} (hk : k < l.length) (h : (keysL (l.take k)).Nodup) (hn : ∀ g ∈ sortF (l.take k), g.1 ≠ l[k].1) : (keysL (l.take (k + 1))).Nodup := by
  have hp := sortF_perm h
  rw [take_snoc' l k hk]
  unfold keysL at h ⊢
  rw [List.map_append, List.nodup_append]
  refine ⟨h, by simp, fun a ha b hb => ?_⟩
  obtain ⟨g, hg, rfl⟩ := List.mem_map.1 ha
  simp only [List.map_cons, List.map_nil, List.mem_singleton] at hb
  subst hb
  exact hn g (hp.mem_iff.2 hg)
theorem keys_two {l : List FileL} {k : Nat} (hk : k < l.length) (h : (keysL (l.take k)).Nodup) {g : FileL} (hg : g ∈ sortF (l.take k)) (he : g.1 = l[k].1) : ¬ (keysL l).Nodup := fun hn => by
  have hp := sortF_perm h
  have hgl := hp.mem_iff.1 hg
  obtain ⟨i, hi, hgi⟩ := List.getElem_of_mem hgl
  have hi' : i < k := by simp at hi; omega
  unfold keysL at hn
  rw [List.nodup_iff_pairwise_ne, List.pairwise_iff_getElem] at hn
  have := hn i k (by simp; omega) (by simpa using hk) hi'
  simp only [List.getElem_map] at this
  rw [List.getElem_take] at hgi
  exact this (by rw [hgi]; exact he)
theorem less_tx (x y : List UInt8) : Op.bytesLess (tx x).toList (tx y).toList = bl x y := by
  rw [Lib.toList_data, Lib.toList_data, tx_list, tx_list]
  rfl
theorem flatP_snoc (a : List FileL) (g : FileL) : flatP (a ++ [g]) = flatP a ++ [.string (tx g.1), .string (tx g.2)] := by rw [flatP_app]; rfl
set_option maxHeartbeats 8000000 in
set_option maxRecDepth 100000 in
theorem rmake_any (l : List FileL) (hl : l.length ≤ 1048576) (hw : ∀ x ∈ l, x.1.length ≤ 1048576 ∧ x.2.length ≤ 1048576) (S : Nat → Prop) (v : Value) (kb ko : Nat) (w : World) (hs : InpS w S v l kb ko) :
    Calls Tryz.prog 44 #[v] w (MakeP (makeF l) w) := by
  have Hs := Lib.hid hs
  obtain ⟨⟨q, c, rfl, h1, h2, h3⟩, hat⟩ := hs
  obtain ⟨n, hn⟩ : ∃ n, n = l.length := ⟨_, rfl⟩
  rw [← hn] at h1 hl Hs ⊢
  have hal := (Chg.refl NoB w).alloc (.cells #[.slice none 0 0] 25)
  have hb := heap_alloc_new w (.cells #[.slice none 0 0] 25)
  obtain ⟨rb, hrb⟩ : ∃ b, b = w.heap.size := ⟨_, rfl⟩
  obtain ⟨w1, hw1⟩ : ∃ w1, w.alloc (.cells #[.slice none 0 0] 25) = w1 := ⟨_, rfl⟩
  rw [hw1] at hal hb
  rw [← hrb] at hb
  obtain ⟨res, hres⟩ : ∃ r, r = makeF l := ⟨_, rfl⟩
  rw [← hres]
  have Hres0 := Lib.hid hres
  have Hn := Lib.hid hn
  have H3 := Lib.hid h3
  have Hat := Lib.hid hat
  have Hw := Lib.hid hw
  have Hw1 := Lib.hid hw1
  have Hrb := Lib.hid hrb
  have Hwr := Lib.hid (show w.heap.size ≤ rb by omega)
  have Hc1 := Lib.hid hal
  have Hr1 := Lib.hid hb
  unfold maxLen at h2
  clear hal hb hrb hw1 hres hn h3 hat hw
  go_enter Tryz.func44, Tryz.ntmps44
  go_upto_region 1 with fail
  rw [Hw1.out, ← Hrb.out]
  have rf := row_free Hr1.out
  have r0 := var1 Hr1.out
  by_cases h32 : 32 < n
  · have Hres : Hid (res = .error 13) := Lib.hid (by rw [Hres0.out]; exact make_many (by rw [← Hn.out]; exact h32))
    go_wp2_with fail
    obtain e0 := var1 (heap_set Hr1.out (i := 0) (.slice none 0 0))
    have hfin := Hc1.out.setCell (p := ⟨rb, 0, none⟩) (.inr Hwr.out) (.slice none 0 0)
    generalize w1.setCell ⟨rb, 0, none⟩ (.slice none 0 0) = wf at *
    refine bodyPost_ret (v := .tuple #[.agg #[.slice none 0 0], .int .i64 13]) (by simp [results, Tryz.results44, go_sem, e0]) rfl ⟨hfin, ?_⟩
    rw [Hres.out]
  have Hno : Hid (¬ 32 < l.length) := Lib.hid (by rw [← Hn.out]; exact h32)
  go_wp2_with fail
  clear r0 rf
  go_loopw [24] (fun i wr => ∃ k : Nat, k ≤ n ∧ i = .int .i64 k ∧ badF (l.take k) = none ∧ Chg NoB w1 wr) (fun i _ => n - (intOf i).toNat)
  case atStart => exact ⟨0, Nat.zero_le _, rfl, rfl, Chg.refl _ _⟩
  case round =>
    obtain ⟨k, hk, rfl, hbad, hch⟩ := hrel
    have Hbad := Lib.hid hbad
    have Hch := Lib.hid hch
    have Hcw := Lib.hid (Hc1.out.trans hch)
    have Hrr := Lib.hid (row_kept hch Hr1.out id)
    clear hbad hch
    by_cases hlt : k < n
    · have hlt' : k < l.length := by rw [← Hn.out]; exact hlt
      obtain ⟨rfl, -⟩ := H3.out (by rintro rfl; simp at hlt')
      obtain ⟨c0, c1⟩ := Hat.out k hlt'
      have c0 := Hcw.out.keep c0
      have c1 := Hcw.out.keep c1
      have Htk : Hid (l.take (k + 1) = l.take k ++ [l[k]]) := Lib.hid (take_snoc' l k hlt')
      have Hbd : Hid (∀ y, badF [l[k]] = some y → res = .error y) := Lib.hid fun y hy => by rw [Hres0.out]; exact make_bad Hno.out (bad_at hlt' Hbad.out hy)
      have hwk := Hw.out l[k] (List.getElem_mem hlt')
      generalize l[k] = f at *
      obtain ⟨f1, f2⟩ := f
      have hf1 : f1.length ≤ 1048576 := hwk.1
      have hf2 : f2.length ≤ 1048576 := hwk.2
      change wr.cell? ⟨kb, ko + k * 2, none⟩ = some (.string (tx f1)) at c0
      change wr.cell? ⟨kb, ko + k * 2 + 1, none⟩ = some (.string (tx f2)) at c1
      have hal_ := (Chg.refl NoB wr).alloc (.cells #[.string (tx f1), .string (tx f2)] 43)
      have hb_ := heap_alloc_new wr (.cells #[.string (tx f1), .string (tx f2)] 43)
      obtain ⟨xb, hxb_⟩ : ∃ b, b = wr.heap.size := ⟨_, rfl⟩
      obtain ⟨w2, hw_⟩ : ∃ w2, wr.alloc (.cells #[.string (tx f1), .string (tx f2)] 43) = w2 := ⟨_, rfl⟩
      rw [hw_] at hal_ hb_
      rw [← hxb_] at hb_
      have Hw2 := Lib.hid hw_
      have Hx2 := Lib.hid hxb_
      have Ha2 := Lib.hid hal_
      have Hb2 := Lib.hid hb_
      clear hal_ hb_ hxb_ hw_
      have Hc2 := Lib.hid (Hcw.out.trans Ha2.out)
      have Hch2 := Lib.hid (Hch.out.trans Ha2.out)
      have Hr2 := Lib.hid (row_kept Ha2.out Hrr.out id)
      obtain ⟨g, hg⟩ : ∃ g, g = Pth.goodL f1 := ⟨_, rfl⟩
      have hgd := rpgood_any f1 w2 hf1
      rw [← hg] at hgd
      have Hgd := Lib.hid hgd
      have Hg := Lib.hid hg
      have hsz : (tx f2).size = f2.length := tx_size f2
      obtain ⟨m, hmm⟩ : ∃ m, m = f2.length := ⟨_, rfl⟩
      rw [← hmm] at hsz hf2
      have Hmm := Lib.hid hmm
      clear hg hgd hwk hf1 hmm hlt'
      go_upto_region 6 with fail
      rw [Hw2.out, ← Hx2.out]
      clear c0 c1
      obtain ⟨b0, b1⟩ := var2 Hb2.out
      go_wp2_with fail
      refine Hgd.out.mono ?_
      rintro e w3 ⟨rfl, hc3⟩
      have Hc3 := Lib.hid (Hc2.out.trans hc3)
      have Hch3 := Lib.hid (Hch2.out.trans hc3)
      have Hr3 := Lib.hid (row_kept hc3 Hr2.out id)
      have Hb3 := Lib.hid (row_kept hc3 Hb2.out id)
      clear b0 b1 hc3 Hgd
      obtain ⟨b0, b1⟩ := var2 Hb3.out
      have rf := row_free Hr3.out
      have r0 := var1 Hr3.out
      cases g with
      | false =>
        have Hres := Lib.hid (Hbd.out 10 (bad_one1 Hg.out.symm))
        go_wp2_with fail
        obtain e0 := var1 (heap_set Hr3.out (i := 0) (.slice none 0 0))
        have hfin := Hc3.out.setCell (p := ⟨rb, 0, none⟩) (.inr Hwr.out) (.slice none 0 0)
        generalize w3.setCell ⟨rb, 0, none⟩ (.slice none 0 0) = wf at *
        refine bodyPost_ret (v := .tuple #[.agg #[.slice none 0 0], .int .i64 10]) (by simp [results, Tryz.results44, go_sem, e0]) rfl ⟨hfin, ?_⟩
        rw [Hres.out]
      | true =>
        by_cases hbig : 2048 < m
        · have Hres := Lib.hid (Hbd.out 3 (bad_one2 Hg.out.symm (by show 2048 < f2.length; rw [← Hmm.out]; exact hbig)))
          go_wp2_with fail
          obtain e0 := var1 (heap_set Hr3.out (i := 0) (.slice none 0 0))
          have hfin := Hc3.out.setCell (p := ⟨rb, 0, none⟩) (.inr Hwr.out) (.slice none 0 0)
          generalize w3.setCell ⟨rb, 0, none⟩ (.slice none 0 0) = wf at *
          refine bodyPost_ret (v := .tuple #[.agg #[.slice none 0 0], .int .i64 3]) (by simp [results, Tryz.results44, go_sem, e0]) rfl ⟨hfin, ?_⟩
          rw [Hres.out]
        · clear r0 rf
          go_wp2_with fail
          go_roundw
          case rel => exact ⟨k + 1, by omega, by go_num, by rw [Htk.out]; exact badF_snoc Hbad.out Hg.out.symm (by show f2.length ≤ 2048; rw [← Hmm.out]; omega), Hch3.out⟩
          case measure => simp [intOf]; omega
    · obtain rfl : n = k := by omega
      have Hbn : Hid (badF l = none) := Lib.hid (by have := Hbad.out; rwa [Hn.out, List.take_of_length_le (Nat.le_refl _)] at this)
      have Hgl : Hid (∀ x ∈ l, Pth.goodL x.1 = true) := Lib.hid fun x hx => (badF_none.1 Hbn.out x hx).1
      have hal := (Chg.refl NoB wr).alloc (.cells #[.slice none 0 0] 25)
      have hb := heap_alloc_new wr (.cells #[.slice none 0 0] 25)
      obtain ⟨tb, htb⟩ : ∃ b, b = wr.heap.size := ⟨_, rfl⟩
      have hsz := aSize wr (.cells #[.slice none 0 0] 25)
      obtain ⟨w3, hw3⟩ : ∃ w3, wr.alloc (.cells #[.slice none 0 0] 25) = w3 := ⟨_, rfl⟩
      rw [hw3] at hal hb hsz
      rw [← htb] at hb hsz
      obtain ⟨lo, hlo⟩ : ∃ lo, lo = w3.heap.size := ⟨_, rfl⟩
      have Hw3 := Lib.hid hw3
      have Htb := Lib.hid htb
      have Hc3 := Lib.hid (Hcw.out.trans hal)
      have Hr3 := Lib.hid (row_kept hal Hrr.out id)
      have Ht3 := Lib.hid hb
      have Hord := Lib.hid (show rb < tb ∧ w.heap.size ≤ tb ∧ lo = tb + 1 ∧ lo = w3.heap.size by have h1 := lt_of_block Hrr.out; have h2 := Hwr.out; omega)
      obtain ⟨i0, hi, hz0, hz1, hz2⟩ := info_parts inpInfo
      have Hi := Lib.hid hi
      have Hz0 := Lib.hid hz0
      have Hz1 := Lib.hid hz1
      have Hz2 := Lib.hid hz2
      have Happ : Hid (∀ (wz : World) (lo' : Nat) (fv : Value) (m : Nat) (a : List FileL) (g1 g2 : List UInt8) (v9 : Value) (w9 : World), w9.ownsRow lo' 43 2 v9 (m + 1) (flatP a ++ [.string (tx g1), .string (tx g2)]) → w9.ownsRow lo' 43 2 v9 (m + 1) (flatP (a ++ [(g1, g2)]))) := Lib.hid fun wz lo' fv m a g1 g2 v9 w9 h => by rw [flatP_snoc]; exact h
      clear hal hb htb hsz hw3 hlo hi hz0 hz1 hz2 hlt Hbad
      go_upto_region 12 with fail
      rw [Hw3.out, ← Htb.out]
      go_wp2_with fail
      obtain ⟨wl, rfl⟩ : ∃ wl : World, wl = wr := ⟨_, rfl⟩
      go_loopw [42] (fun i wi => ∃ (k : Nat) (tv : Value), k ≤ n ∧ i = .int .i64 k ∧ (keysL (l.take k)).Nodup ∧ wi.heap[tb]? = some (.cells #[tv] 25 (0, 0)) ∧ wi.ownsRow lo 43 2 tv k (flatP (sortF (l.take k))) ∧ Chg (fun y => y = tb) w3 wi) (fun i _ => n - (intOf i).toNat)
      case atStart => exact ⟨0, _, Nat.zero_le _, rfl, List.nodup_nil, Ht3.out, World.ownsRow_nil _ _ _ _, Chg.refl _ _⟩
      case round =>
        obtain ⟨wi, rfl⟩ : ∃ wi : World, wi = wr := ⟨_, rfl⟩
        obtain ⟨k, tv, hk, rfl, hnd, htbk, hrow, hch⟩ := hrel
        obtain ⟨tq, tc, rfl, htc1, htc2⟩ := row_shape hrow
        unfold maxLen at htc2
        have hc3r : Chg NoB w wi := Hc3.out.above hch fun y hy => by have h : y = tb := hy; have := Hord.out; omega
        have Hcw2 := Lib.hid hc3r
        have Hch2 := Lib.hid hch
        have Hnd := Lib.hid hnd
        have Htk := Lib.hid htbk
        have Hrow := Lib.hid hrow
        have Hrri := Lib.hid (row_kept hch Hr3.out (by have := Hord.out; omega))
        clear hnd htbk hrow hch hc3r
        by_cases hlt : k < n
        · have hlt' : k < l.length := by rw [← Hn.out]; exact hlt
          obtain ⟨rfl, -⟩ := H3.out (by rintro rfl; simp at hlt')
          obtain ⟨c0, c1⟩ := Hat.out k hlt'
          have c0 := Hcw2.out.keep c0
          have c1 := Hcw2.out.keep c1
          have Hsn := Lib.hid (show sortF (l.take (k + 1)) = insF l[k] (sortF (l.take k)) by rw [take_snoc' l k hlt', sortF_snoc])
          have Hkn := Lib.hid (keys_snoc hlt' Hnd.out)
          have Htwo := Lib.hid (fun (g : FileL) (hg : g ∈ sortF (l.take k)) (he : g.1 = l[k].1) => show res = .error 11 by rw [Hres0.out]; exact make_two Hno.out Hbn.out (keys_two hlt' Hnd.out hg he))
          have htl : (sortF (l.take k)).length = k := by rw [(sortF_perm Hnd.out).length_eq, List.length_take]; omega
          have hrowt : wi.ownsRow lo 43 2 (.slice tq k tc) (sortF (l.take k)).length (flatP (sortF (l.take k))) := by rw [htl]; exact Hrow.out
          obtain ⟨nb, hns⟩ := InpS.of_row hrowt
          obtain ⟨t, ht⟩ : ∃ t, t = sortF (l.take k) := ⟨_, rfl⟩
          rw [← ht] at hns htl Hsn Hkn Htwo
          have Hns := Lib.hid hns
          have Htl := Lib.hid htl
          generalize l[k] = f at *
          obtain ⟨f1, f2⟩ := f
          change wi.cell? ⟨kb, ko + k * 2, none⟩ = some (.string (tx f1)) at c0
          change wi.cell? ⟨kb, ko + k * 2 + 1, none⟩ = some (.string (tx f2)) at c1
          have hal_ := (Chg.refl NoB wi).alloc (.cells #[.string (tx f1), .string (tx f2)] 43)
          have hb_ := heap_alloc_new wi (.cells #[.string (tx f1), .string (tx f2)] 43)
          obtain ⟨fb, hxb_⟩ : ∃ b, b = wi.heap.size := ⟨_, rfl⟩
          obtain ⟨w4, hw_⟩ : ∃ w2, wi.alloc (.cells #[.string (tx f1), .string (tx f2)] 43) = w2 := ⟨_, rfl⟩
          rw [hw_] at hal_ hb_
          rw [← hxb_] at hb_
          have Hw4 := Lib.hid hw_
          have Hx4 := Lib.hid hxb_
          have Ha4 := Lib.hid hal_
          have Hb4 := Lib.hid hb_
          clear hal_ hb_ hxb_ hw_
          have Hc4 := Lib.hid (Hcw2.out.trans Ha4.out)
          have Htk4 := Lib.hid (row_kept Ha4.out Htk.out id)
          have Hns4 := Lib.hid (Hns.out.keep Ha4.out fun _ _ => id)
          obtain ⟨z, hz⟩ : ∃ z, z = w4.heap.size := ⟨_, rfl⟩
          have Hz := Lib.hid hz
          have hlz : lo ≤ z := by have h1 := Hch2.out.size; have h2 := Ha4.out.size; have h3 := Hord.out; omega
          have Hloz := Lib.hid hlz
          have hk6 : k ≤ 1048576 := by omega
          clear hlt' hrowt hns htl ht hz hlz
          go_upto_region 15 with fail
          rw [Hw4.out, ← Hx4.out]
          clear c0 c1
          have t0 := var1 Htk4.out
          go_wp2_with fail
          clear t0
          have hrow0 : w4.ownsRow z 43 2 (.slice none 0 0) 0 (flatP (belowF (f1, f2) (t.take 0))) := World.ownsRow_nil _ _ _ _
          have Hrow0 := Lib.hid hrow0
          clear hrow0
          go_loopw [49, 9] (fun i fv wj => ∃ (j m : Nat), j ≤ k ∧ i = .int .i64 j ∧ m ≤ j ∧ m = (belowF (f1, f2) (t.take j)).length ∧ wj.ownsRow z 43 2 fv m (flatP (belowF (f1, f2) (t.take j))) ∧ Chg NoB w4 wj) (fun i _ _ => k - (intOf i).toNat)
          case atStart => exact ⟨0, 0, Nat.zero_le _, rfl, Nat.le_refl _, rfl, Hrow0.out, Chg.refl _ _⟩
          case round =>
            obtain ⟨wj, rfl⟩ : ∃ wj : World, wj = wr := ⟨_, rfl⟩
            obtain ⟨j, m, hj, rfl, hmj, hm, hrowj, hchj⟩ := hrel
            obtain ⟨fq, fc, rfl, hfc1, hfc2⟩ := row_shape hrowj
            have Hrowj := Lib.hid hrowj
            have Hchj := Lib.hid hchj
            have Hm := Lib.hid hm
            clear hrowj hchj hm
            by_cases hjl : j < k
            · have hjt : j < t.length := by rw [Htl.out]; exact hjl
              obtain ⟨htq, -⟩ := Hns4.out.sh.elim fun q' ⟨c', e, _, _, h⟩ => (by cases e; exact h (by rintro rfl; simp at hjt))
              subst htq
              obtain ⟨d0, d1⟩ := Hns4.out.at' j hjt
              have d0 := Hchj.out.keep d0
              have d1 := Hchj.out.keep d1
              have Htj := Lib.hid (take_snoc' t j hjt)
              generalize t[j] = g at *
              obtain ⟨g1, g2⟩ := g
              have d0 : wj.cell? ⟨nb, j * 2, none⟩ = some (.string (tx g1)) := by simpa using d0
              have d1 : wj.cell? ⟨nb, j * 2 + 1, none⟩ = some (.string (tx g2)) := by simpa using d1
              have hal_ := (Chg.refl NoB wj).alloc (.cells #[.string (tx g1), .string (tx g2)] 43)
              have hb_ := heap_alloc_new wj (.cells #[.string (tx g1), .string (tx g2)] 43)
              obtain ⟨gb, hxb_⟩ : ∃ b, b = wj.heap.size := ⟨_, rfl⟩
              obtain ⟨w5, hw_⟩ : ∃ w2, wj.alloc (.cells #[.string (tx g1), .string (tx g2)] 43) = w2 := ⟨_, rfl⟩
              rw [hw_] at hal_ hb_
              rw [← hxb_] at hb_
              have Hw5 := Lib.hid hw_
              have Hx5 := Lib.hid hxb_
              have Ha5 := Lib.hid hal_
              have Hb5 := Lib.hid hb_
              clear hal_ hb_ hxb_ hw_
              have hbl := less_tx g1 f1
              obtain ⟨b, hb⟩ : ∃ b, b = bl g1 f1 := ⟨_, rfl⟩
              rw [← hb] at hbl
              have Hb := Lib.hid hb
              have Hch5 := Lib.hid (Hchj.out.trans Ha5.out)
              have Hrow5 := Lib.hid (ownsRow_chg Hrowj.out Ha5.out fun _ _ => id)
              have Hf5 := Lib.hid (row_kept Hch5.out Hb4.out id)
              clear hb hjt
              go_upto_region 19 with fail
              rw [Hw5.out, ← Hx5.out]
              clear d0 d1
              obtain ⟨x0, x1⟩ := var2 Hf5.out
              obtain ⟨y0, y1⟩ := var2 Hb5.out
              cases b with
              | true =>
                have hal6 := (Chg.refl NoB w5).alloc (.cells #[.string (tx g1), .string (tx g2)] 43)
                have Hrow6 := Lib.hid (ownsRow_chg Hrow5.out hal6 fun _ _ => id)
                have Hch6 := Lib.hid (Hch5.out.trans hal6)
                have M1 := Lib.hid (show m + 1 ≤ maxLen by unfold maxLen; omega)
                have M2 := Lib.hid (show (m + 1) * 32 ≤ 140737488355328 by omega)
                have Hlz : Hid (z ≤ (w5.alloc (.cells #[.string (tx g1), .string (tx g2)] 43)).heap.size) := Lib.hid (by rw [Hz.out]; exact Hch6.out.size)
                have Hby := Lib.hid (below_yes (a := t.take j) (show bl (g1, g2).1 (f1, f2).1 = true from Hb.out.symm))
                clear hal6
                go_wp2_with (at_builtin; refine wpList_append_at _ rfl _ _ 23 rfl z 43 i0 (.agg #[.string ⟨#[]⟩, .string ⟨#[]⟩]) 2 32 Tryz.underlying23 Hi.out Hz0.out Hz1.out Hz2.out rfl (by decide) _ m _ rfl Hrow6.out ⟨w5.heap.size, 0, none⟩ 1 1 [.string (tx g1), .string (tx g2)] rfl rfl (lit2 w5 _ _ _) (one2 _ _) M1.out M2.out Hlz.out ?_)
                intro v9 w7 hown9 hgr9 hpl9
                have hch7 : Chg NoB w4 w7 := Hch6.out.grown hgr9 fun j' hj' => .inr (by have := (World.ownsRow.lt Hrow6.out j' hj').1; have := Hz.out; omega)
                have hrow7 : w7.ownsRow z 43 2 v9 (m + 1) (flatP (belowF (f1, f2) (t.take (j + 1)))) := by rw [Htj.out, Hby.out, flatP_snoc]; exact hown9
                have Hch7 := Lib.hid hch7
                have Hrow7 := Lib.hid hrow7
                clear hown9 hgr9 hpl9 hch7 hrow7 x0 x1 y0 y1
                go_wp2_with fail
                go_roundw
                case rel => exact ⟨j + 1, m + 1, by omega, by go_num, by omega, by rw [Htj.out, Hby.out, List.length_append, ← Hm.out]; rfl, Hrow7.out, Hch7.out⟩
                case measure => simp [intOf]; omega
              | false =>
                have Hbn' := Lib.hid (below_no (a := t.take j) (show bl (g1, g2).1 (f1, f2).1 = false from Hb.out.symm))
                go_wp2_with fail
                go_roundw
                case rel => exact ⟨j + 1, m, by omega, by go_num, by omega, by rw [Htj.out, Hbn'.out, ← Hm.out], by rw [Htj.out, Hbn'.out]; exact Hrow5.out, Hch5.out⟩
                case measure => simp [intOf]; omega
            · obtain rfl : k = j := by omega
              have htt : t.take k = t := List.take_of_length_le (by rw [Htl.out]; exact Nat.le_refl _)
              rw [htt] at Hrowj Hm
              have Hf5 := Lib.hid (row_kept Hchj.out Hb4.out id)
              have Htk5 := Lib.hid (row_kept Hchj.out Htk4.out id)
              obtain ⟨x0, x1⟩ := var2 Hf5.out
              have hal6 := (Chg.refl NoB wj).alloc (.cells #[.string (tx f1), .string (tx f2)] 43)
              have Hrow6 := Lib.hid (ownsRow_chg Hrowj.out hal6 fun _ _ => id)
              have Hch6 := Lib.hid (Hchj.out.trans hal6)
              have M1 := Lib.hid (show m + 1 ≤ maxLen by unfold maxLen; omega)
              have M2 := Lib.hid (show (m + 1) * 32 ≤ 140737488355328 by omega)
              have Hlz : Hid (z ≤ (wj.alloc (.cells #[.string (tx f1), .string (tx f2)] 43)).heap.size) := Lib.hid (by rw [Hz.out]; exact Hch6.out.size)
              clear hal6 htt hjl
              go_upto_region 22 with fail
              go_wp2_with (at_builtin; refine wpList_append_at _ rfl _ _ 23 rfl z 43 i0 (.agg #[.string ⟨#[]⟩, .string ⟨#[]⟩]) 2 32 Tryz.underlying23 Hi.out Hz0.out Hz1.out Hz2.out rfl (by decide) _ m _ rfl Hrow6.out ⟨wj.heap.size, 0, none⟩ 1 1 [.string (tx f1), .string (tx f2)] rfl rfl (lit2 wj _ _ _) (one2 _ _) M1.out M2.out Hlz.out ?_)
              intro v9 w7 hown9 hgr9 hpl9
              have hch7 : Chg NoB w4 w7 := Hch6.out.grown hgr9 fun j' hj' => .inr (by have := (World.ownsRow.lt Hrow6.out j' hj').1; have := Hz.out; omega)
              have hrow7 : w7.ownsRow z 43 2 v9 (m + 1) (flatP (belowF (f1, f2) t ++ (f1, f2) :: aboveF (f1, f2) (t.take 0))) := by
                show w7.ownsRow z 43 2 v9 (m + 1) (flatP (belowF (f1, f2) t ++ [(f1, f2)]))
                rw [flatP_snoc]; exact hown9
              have Hch7 := Lib.hid hch7
              have Hrow7 := Lib.hid hrow7
              have Hm1 : Hid (m + 1 = (belowF (f1, f2) t ++ (f1, f2) :: aboveF (f1, f2) (t.take 0)).length) := Lib.hid (by show m + 1 = (belowF (f1, f2) t ++ [(f1, f2)]).length; rw [List.length_append, ← Hm.out]; rfl)
              clear hown9 hgr9 hpl9 hch7 hrow7 x0 x1
              have t0 := Hch7.out.keep (var1 Htk4.out)
              go_wp2_with fail
              clear t0
              go_loopw [70, 9] (fun i fv wj => ∃ (j m : Nat), j ≤ k ∧ i = .int .i64 j ∧ m ≤ k + j + 1 ∧ (∀ g ∈ t.take j, g.1 ≠ f1) ∧ m = (belowF (f1, f2) t ++ (f1, f2) :: aboveF (f1, f2) (t.take j)).length ∧ wj.ownsRow z 43 2 fv m (flatP (belowF (f1, f2) t ++ (f1, f2) :: aboveF (f1, f2) (t.take j))) ∧ Chg NoB w4 wj) (fun i _ _ => k - (intOf i).toNat)
              case atStart => exact ⟨0, m + 1, Nat.zero_le _, rfl, by omega, fun g hg => by simp at hg, Hm1.out, Hrow7.out, Hch7.out⟩
              case round =>
                obtain ⟨wo, rfl⟩ : ∃ wo : World, wo = wr := ⟨_, rfl⟩
                obtain ⟨j, m', hj', rfl, hmj', hno', hm', hrowj', hchj'⟩ := hrel
                obtain ⟨gq, gc, rfl, hgc1, hgc2⟩ := row_shape hrowj'
                have Hrowo := Lib.hid hrowj'
                have Hcho := Lib.hid hchj'
                have Hm' := Lib.hid hm'
                have Hno' := Lib.hid hno'
                clear hrowj' hchj' hm' hno'
                by_cases hjl : j < k
                · have hjt : j < t.length := by rw [Htl.out]; exact hjl
                  obtain ⟨htq, -⟩ := Hns4.out.sh.elim fun q' ⟨c', e, _, _, h⟩ => (by cases e; exact h (by rintro rfl; simp at hjt))
                  subst htq
                  obtain ⟨d0, d1⟩ := Hns4.out.at' j hjt
                  have d0 := Hcho.out.keep d0
                  have d1 := Hcho.out.keep d1
                  have Htj := Lib.hid (take_snoc' t j hjt)
                  have Hmem := Lib.hid (List.getElem_mem hjt)
                  generalize t[j] = g at *
                  obtain ⟨g1, g2⟩ := g
                  have d0 : wo.cell? ⟨nb, j * 2, none⟩ = some (.string (tx g1)) := by simpa using d0
                  have d1 : wo.cell? ⟨nb, j * 2 + 1, none⟩ = some (.string (tx g2)) := by simpa using d1
                  have hal_ := (Chg.refl NoB wo).alloc (.cells #[.string (tx g1), .string (tx g2)] 43)
                  have hb_ := heap_alloc_new wo (.cells #[.string (tx g1), .string (tx g2)] 43)
                  obtain ⟨gb, hxb_⟩ : ∃ b, b = wo.heap.size := ⟨_, rfl⟩
                  obtain ⟨w5, hw_⟩ : ∃ w2, wo.alloc (.cells #[.string (tx g1), .string (tx g2)] 43) = w2 := ⟨_, rfl⟩
                  rw [hw_] at hal_ hb_
                  rw [← hxb_] at hb_
                  have Hw5 := Lib.hid hw_
                  have Hx5 := Lib.hid hxb_
                  have Ha5 := Lib.hid hal_
                  have Hb5 := Lib.hid hb_
                  clear hal_ hb_ hxb_ hw_
                  have heqb := tx_beq g1 f1
                  obtain ⟨eb, heb⟩ : ∃ b, b = decide (g1 = f1) := ⟨_, rfl⟩
                  rw [← heb] at heqb
                  have hbl := less_tx g1 f1
                  obtain ⟨b, hb⟩ : ∃ b, b = bl g1 f1 := ⟨_, rfl⟩
                  rw [← hb] at hbl
                  have Hb := Lib.hid hb
                  have Heb := Lib.hid heb
                  have Hch5 := Lib.hid (Hcho.out.trans Ha5.out)
                  have Hrow5 := Lib.hid (ownsRow_chg Hrowo.out Ha5.out fun _ _ => id)
                  have Hf5 := Lib.hid (row_kept Hch5.out Hb4.out id)
                  clear hb heb hjt
                  go_upto_region 26 with fail
                  rw [Hw5.out, ← Hx5.out]
                  clear d0 d1
                  obtain ⟨x0, x1⟩ := var2 Hf5.out
                  obtain ⟨y0, y1⟩ := var2 Hb5.out
                  cases eb with
                  | true =>
                    have Hres := Lib.hid (Htwo.out (g1, g2) Hmem.out (of_decide_eq_true Heb.out.symm))
                    have Hc5 := Lib.hid (Hc4.out.trans Hch5.out)
                    have Hr5 := Lib.hid (row_kept (Ha4.out.trans Hch5.out) Hrri.out id)
                    have rf := row_free Hr5.out
                    have r0 := var1 Hr5.out
                    go_wp2_with fail
                    obtain e0 := var1 (heap_set Hr5.out (i := 0) (.slice none 0 0))
                    have hfin := Hc5.out.setCell (p := ⟨rb, 0, none⟩) (.inr Hwr.out) (.slice none 0 0)
                    generalize w5.setCell ⟨rb, 0, none⟩ (.slice none 0 0) = wf at *
                    refine bodyPost_ret (v := .tuple #[.agg #[.slice none 0 0], .int .i64 11]) (by simp [results, Tryz.results44, go_sem, e0]) rfl ⟨hfin, ?_⟩
                    rw [Hres.out]
                  | false =>
                    have hne : g1 ≠ f1 := of_decide_eq_false Heb.out.symm
                    have Hnoj : Hid (∀ g ∈ t.take (j + 1), g.1 ≠ f1) := Lib.hid (by
                      rw [Htj.out]
                      intro g hg
                      rcases List.mem_append.1 hg with h | h
                      · exact Hno'.out g h
                      · rw [List.mem_singleton] at h; subst h; exact hne)
                    have Hne := Lib.hid hne
                    clear hne
                    cases b with
                    | false =>
                      have Hab : Hid (bl f1 g1 = true) := Lib.hid (by
                        cases hc : bl f1 g1 with
                        | true => rfl
                        | false => exact absurd (bl_tri Hb.out.symm hc) Hne.out)
                      have hal6 := (Chg.refl NoB w5).alloc (.cells #[.string (tx g1), .string (tx g2)] 43)
                      have Hrow6 := Lib.hid (ownsRow_chg Hrow5.out hal6 fun _ _ => id)
                      have Hch6 := Lib.hid (Hch5.out.trans hal6)
                      have M1 := Lib.hid (show m' + 1 ≤ maxLen by unfold maxLen; omega)
                      have M2 := Lib.hid (show (m' + 1) * 32 ≤ 140737488355328 by omega)
                      have Hlz : Hid (z ≤ (w5.alloc (.cells #[.string (tx g1), .string (tx g2)] 43)).heap.size) := Lib.hid (by rw [Hz.out]; exact Hch6.out.size)
                      have Hby := Lib.hid (above_yes (a := t.take j) (show bl (f1, f2).1 (g1, g2).1 = true from Hab.out))
                      clear hal6
                      go_wp2_with (at_builtin; refine wpList_append_at _ rfl _ _ 23 rfl z 43 i0 (.agg #[.string ⟨#[]⟩, .string ⟨#[]⟩]) 2 32 Tryz.underlying23 Hi.out Hz0.out Hz1.out Hz2.out rfl (by decide) _ m' _ rfl Hrow6.out ⟨w5.heap.size, 0, none⟩ 1 1 [.string (tx g1), .string (tx g2)] rfl rfl (lit2 w5 _ _ _) (one2 _ _) M1.out M2.out Hlz.out ?_)
                      intro v9 w7 hown9 hgr9 hpl9
                      have hch7 : Chg NoB w4 w7 := Hch6.out.grown hgr9 fun j' hj' => .inr (by have := (World.ownsRow.lt Hrow6.out j' hj').1; have := Hz.out; omega)
                      have hrow7 : w7.ownsRow z 43 2 v9 (m' + 1) (flatP (belowF (f1, f2) t ++ (f1, f2) :: aboveF (f1, f2) (t.take (j + 1)))) := by
                        rw [Htj.out, Hby.out, ← List.cons_append, ← List.append_assoc, flatP_snoc]; exact hown9
                      have Hch7 := Lib.hid hch7
                      have Hrow7 := Lib.hid hrow7
                      clear hown9 hgr9 hpl9 hch7 hrow7 x0 x1 y0 y1
                      go_wp2_with fail
                      go_roundw
                      case rel => exact ⟨j + 1, m' + 1, by omega, by go_num, by omega, Hnoj.out, by rw [Htj.out, Hby.out, ← List.cons_append, ← List.append_assoc, List.length_append, ← Hm'.out]; rfl, Hrow7.out, Hch7.out⟩
                      case measure => simp [intOf]; omega
                    | true =>
                      have Hbn' := Lib.hid (above_no (a := t.take j) (show bl (f1, f2).1 (g1, g2).1 = false from bl_asymm Hb.out.symm))
                      go_wp2_with fail
                      go_roundw
                      case rel => exact ⟨j + 1, m', by omega, by go_num, by omega, Hnoj.out, by rw [Htj.out, Hbn'.out, ← Hm'.out], by rw [Htj.out, Hbn'.out]; exact Hrow5.out, Hch5.out⟩
                      case measure => simp [intOf]; omega
                · obtain rfl : k = j := by omega
                  have htt : t.take k = t := List.take_of_length_le (by rw [Htl.out]; exact Nat.le_refl _)
                  rw [htt] at Hrowo Hm' Hno'
                  have Htk5 := Lib.hid (row_kept Hcho.out Htk4.out id)
                  have t0 := var1 Htk5.out
                  have tf := row_free Htk5.out
                  have Hti : Hid ((belowF (f1, f2) t ++ (f1, f2) :: aboveF (f1, f2) t) = sortF (l.take (k + 1))) := Lib.hid (by rw [Hsn.out]; rfl)
                  have Hknn := Lib.hid (Hkn.out Hno'.out)
                  have Hm1' : Hid (m' = k + 1) := Lib.hid (by
                    have h1 := (sortF_perm Hknn.out).length_eq
                    rw [Hm'.out, Hti.out, h1, List.length_take]
                    have := Hn.out
                    omega)
                  rw [Hti.out] at Hrowo
                  have hsc : Chg (fun y => y = tb) wo (wo.setCell ⟨tb, 0, none⟩ (.slice gq m' gc)) := (Chg.refl (fun y => y = tb) wo).setCell (p := ⟨tb, 0, none⟩) (.inl rfl) (.slice gq m' gc)
                  have Hht := Lib.hid (heap_set Htk5.out (i := 0) (.slice gq m' gc))
                  have Hchf := Lib.hid ((Hch2.out.trans (((Ha4.out.trans Hcho.out)).mono fun _ _ => False.elim)).trans hsc)
                  have Hrof := Lib.hid (ownsRow_low Hloz.out (ownsRow_chg Hrowo.out hsc fun j' hj' e => by have h1 := (World.ownsRow.lt Hrowo.out j' hj').1; have h2 : j' = tb := e; have h3 := Hloz.out; have := Hord.out; omega))
                  have hm1 := Hm1'.out
                  subst hm1
                  clear htt hjl hsc
                  go_wp2_with fail
                  go_roundw
                  case rel => exact ⟨k + 1, _, by omega, by go_num, Hknn.out, Hht.out, Hrof.out, Hchf.out⟩
                  case measure => simp [intOf]; omega
        · obtain rfl : n = k := by omega
          have hlt0 : l.take n = l := by rw [Hn.out]; exact List.take_of_length_le (Nat.le_refl _)
          rw [hlt0] at Hnd Hrow
          obtain ⟨w5, rfl⟩ : ∃ w5 : World, w5 = wi := ⟨_, rfl⟩
          clear hlt0 hlt
          go_wp2_with fail
          go_loopw [95] (fun i wi => ∃ k : Nat, k ≤ n ∧ i = .int .i64 k ∧ (∀ f ∈ l.take k, clashAt l f = false) ∧ Chg NoB w5 wi) (fun i _ => n - (intOf i).toNat)
          case atStart => exact ⟨0, Nat.zero_le _, rfl, fun f hf => by simp at hf, Chg.refl _ _⟩
          case round =>
            obtain ⟨wi, rfl⟩ : ∃ wi : World, wi = wr := ⟨_, rfl⟩
            obtain ⟨k, hk, rfl, hcl, hch⟩ := hrel
            have Hcl := Lib.hid hcl
            have Hch6 := Lib.hid hch
            have Hc6 := Lib.hid (Hcw2.out.trans hch)
            have Hr6 := Lib.hid (row_kept hch Hrri.out id)
            clear hcl hch
            by_cases hlt : k < n
            · have hlt' : k < l.length := by rw [← Hn.out]; exact hlt
              obtain ⟨rfl, -⟩ := H3.out (by rintro rfl; simp at hlt')
              obtain ⟨c0, c1⟩ := Hat.out k hlt'
              have c0 := Hc6.out.keep c0
              have c1 := Hc6.out.keep c1
              have Htk2 := Lib.hid (take_snoc' l k hlt')
              have Hfm := Lib.hid (List.getElem_mem hlt')
              generalize l[k] = f at *
              obtain ⟨f1, f2⟩ := f
              change wi.cell? ⟨kb, ko + k * 2, none⟩ = some (.string (tx f1)) at c0
              change wi.cell? ⟨kb, ko + k * 2 + 1, none⟩ = some (.string (tx f2)) at c1
              have hal_ := (Chg.refl NoB wi).alloc (.cells #[.string (tx f1), .string (tx f2)] 43)
              have hb_ := heap_alloc_new wi (.cells #[.string (tx f1), .string (tx f2)] 43)
              obtain ⟨fb, hxb_⟩ : ∃ b, b = wi.heap.size := ⟨_, rfl⟩
              obtain ⟨w7, hw_⟩ : ∃ w2, wi.alloc (.cells #[.string (tx f1), .string (tx f2)] 43) = w2 := ⟨_, rfl⟩
              rw [hw_] at hal_ hb_
              rw [← hxb_] at hb_
              have Hw7 := Lib.hid hw_
              have Hx7 := Lib.hid hxb_
              have Ha7 := Lib.hid hal_
              have Hb7 := Lib.hid hb_
              clear hal_ hb_ hxb_ hw_
              have Hc7 := Lib.hid (Hc6.out.trans Ha7.out)
              have Hr7 := Lib.hid (row_kept Ha7.out Hr6.out id)
              have Hch7 := Lib.hid (Hch6.out.trans Ha7.out)
              clear hlt'
              go_upto_region 36 with fail
              rw [Hw7.out, ← Hx7.out]
              clear c0 c1
              go_wp2_with fail
              go_loopw [101] (fun i wj => ∃ j : Nat, j ≤ n ∧ i = .int .i64 j ∧ (∀ g ∈ l.take j, aheadL f1 g.1 = false) ∧ Chg NoB w7 wj) (fun i _ => n - (intOf i).toNat)
              case atStart => exact ⟨0, Nat.zero_le _, rfl, fun f hf => by simp at hf, Chg.refl _ _⟩
              case round =>
                obtain ⟨wj, rfl⟩ : ∃ wj : World, wj = wr := ⟨_, rfl⟩
                obtain ⟨j, hj, rfl, hah, hchj⟩ := hrel
                have Hah := Lib.hid hah
                have Hchj := Lib.hid hchj
                have Hc8 := Lib.hid (Hc7.out.trans hchj)
                have Hr8 := Lib.hid (row_kept hchj Hr7.out id)
                have Hf8 := Lib.hid (row_kept hchj Hb7.out id)
                clear hah hchj
                by_cases hjl : j < n
                · have hjl' : j < l.length := by rw [← Hn.out]; exact hjl
                  obtain ⟨c0, c1⟩ := Hat.out j hjl'
                  have c0 := Hc8.out.keep c0
                  have c1 := Hc8.out.keep c1
                  have Htj := Lib.hid (take_snoc' l j hjl')
                  have Hgm := Lib.hid (List.getElem_mem hjl')
                  generalize l[j] = g at *
                  obtain ⟨g1, g2⟩ := g
                  change wj.cell? ⟨kb, ko + j * 2, none⟩ = some (.string (tx g1)) at c0
                  change wj.cell? ⟨kb, ko + j * 2 + 1, none⟩ = some (.string (tx g2)) at c1
                  have hal_ := (Chg.refl NoB wj).alloc (.cells #[.string (tx g1), .string (tx g2)] 43)
                  have hb_ := heap_alloc_new wj (.cells #[.string (tx g1), .string (tx g2)] 43)
                  obtain ⟨gb, hxb_⟩ : ∃ b, b = wj.heap.size := ⟨_, rfl⟩
                  obtain ⟨w9, hw_⟩ : ∃ w2, wj.alloc (.cells #[.string (tx g1), .string (tx g2)] 43) = w2 := ⟨_, rfl⟩
                  rw [hw_] at hal_ hb_
                  rw [← hxb_] at hb_
                  have Hw9 := Lib.hid hw_
                  have Hx9 := Lib.hid hxb_
                  have Ha9 := Lib.hid hal_
                  have Hb9 := Lib.hid hb_
                  clear hal_ hb_ hxb_ hw_
                  have Hc9 := Lib.hid (Hc8.out.trans Ha9.out)
                  have Hr9 := Lib.hid (row_kept Ha9.out Hr8.out id)
                  have Hf9 := Lib.hid (row_kept Ha9.out Hf8.out id)
                  have hpg : Pth.goodL f1 = true := Hgl.out _ Hfm.out
                  have hqg : Pth.goodL g1 = true := Hgl.out _ Hgm.out
                  have hp1 := (Pth.goodL_iff.1 hpg).1
                  have hq1 := (Pth.goodL_iff.1 hqg).1
                  have hah := ahead_any f1 g1 w9 (by omega) (by omega)
                  rw [under_ahead hpg hqg] at hah
                  obtain ⟨ab, hab⟩ : ∃ b, b = aheadL f1 g1 := ⟨_, rfl⟩
                  rw [← hab] at hah
                  have Hahc := Lib.hid hah
                  have Hab := Lib.hid hab
                  clear hjl' hpg hqg hp1 hq1 hah hab
                  go_upto_region 39 with fail
                  rw [Hw9.out, ← Hx9.out]
                  clear c0 c1
                  obtain ⟨x0, x1⟩ := var2 Hf9.out
                  obtain ⟨y0, y1⟩ := var2 Hb9.out
                  go_wp2_with fail
                  refine Hahc.out.mono ?_
                  rintro e wz ⟨rfl, hcz⟩
                  have Hcz := Lib.hid (Hc9.out.trans hcz)
                  have Hrz := Lib.hid (row_kept hcz Hr9.out id)
                  have Hchz := Lib.hid (Hchj.out.trans (Ha9.out.trans hcz))
                  clear hcz x0 x1 y0 y1 Hahc
                  have rf := row_free Hrz.out
                  have r0 := var1 Hrz.out
                  cases ab with
                  | true =>
                    have Hres : Hid (res = .error 12) := Lib.hid (by
                      rw [Hres0.out]
                      refine make_clash Hno.out Hbn.out Hnd.out ?_
                      unfold clashF
                      rw [List.any_eq_true]
                      refine ⟨_, Hfm.out, ?_⟩
                      rw [List.any_eq_true]
                      exact ⟨_, Hgm.out, Hab.out.symm⟩)
                    go_wp2_with fail
                    obtain e0 := var1 (heap_set Hrz.out (i := 0) (.slice none 0 0))
                    have hfin := Hcz.out.setCell (p := ⟨rb, 0, none⟩) (.inr Hwr.out) (.slice none 0 0)
                    generalize wz.setCell ⟨rb, 0, none⟩ (.slice none 0 0) = wf at *
                    refine bodyPost_ret (v := .tuple #[.agg #[.slice none 0 0], .int .i64 12]) (by simp [results, Tryz.results44, go_sem, e0]) rfl ⟨hfin, ?_⟩
                    rw [Hres.out]
                  | false =>
                    clear r0 rf
                    go_wp2_with fail
                    go_roundw
                    case rel =>
                      refine ⟨j + 1, by omega, by go_num, ?_, Hchz.out⟩
                      rw [Htj.out]
                      intro g hg
                      rcases List.mem_append.1 hg with h | h
                      · exact Hah.out g h
                      · rw [List.mem_singleton] at h; subst h; exact Hab.out.symm
                    case measure => simp [intOf]; omega
                · obtain rfl : n = j := by omega
                  have Hahl : Hid (clashAt l (f1, f2) = false) := Lib.hid (by
                    have h := Hah.out
                    rw [Hn.out, List.take_of_length_le (Nat.le_refl _)] at h
                    unfold clashAt
                    rw [List.any_eq_false]
                    intro g hg
                    rw [h g hg]
                    decide)
                  have Hchn := Lib.hid (Hch7.out.trans Hchj.out)
                  go_wp2_with fail
                  go_roundw
                  case rel =>
                    refine ⟨k + 1, by omega, by go_num, ?_, Hchn.out⟩
                    rw [Htk2.out]
                    intro g hg
                    rcases List.mem_append.1 hg with h | h
                    · exact Hcl.out g h
                    · rw [List.mem_singleton] at h; subst h; exact Hahl.out
                  case measure => simp [intOf]; omega
            · obtain rfl : n = k := by omega
              have Hcf : Hid (clashF l = false) := Lib.hid (by
                have h := Hcl.out
                rw [Hn.out, List.take_of_length_le (Nat.le_refl _)] at h
                unfold clashF
                rw [List.any_eq_false]
                intro f hf
                have := h f hf
                unfold clashAt at this
                rw [this]
                decide)
              have Hres : Hid (res = .ok (sortF l)) := Lib.hid (by rw [Hres0.out]; exact make_ok Hno.out Hbn.out Hnd.out Hcf.out)
              have Hsl : Hid ((sortF l).length = n) := Lib.hid (by rw [(sortF_perm Hnd.out).length_eq, ← Hn.out])
              have Htk6 := Lib.hid (row_kept Hch6.out Htk.out id)
              have Hrow6 := Lib.hid (ownsRow_chg Hrow.out Hch6.out fun _ _ => id)
              have t0 := var1 Htk6.out
              have rf := row_free Hr6.out
              have r0 := var1 Hr6.out
              go_wp2_with fail
              obtain e0 := var1 (heap_set Hr6.out (i := 0) (.slice tq n tc))
              have hfin := Hc6.out.setCell (p := ⟨rb, 0, none⟩) (.inr Hwr.out) (.slice tq n tc)
              have hst : Chg (fun y => y = rb) wi (wi.setCell ⟨rb, 0, none⟩ (.slice tq n tc)) := (Chg.refl (fun y => y = rb) wi).setCell (p := ⟨rb, 0, none⟩) (.inl rfl) (.slice tq n tc)
              have hrowf := ownsRow_chg Hrow6.out hst fun j hj e => by have h1 := (World.ownsRow.lt Hrow6.out j hj).1; have h2 : j = rb := e; have := Hord.out; omega
              have hrowf := ownsRow_low (show w.heap.size ≤ lo by have := Hord.out; omega) hrowf
              generalize wi.setCell ⟨rb, 0, none⟩ (.slice tq n tc) = wf at *
              refine bodyPost_ret (v := .tuple #[.agg #[.slice tq n tc], .int .i64 0]) (by simp [results, Tryz.results44, go_sem, e0]) rfl ⟨hfin, ?_⟩
              rw [Hres.out]
              exact ⟨_, rfl, by rw [Hsl.out]; exact hrowf⟩
end Go.Proofs.YthehpmffkkogpaaGreatDoor
