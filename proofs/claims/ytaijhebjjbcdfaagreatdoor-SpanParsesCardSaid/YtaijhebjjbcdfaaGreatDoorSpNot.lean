/- The contract of Not. No condition. -/
import Derived.Test.YtaijhebjjbcdfaaGreatDoorSpTidy

namespace Go.Proofs.YtaijhebjjbcdfaaGreatDoor
set_option linter.unusedVariables false
open Go.ChangeShapes Go.WideShapes Go.ChangeAt Go.RowKit Go.Sort
def OpP (w : World) (ok : Bool) (p : Int → Bool) (e : Ending) (w' : World) : Prop :=
  Chg NoB w w' ∧ ((ok = false ∧ e = .returned (.tuple #[.slice none 0 0, .int .i64 1])) ∨ (ok = true ∧ ∃ d : List GapL, chainG (-1) d = true ∧ (∀ n, 0 ≤ n → n < allG → inG d n = p n) ∧ ((16 < d.length ∧ e = .returned (.tuple #[.slice none 0 0, .int .i64 13])) ∨ (d.length ≤ 16 ∧ ∃ q c, e = .returned (.tuple #[.slice q d.length c, .int .i64 0]) ∧ w'.ownsRow w.heap.size 37 2 (.slice q d.length c) d.length (flatG d)))))
theorem op_end {w w1 w2 : World} {L : List GapL} {p : Int → Bool} (hb : ∀ g ∈ L, 0 ≤ g.1 ∧ g.2 ≤ allG) (hp : ∀ n, 0 ≤ n → n < allG → inG L n = p n) {v : Value} {e : Ending} (hT : TidyP L v w1 e w2) (hc1 : Chg NoB w w1) (hv : ∀ k, v.ownBlock = some k → w.heap.size ≤ k) :
    ∃ (d : List GapL) (q : Option Addr) (n c : Nat), n = d.length ∧ e = .returned (.slice q n c) ∧ chainG (-1) d = true ∧ (∀ n, 0 ≤ n → n < allG → inG d n = p n) ∧ w2.ownsRow w.heap.size 37 2 (.slice q n c) n (flatG d) ∧ Chg NoB w w2 := by
  obtain ⟨d, q, n, c, hd, hr, hn, rfl, hrow, hch⟩ := hT
  obtain ⟨k1, k2⟩ := tidy_ok hr fun g hg => hb g (hd.mem_iff.1 hg)
  exact ⟨tidyF d, q, n, c, hn, rfl, k1, fun x h1 h2 => (k2 x).trans ((inG_perm hd x).trans (hp x h1 h2)), ownsRow_low hc1.size hrow, hc1.above hch hv⟩
theorem op_few {w w' : World} {p : Int → Bool} {d : List GapL} {q : Option Addr} {n c : Nat} (hn : n = d.length) (h1 : chainG (-1) d = true) (h2 : ∀ n, 0 ≤ n → n < allG → inG d n = p n) (hrow : w'.ownsRow w.heap.size 37 2 (.slice q n c) n (flatG d)) (hc : Chg NoB w w') (hl : ¬ 16 < n) : OpP w true p (.returned (.tuple #[.slice q n c, .int .i64 0])) w' := by
  subst hn
  exact ⟨hc, .inr ⟨rfl, d, h1, h2, .inr ⟨by omega, q, c, rfl, hrow⟩⟩⟩
theorem op_many {w w' : World} {p : Int → Bool} {d : List GapL} {n : Nat} (hn : n = d.length) (h1 : chainG (-1) d = true) (h2 : ∀ n, 0 ≤ n → n < allG → inG d n = p n) (hc : Chg NoB w w') (hl : 16 < n) : OpP w true p (.returned (.tuple #[.slice none 0 0, .int .i64 13])) w' := by
  subst hn
  exact ⟨hc, .inr ⟨rfl, d, h1, h2, .inl ⟨hl, rfl⟩⟩⟩
def preB (f : Int) : List GapL → List GapL
  | [] => []
  | g :: r => (f, g.1) :: preB g.2 r
def endB (f : Int) (l : List GapL) : Int := match l.getLast? with | some h => h.2 | none => f
theorem endB_snoc (f : Int) (l : List GapL) (g : GapL) : endB f (l ++ [g]) = g.2 := by unfold endB; simp
theorem endB_cons (f : Int) (g : GapL) (r : List GapL) : endB f (g :: r) = endB g.2 r := by
  unfold endB
  rw [List.getLast?_cons]
  cases r.getLast? <;> rfl
theorem preB_snoc : ∀ (l : List GapL) (f : Int) (g : GapL), preB f (l ++ [g]) = preB f l ++ [(endB f l, g.1)]
  | [], _, _ => rfl
  | a :: r, f, g => by
    rw [endB_cons]
    show (f, a.1) :: preB a.2 (r ++ [g]) = (f, a.1) :: (preB a.2 r ++ [(endB a.2 r, g.1)])
    rw [preB_snoc r a.2 g]
theorem between_pre : ∀ (l : List GapL) (f : Int), betweenL f l = preB f l ++ [(endB f l, allG)]
  | [], _ => rfl
  | a :: r, f => by
    rw [endB_cons]
    show (f, a.1) :: betweenL a.2 r = (f, a.1) :: (preB a.2 r ++ [(endB a.2 r, allG)])
    rw [between_pre r a.2]
theorem preB_len : ∀ (l : List GapL) (f : Int), (preB f l).length = l.length
  | [], _ => rfl
  | a :: r, f => by show (preB a.2 r).length + 1 = r.length + 1; rw [preB_len r a.2]
theorem pre_take {l : List GapL} {k : Nat} (h : k < l.length) : preB 0 (l.take (k + 1)) = preB 0 (l.take k) ++ [(endB 0 (l.take k), l[k].1)] ∧ endB 0 (l.take (k + 1)) = l[k].2 := by
  rw [take_at h]
  exact ⟨preB_snoc _ _ _, endB_snoc _ _ _⟩
theorem Chg.keepO {S : Nat → Prop} {a w : World} (h : Chg S a w) {p : Addr} {u : Value} (hn : ¬ S p.block) (hp : a.cell? p = some u) : w.cell? p = some u := by
  rw [← hp]
  exact World.cell?_of_block (h.block _ (World.block_lt_of_cell? a p hp) hn)
theorem good_len {l : List GapL} (h : goodG l = true) : l.length ≤ 16 := by
  unfold goodG at h
  simp at h
  exact h.1
set_option maxHeartbeats 4000000 in
set_option maxRecDepth 20000 in
theorem not_any (l : List GapL) (S : Nat → Prop) (v : Value) (kb ko : Nat) (w : World) (hs : GapS w S v l kb ko) : Calls Tryz.prog 18 #[v] w (OpP w (goodG l) fun n => !inG l n) := by
  have HG := Lib.hid (good_any l S v kb ko w hs)
  obtain ⟨⟨q, c, rfl, h1, h2, h3⟩, hat, -⟩ := hs
  obtain ⟨n, hn⟩ : ∃ n, n = l.length := ⟨_, rfl⟩
  rw [← hn] at HG h1 ⊢
  have H3 := Lib.hid h3
  have Hat := Lib.hid hat
  have Hn := Lib.hid hn
  obtain ⟨r, hr⟩ : ∃ r, r = goodG l := ⟨_, rfl⟩
  rw [← hr] at HG ⊢
  have Hr := Lib.hid hr
  unfold maxLen at h2
  clear h3 hat hn hr
  go_enter Tryz.func18, Tryz.ntmps18
  go_wp2_with fail
  refine HG.out.mono ?_
  rintro e w1 ⟨rfl, hc1⟩
  have Hc1 := Lib.hid hc1
  clear hc1 HG
  cases r
  · go_wp2_with fail
    go_ret2
    exact ⟨Hc1.out, .inl ⟨rfl, rfl⟩⟩
  · have Hl16 := Lib.hid (show n ≤ 16 by rw [Hn.out]; exact good_len Hr.out.symm)
    have hl16 := Hl16.out
    go_wp2_with fail
    go_loopw [4, 5, 13] (fun ov fv i wr => ∃ (k c' : Nat) (x : Int) (q' : Option Addr) (o : List GapL), k ≤ n ∧ i = .int .i64 k ∧ fv = .int .i64 x ∧ ov = .slice q' k c' ∧ k = o.length ∧ x = endB 0 (l.take k) ∧ o = preB 0 (l.take k) ∧ wr.ownsRow w1.heap.size 37 2 (.slice q' k c') k (flatG o) ∧ Chg NoB w1 wr) (fun _ _ i _ => n - (intOf i).toNat)
    case atStart => exact ⟨0, 0, 0, none, [], Nat.zero_le _, rfl, rfl, rfl, rfl, rfl, rfl, World.ownsRow_nil _ _ _ _, Chg.refl _ _⟩
    case round =>
      obtain ⟨k, c', x, q', o, hk, rfl, rfl, rfl, hm, hx, ho, hor, hch⟩ := hrel
      have Hm := Lib.hid hm
      have Ho := Lib.hid ho
      have Hx := Lib.hid hx
      have Hor := Lib.hid hor
      have Hch := Lib.hid hch
      clear hm ho hx hor hch
      by_cases hlt : k < n
      · have hkl : k < l.length := by rw [← Hn.out]; exact hlt
        obtain ⟨rfl, -⟩ := H3.out (by intro e; rw [e] at hkl; simp at hkl)
        obtain ⟨c0, c1⟩ := Hat.out k hkl
        have c0 := Hch.out.keep (Hc1.out.keep c0)
        have c1 := Hch.out.keep (Hc1.out.keep c1)
        have Htk := Lib.hid (pre_take hkl)
        rw [← Hx.out, ← Ho.out] at Htk
        generalize l[k] = g at *
        obtain ⟨x1, x2⟩ := g
        simp only at c0 c1
        have hal_ := (Chg.refl NoB wr).alloc (.cells #[.int .i64 x1, .int .i64 x2] 37)
        have hb_ := heap_alloc_new wr (.cells #[.int .i64 x1, .int .i64 x2] 37)
        obtain ⟨b7, hxb_⟩ : ∃ b, b = wr.heap.size := ⟨_, rfl⟩
        obtain ⟨w2, hw_⟩ : ∃ w_, wr.alloc (.cells #[.int .i64 x1, .int .i64 x2] 37) = w_ := ⟨_, rfl⟩
        have hz_ : w2.heap.size = b7 + 1 := by rw [← hw_, hxb_]; exact alloc_size _ _
        rw [hw_] at hal_ hb_
        rw [← hxb_] at hb_
        have Hw7 := Lib.hid hw_
        have Hx7 := Lib.hid hxb_
        have Ha7 := Lib.hid hal_
        have Hb7 := Lib.hid hb_
        have Hz7 := Lib.hid hz_
        clear hal_ hb_ hxb_ hw_ hz_
        obtain ⟨d0, d1⟩ := var2 Hb7.out
        have Hc2 := Lib.hid (Hch.out.trans Ha7.out)
        have Hor2 := Lib.hid (ownsRow_chg Hor.out Ha7.out fun _ _ => id)
        clear hkl
        go_upto_region 8 with fail
        rw [Hw7.out, ← Hx7.out]
        clear c0 c1
        have hal_ := (Chg.refl NoB w2).alloc (.cells #[.int .i64 x, .int .i64 x1] 37)
        have hb_ := heap_alloc_new w2 (.cells #[.int .i64 x, .int .i64 x1] 37)
        obtain ⟨lb, hxb_⟩ : ∃ b, b = w2.heap.size := ⟨_, rfl⟩
        obtain ⟨w8, hw_⟩ : ∃ w_, w2.alloc (.cells #[.int .i64 x, .int .i64 x1] 37) = w_ := ⟨_, rfl⟩
        have hz_ : w8.heap.size = lb + 1 := by rw [← hw_, hxb_]; exact alloc_size _ _
        rw [hw_] at hal_ hb_
        rw [← hxb_] at hb_
        have Hw8 := Lib.hid hw_
        have Hx8 := Lib.hid hxb_
        have Ha8 := Lib.hid hal_
        have Hb8 := Lib.hid hb_
        have Hz8 := Lib.hid hz_
        clear hal_ hb_ hxb_ hw_ hz_
        have Hc8 := Lib.hid (Hc2.out.trans Ha8.out)
        have Hor8 := Lib.hid (ownsRow_chg Hor2.out Ha8.out fun _ _ => id)
        have Hne7 := Lib.hid (show ∀ j, (Value.slice q' k c').ownBlock = some j → b7 ≠ j from fun j hj e => by have := (World.ownsRow.lt Hor.out j hj).2; have := Hx7.out; omega)
        have Hd1 := Lib.hid (Ha8.out.keep d1)
        clear d1
        go_wp2_with (at_builtin; go_loud (rw [← Hx8.out, Hw8.out]); go_loud (refine wpList_gap (v := .slice q' k c') (y := (x, x1)) rfl _ _ rfl rfl rfl Hm.out rfl Hor8.out Hb8.out (by omega) Hc8.out.size ?_); intro v9 w9 hown9 hch9; go_loud (obtain ⟨q9, c9, rfl, -, -⟩ := row_shape hown9); have Hown9 := Lib.hid hown9; go_loud (have Hc9 := Lib.hid (Hc8.out.above hch9 fun j hj => (World.ownsRow.lt Hor8.out j hj).1)); go_loud (have d9 : w9.cell? ⟨b7, 1, none⟩ = some (.int .i64 x2) := hch9.keepO (fun h => Hne7.out _ h rfl) Hd1.out); clear hown9 hch9)
        go_roundw
        case rel => exact ⟨k + 1, c9, x2, q9, o ++ [(x, x1)], by omega, by go_num, rfl, rfl, by rw [List.length_append, ← Hm.out]; rfl, Htk.out.2.symm, Htk.out.1.symm, Hown9.out, Hc9.out⟩
        case measure => simp [intOf]; omega
      · obtain rfl : k = n := by omega
        have HL := Lib.hid (show o ++ [(x, 1000000000)] = betweenL 0 l by
          rw [between_pre, Ho.out, Hx.out, Hn.out, List.take_length]; rfl)
        have Hcw := Lib.hid (Hc1.out.trans Hch.out)
        have Hsz := Lib.hid Hc1.out.size
        have hal_ := (Chg.refl NoB wr).alloc (.cells #[.int .i64 x, .int .i64 1000000000] 37)
        have hb_ := heap_alloc_new wr (.cells #[.int .i64 x, .int .i64 1000000000] 37)
        obtain ⟨lb, hxb_⟩ : ∃ b, b = wr.heap.size := ⟨_, rfl⟩
        obtain ⟨w8, hw_⟩ : ∃ w_, wr.alloc (.cells #[.int .i64 x, .int .i64 1000000000] 37) = w_ := ⟨_, rfl⟩
        have hz_ : w8.heap.size = lb + 1 := by rw [← hw_, hxb_]; exact alloc_size _ _
        rw [hw_] at hal_ hb_
        rw [← hxb_] at hb_
        have Hw8 := Lib.hid hw_
        have Hx8 := Lib.hid hxb_
        have Ha8 := Lib.hid hal_
        have Hb8 := Lib.hid hb_
        have Hz8 := Lib.hid hz_
        clear hal_ hb_ hxb_ hw_ hz_
        have Hc8 := Lib.hid (Hch.out.trans Ha8.out)
        have Hcw8 := Lib.hid (Hcw.out.trans Ha8.out)
        have Hor8 := Lib.hid (ownsRow_chg Hor.out Ha8.out fun _ _ => id)
        go_wp2_with (at_builtin; go_loud (rw [← Hx8.out, Hw8.out]); go_loud (refine wpList_gap (v := .slice q' k c') (y := (x, 1000000000)) rfl _ _ rfl rfl rfl Hm.out rfl Hor8.out Hb8.out (by omega) Hc8.out.size ?_); intro v9 w9 hown9 hch9; go_loud (obtain ⟨q9, c9, rfl, -, -⟩ := row_shape hown9); have Hown9 := Lib.hid hown9; go_loud (have Hc9 := Lib.hid (Hcw8.out.above hch9 fun j hj => Nat.le_trans Hsz.out (World.ownsRow.lt Hor8.out j hj).1)); clear hown9 hch9)
        have hl9 : (o ++ [(x, (1000000000 : Int))]).length = k + 1 := by rw [List.length_append, ← Hm.out]; rfl
        have HT := tidy_any (o ++ [(x, 1000000000)]) w1.heap.size (.slice q9 (k + 1) c9) w9 (by rw [hl9]; exact Hown9.out) (by rw [hl9]; omega)
        have HT' := Lib.hid HT
        clear HT hl9
        refine HT'.out.mono ?_
        rintro e w10 hT
        obtain ⟨b1, b2⟩ := not_ok Hr.out.symm
        rw [← HL.out] at b1 b2
        obtain ⟨d, q10, n10, c10, hn10, rfl, h10, hp10, hrow10, hc10⟩ := op_end b1 b2 hT Hc9.out fun j hj => Nat.le_trans Hsz.out (World.ownsRow.lt Hown9.out j hj).1
        have Hfew := Lib.hid (fun h => op_few hn10 h10 hp10 hrow10 hc10 h)
        have Hmany := Lib.hid (fun h => op_many (p := fun n => !inG l n) hn10 h10 hp10 hc10 h)
        clear b1 b2 hT hn10 h10 hp10 hrow10 hc10 HT'
        go_wp2_with fail
        refine (few_any n10 c10 q10 w10).mono ?_
        rintro e w11 ⟨rfl, rfl⟩
        by_cases h16 : 16 < n10
        · rw [if_pos h16]
          go_wp2_with fail
          go_ret2
          exact Hmany.out h16
        · rw [if_neg h16]
          go_wp2_with fail
          go_ret2
          exact Hfew.out h16
end Go.Proofs.YtaijhebjjbcdfaaGreatDoor
