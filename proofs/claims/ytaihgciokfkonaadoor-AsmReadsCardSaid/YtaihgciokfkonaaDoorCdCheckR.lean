/- The contract of the document's Check. No condition. -/
import Derived.Test.YtaihgciokfkonaaDoorCdFind
namespace Go.Proofs.YtaihgciokfkonaaDoor
set_option linter.unusedVariables false
open Go.ChangeShapes Go.WideShapes Go.ChangeAt Go.RowKit
theorem takesF_in (op : Int) : takesF op = 0 ∨ takesF op = 1 ∨ takesF op = 2 ∨ takesF op = 3 ∨ takesF op = 4 := by
  unfold takesF
  (repeat' split) <;> simp
set_option maxHeartbeats 4000000 in
set_option maxRecDepth 20000 in
theorem refCheck_any (ps : List InsL) (S : Nat → Prop) (v : Value) (kb ko : Nat) (w : World) (hs : InsS w S v ps kb ko) :
    Calls Tryd.prog 23 #[v] w (SayI (.tuple #[.int .i64 (checkF ps).1, .int .i64 (checkF ps).2]) w) := by
  obtain ⟨⟨q, c, rfl, h1, h2, h3⟩, hat⟩ := hs
  obtain ⟨len, hlen⟩ : ∃ len, len = ps.length := ⟨_, rfl⟩
  rw [← hlen] at h1 ⊢
  have hck : checkF ps = if ps.length = 0 ∨ 256 < ps.length then ((0 : Int), (13 : Int)) else match ps.findIdx? (fun x => !standsF x ps.length) with | none => ((0 : Int), (0 : Int)) | some k => ((k : Int), (30 : Int)) := rfl
  rw [← hlen] at hck
  have H3 := Lib.hid h3
  have Hat := Lib.hid hat
  have Hlen := Lib.hid hlen
  unfold maxLen at h2
  by_cases hsz : len = 0 ∨ 256 < len
  · rw [if_pos hsz] at hck
    rw [hck]
    clear hck h3 hat hlen
    go_enter Tryd.func23, Tryd.ntmps23
    rcases hsz with h0 | h0
    · subst h0
      go_wp2_with fail
      go_ret2
      exact ⟨rfl, Chg.refl _ _⟩
    · go_wp2_with fail
      go_ret2
      exact ⟨rfl, Chg.refl _ _⟩
  · rw [if_neg hsz] at hck
    have hl1 : ¬ len < 1 := by omega
    have hl2 : len ≤ 256 := by omega
    have Hck := Lib.hid hck
    clear hck hsz h3 hat hlen
    go_enter Tryd.func23, Tryd.ntmps23
    go_wp2_with fail
    go_loopw [4, 18] (fun _ i wr => ∃ k : Nat, k ≤ len ∧ i = .int .i64 k ∧ (∀ j (hj : j < ps.length), j < k → standsF ps[j] len = true) ∧ Chg NoB w wr) (fun _ i _ => len - (intOf i).toNat)
    case atStart => exact ⟨0, Nat.zero_le _, rfl, fun j _ hj => absurd hj (Nat.not_lt_zero _), Chg.refl _ _⟩
    case round =>
      obtain ⟨k, hk, rfl, hno, hch⟩ := hrel
      have Hno := Lib.hid hno
      have Hch := Lib.hid hch
      clear hno hch
      by_cases hlt : k < len
      · have hlt' : k < ps.length := by rw [← Hlen.out]; exact hlt
        obtain ⟨rfl, -⟩ := H3.out (by rintro rfl; simp at hlt')
        obtain ⟨⟨hw1, hw2, hsl⟩, c0, c1, c2⟩ := Hat.out k hlt'
        have c0 := Hch.out.keep c0
        have c1 := Hch.out.keep c1
        have c2 := Hch.out.keep c2
        have Hyes : Hid (standsF ps[k] len = false → checkF ps = ((k : Int), (30 : Int))) := Lib.hid fun h => by
          rw [Hck.out, find_some hlt' h fun i hi => Hno.out i _ hi]
        have Hgo : Hid (standsF ps[k] len = true → ∀ j (hj : j < ps.length), j < k + 1 → standsF ps[j] len = true) := Lib.hid fun h j hj hjk => by
          by_cases e : j = k
          · subst e; exact h
          · exact Hno.out j hj (by omega)
        generalize ps[k] = x at *
        obtain ⟨op, n, s⟩ := x
        simp only at *
        have hal := (Chg.refl NoB wr).alloc (.cells #[.int .i64 op, .int .i64 n, .string (tx s)] 38)
        have hb5 := heap_alloc_new wr (.cells #[.int .i64 op, .int .i64 n, .string (tx s)] 38)
        obtain ⟨xb, hxb⟩ : ∃ xb, xb = wr.heap.size := ⟨_, rfl⟩
        rw [← hxb] at hb5
        have Hb5 := Lib.hid hb5
        have Hal := Lib.hid (Hch.out.trans hal)
        have Hxb := Lib.hid hxb
        have hstd : standsF ⟨op, n, s⟩ len = (if wordL op = [] then false
          else if takesF op = 1 then decide (s = [])
          else if takesF op = 2 then decide (n = 0 ∧ s.length ≤ 256)
          else if takesF op = 3 then decide (s = [] ∧ 0 ≤ n ∧ n < 16)
          else if takesF op = 4 then decide (s = [] ∧ 0 ≤ n ∧ n < len)
          else decide (s = [] ∧ n = 0)) := rfl
        obtain ⟨st, hstE⟩ : ∃ st, st = standsF ⟨op, n, s⟩ len := ⟨_, rfl⟩
        rw [← hstE] at Hyes Hgo hstd
        have hti := takesF_in op
        obtain ⟨wb, hwb⟩ : ∃ wb : Bool, wb = decide (wordL op = []) := ⟨_, rfl⟩
        have hwe : ((tx (wordL op)).toList == []) = wb := by
          rw [Lib.toList_data, tx_list, hwb]
          by_cases h : wordL op = []
          · rw [h]; rfl
          · rw [decide_eq_false h, beq_eq_false_iff_ne]; exact h
        obtain ⟨sb, hsb⟩ : ∃ sb : Bool, sb = decide (s = []) := ⟨_, rfl⟩
        have hse : ((tx s).toList == []) = sb := by
          rw [Lib.toList_data, tx_list, hsb]
          by_cases h : s = []
          · subst h; rfl
          · rw [decide_eq_false h, beq_eq_false_iff_ne]; exact h
        obtain ⟨sl, hslen⟩ : ∃ sl, sl = s.length := ⟨_, rfl⟩
        have hss : (tx s).size = sl := by rw [tx_size, hslen]
        rw [← hslen] at hstd hsl
        have hs0 : s = [] → sl = 0 := fun h => by rw [hslen, h]; rfl
        have Hstd := Lib.hid hstd
        have Hsb := Lib.hid hsb
        have Hwb := Lib.hid hwb
        have Hs0 := Lib.hid hs0
        have Hti := Lib.hid hti
        have Ht := fun w => Lib.hid (refTakes_any op hw1.1 hw1.2 w)
        have Hw := fun w => Lib.hid (refWord_any op hw1.1 hw1.2 w)
        clear hal hb5 hxb hstd hstE hti hwb hsb hslen hs0
        go_upto_region 6 with fail
        rw [← Hxb.out]
        generalize wr.alloc (.cells #[.int .i64 op, .int .i64 n, .string (tx s)] 38) = w5 at *
        obtain ⟨f0, f1, f2⟩ := var3 Hb5.out
        clear c0 c1 c2
        go_wp2_with fail
        refine (Ht w5).out.mono ?_
        rintro e w6 ⟨rfl, hc6⟩
        have Hb6 := Lib.hid (row_kept hc6 Hb5.out id)
        have Hc6 := Lib.hid (Hal.out.trans hc6)
        clear f0 f1 f2 hc6
        obtain ⟨f0, f1, f2⟩ := var3 Hb6.out
        go_wp2_with fail
        refine (Hw w6).out.mono ?_
        rintro e w7 ⟨rfl, hc7⟩
        have Hb7 := Lib.hid (row_kept hc7 Hb6.out id)
        have Hc7 := Lib.hid (Hc6.out.trans hc7)
        clear f0 f1 f2 hc7 Ht Hw
        obtain ⟨f0, f1, f2⟩ := var3 Hb7.out
        generalize takesF op = t at *
        generalize wordL op = wl at *
        have hti := Hti.out
        clear Hti
        have fin : ∀ b : Bool, (st = !b → True) := fun _ _ => trivial
        cases wb with
        | true =>
          have hst0 : st = false := by have h1 := Hwb.out; have h2 := Hstd.out; grind
          have Hy := Lib.hid (Hyes.out hst0)
          clear Hyes hti
          go_wp2_with fail
          go_ret2
          refine ⟨?_, Hc7.out⟩
          show Ending.returned (.tuple #[.int .i64 k, .int .i64 30]) = _
          rw [Hy.out]
        | false =>
          rcases hti with rfl | rfl | rfl | rfl | rfl <;> cases sb
          all_goals
            go_wp2_with fail
          all_goals
            have hsd := Hstd.out
            have hs1 := Hsb.out
            have hw1 := Hwb.out
            have hs0 := Hs0.out
            have Hy := Hyes
            have Hg := Hgo
            clear Hyes Hgo Hstd Hsb Hwb Hs0 fin
            first
              | (go_ret2
                 have hst0 : st = false := by grind
                 refine ⟨?_, Hc7.out⟩
                 show Ending.returned (.tuple #[.int .i64 k, .int .i64 30]) = _
                 rw [Hy.out hst0])
              | (go_roundw
                 case rel =>
                   have hst0 : st = true := by grind
                   exact ⟨k + 1, by omega, by go_num, Hg.out hst0, Hc7.out⟩
                 case measure => simp [intOf]; omega)
      · obtain rfl : k = len := by omega
        have Hf := Lib.hid (find_none (ps := ps) (f := fun x => standsF x k) fun i hi => Hno.out i hi (by rw [Hlen.out]; exact hi))
        have hck := Hck.out
        rw [Hf.out] at hck
        have Hck2 := Lib.hid hck
        clear hck
        go_wp2_with fail
        go_ret2
        refine ⟨?_, Hch.out⟩
        show Ending.returned (.tuple #[.int .i64 0, .int .i64 0]) = _
        rw [Hck2.out]
end Go.Proofs.YtaihgciokfkonaaDoor
