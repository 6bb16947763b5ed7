/- The contracts of the document's hex, unquoted, Quoted. Condition: the text is not too long. -/
import Derived.Test.YtaihgciokfkonaaDoorAmQcut

namespace Go.Proofs.YtaihgciokfkonaaDoor
set_option linter.unusedVariables false
open Go.ChangeShapes Go.WideShapes Go.ChangeAt Go.RowKit
theorem hexI_eq (c : UInt8) : hexI c = if 48 ≤ c.toNat ∧ c.toNat ≤ 57 then (c.toNat : Int) - 48 else if 97 ≤ c.toNat ∧ c.toNat ≤ 102 then (c.toNat : Int) - 87 else -1 := by
  unfold hexI hexC
  by_cases h1 : 48 ≤ c.toNat ∧ c.toNat ≤ 57
  · rw [if_pos h1, if_pos h1]; simp only; omega
  · rw [if_neg h1, if_neg h1]
    by_cases h2 : 97 ≤ c.toNat ∧ c.toNat ≤ 102
    · rw [if_pos h2, if_pos h2]; simp only; omega
    · rw [if_neg h2, if_neg h2]
theorem hex_any (c : UInt8) (w : World) : Calls Tryd.prog 64 #[.int .u8 (c.toNat : Int)] w fun e w' => e = .returned (.int .i64 (hexI c)) ∧ w' = w := by
  have hlc := c.toNat_lt
  have He := Lib.hid (hexI_eq c)
  by_cases h1 : 48 ≤ c.toNat ∧ c.toNat ≤ 57
  · rw [if_pos h1] at He
    have p0 : (48 : Int) ≤ (c.toNat : Int) := by omega
    have p1 : (c.toNat : Int) ≤ 57 := by omega
    clear h1
    go_enter Tryd.func64, Tryd.ntmps64
    go_wp2_with fail
    go_ret
    exact ⟨by rw [He.out]; rfl, rfl⟩
  · rw [if_neg h1] at He
    by_cases h2 : 97 ≤ c.toNat ∧ c.toNat ≤ 102
    · rw [if_pos h2] at He
      have p0 : (48 : Int) ≤ (c.toNat : Int) := by omega
      have p1 : ¬ (c.toNat : Int) ≤ 57 := by omega
      have p2 : (97 : Int) ≤ (c.toNat : Int) := by omega
      have p3 : (c.toNat : Int) ≤ 102 := by omega
      have He2 := Lib.hid (show hexI c = (c.toNat : Int) - 97 + 10 by rw [He.out]; omega)
      clear h1 h2
      go_enter Tryd.func64, Tryd.ntmps64
      go_wp2_with fail
      go_ret
      exact ⟨by rw [He2.out]; rfl, rfl⟩
    · rw [if_neg h2] at He
      have p0 : ¬ ((48 : Int) ≤ (c.toNat : Int) ∧ (c.toNat : Int) ≤ 57) := by omega
      have p1 : ¬ ((97 : Int) ≤ (c.toNat : Int) ∧ (c.toNat : Int) ≤ 102) := by omega
      clear h1 h2
      go_enter Tryd.func64, Tryd.ntmps64
      go_wp2_with fail
      all_goals
        go_ret
        exact ⟨by rw [He.out]; rfl, rfl⟩
set_option maxHeartbeats 4000000 in
set_option maxRecDepth 20000 in
theorem quoted_any (s : List UInt8) (w : World) (hs : s.length ≤ 131072) : Calls Tryd.prog 34 #[.string (tx s)] w (SayT (quoF s) w) := by
  have hal_ := (Chg.refl NoB w).alloc (.cells #[.int .u8 34] 5)
  have hb_ := heap_alloc_new w (.cells #[.int .u8 34] 5)
  obtain ⟨b1, hxb_⟩ : ∃ b, b = w.heap.size := ⟨_, rfl⟩
  obtain ⟨w1, hw_⟩ : ∃ w_, w.alloc (.cells #[.int .u8 34] 5) = w_ := ⟨_, rfl⟩
  have hz_ : w1.heap.size = b1 + 1 := by rw [← hw_, hxb_]; exact alloc_size _ _
  rw [hw_] at hal_ hb_
  rw [← hxb_] at hb_
  have Hw1 := Lib.hid hw_
  have Hx1 := Lib.hid hxb_
  have Ha1 := Lib.hid hal_
  have Hb1 := Lib.hid hb_
  have Hz1 := Lib.hid hz_
  clear hal_ hb_ hxb_ hw_ hz_
  have Hown0 := Lib.hid (show Own w1 w.heap.size (.slice (some ⟨b1, 0, none⟩) 1 1) (34 :: quoL []) from by
    rw [← Hw1.out, Hx1.out]; exact World.ownsRow_lit w #[.int .u8 34] 1 (Nat.le_refl _) (by decide) rfl)
  have hz : (tx s).size = s.length := tx_size s
  go_enter Tryd.func34, Tryd.ntmps34
  go_wp2_with fail
  go_loopw [4, 5] (fun o i wr => ∃ k : Nat, k ≤ s.length ∧ i = .int .i64 k ∧ Own wr w.heap.size o (34 :: quoL (s.take k)) ∧ Chg NoB w wr) (fun _ i _ => s.length - (intOf i).toNat)
  case atStart =>
    have h := Hown0.out
    rw [← Hx1.out] at h
    rw [Hw1.out, ← Hx1.out]
    exact ⟨0, Nat.zero_le _, rfl, h, Ha1.out⟩
  case round =>
    obtain ⟨k, hk, rfl, ho, hc⟩ := hrel
    obtain ⟨ad, cap, rfl, -, -, -⟩ := ho.shape
    have hql := quoL_le s k
    obtain ⟨n, hn⟩ : ∃ n, n = (34 :: quoL (s.take k)).length := ⟨_, rfl⟩
    have hnb : n ≤ 393217 := by rw [hn, List.length_cons]; omega
    unfold Own at ho
    rw [← hn] at ho ⊢
    have Hn := Lib.hid hn
    have Ho := Lib.hid ho
    have Hc := Lib.hid hc
    clear ho hc hn hql
    by_cases hlt : k < s.length
    · have hkk : k < (tx s).size := by omega
      obtain ⟨c, hcc⟩ : ∃ c, (tx s)[k] = c := ⟨_, rfl⟩
      have Hqc := Lib.hid (show quoL (s.take (k + 1)) = quoL (s.take k) ++ quoC c from by rw [← hcc]; exact quoL_take s k hlt)
      by_cases hpl : 32 ≤ c.toNat ∧ c.toNat ≤ 126 ∧ c.toNat ≠ 34 ∧ c.toNat ≠ 92
      · have Ht := Lib.hid (show quoL (s.take (k + 1)) = quoL (s.take k) ++ [c] by rw [Hqc.out, quoC, if_pos (by rw [plainC, decide_eq_true_eq]; exact hpl)])
        have p0 : (32 : Int) ≤ (c.toNat : Int) := by omega
        have p1 : (c.toNat : Int) ≤ 126 := by omega
        have p2 : ((c.toNat : Int) != 34) = true := by rw [bne_iff_ne]; omega
        have p3 : ((c.toNat : Int) != 92) = true := by rw [bne_iff_ne]; omega
        have hal_ := (Chg.refl NoB wr).alloc (.cells #[.int .u8 (c.toNat : Int)] 5)
        have hb_ := heap_alloc_new wr (.cells #[.int .u8 (c.toNat : Int)] 5)
        obtain ⟨b2, hxb_⟩ : ∃ b, b = wr.heap.size := ⟨_, rfl⟩
        obtain ⟨w2, hw_⟩ : ∃ w_, wr.alloc (.cells #[.int .u8 (c.toNat : Int)] 5) = w_ := ⟨_, rfl⟩
        have hz_ : w2.heap.size = b2 + 1 := by rw [← hw_, hxb_]; exact alloc_size _ _
        rw [hw_] at hal_ hb_
        rw [← hxb_] at hb_
        have Hw2 := Lib.hid hw_
        have Hx2 := Lib.hid hxb_
        have Ha2 := Lib.hid hal_
        have Hb2 := Lib.hid hb_
        have Hz2 := Lib.hid hz_
        clear hal_ hb_ hxb_ hw_ hz_
        have Ho2 := Lib.hid (ownsRow_chg Ho.out Ha2.out fun _ _ => id)
        have Hbase := Lib.hid (show w.heap.size ≤ w2.heap.size from Nat.le_trans Hc.out.size Ha2.out.size)
        clear hpl
        go_wp2_with (at_builtin; go_loud (rw [← Hx2.out, Hw2.out]); go_loud (refine wpList_lit (m := 1) (v := .slice ad n cap) (ys := [c]) rfl _ _ rfl rfl rfl rfl Hn.out Ho2.out Hb2.out (by omega) Hbase.out ?_); intro v3 w3 h3 hc3)
        go_roundw
        case rel => exact ⟨k + 1, by omega, by go_num, by rw [Ht.out]; exact h3, (Hc.out.trans Ha2.out).above hc3 fun j hj => (World.ownsRow.lt Ho2.out j hj).1⟩
        case measure => simp [intOf]; omega
      · have hlc := c.toNat_lt
        obtain ⟨X, hX⟩ : ∃ X, X = c.toNat / 16 := ⟨_, rfl⟩
        obtain ⟨Y, hY⟩ : ∃ Y, Y = c.toNat % 16 := ⟨_, rfl⟩
        have q1 : (c.toNat : Int) / 16 = (X : Int) := by omega
        have q2 : (c.toNat : Int).tmod 16 = (Y : Int) := by rw [Int.tmod_eq_emod_of_nonneg (by omega)]; omega
        have q7 : IntKind.u8.wrap (X : Int) = (X : Int) := by rw [IntKind.wrap_u8']; omega
        have q3 : X < 16 := by omega
        have q4 : Y < 16 := by omega
        have Ht := Lib.hid (show quoL (s.take (k + 1)) = quoL (s.take k) ++ [92, hexT.getD X 0, hexT.getD Y 0] by rw [Hqc.out, quoC, if_neg (by rw [plainC, decide_eq_true_eq]; exact hpl), hX, hY])
        clear hX hY
        have n2 : n + 3 ≤ 1048576 := by omega
        have q5 : (X : Int) < 16 := by omega
        have q6 : (Y : Int) < 16 := by omega
        by_cases r1 : (32 : Int) ≤ (c.toNat : Int)
        · by_cases r2 : (c.toNat : Int) ≤ 126
          · by_cases r3 : ((c.toNat : Int) != 34) = true
            · have r4 : ((c.toNat : Int) != 92) = false := by
                rw [bne_eq_false_iff_eq]
                rw [bne_iff_ne] at r3
                omega
              clear hpl
              go_wp2_with fail
              go_region_law (refine step_lit (by rfl) wr (.tmp 35) (.tmp 44) (by rfl) w.heap.size n (.slice ad n cap) (34 :: quoL (s.take k)) [92, (⟨#[48, 49, 50, 51, 52, 53, 54, 55, 56, 57, 97, 98, 99, 100, 101, 102]⟩ : ByteArray)[X]'q3, (⟨#[48, 49, 50, 51, 52, 53, 54, 55, 56, 57, 97, 98, 99, 100, 101, 102]⟩ : ByteArray)[Y]'q4] 3 _ (by rfl) rfl (by rfl) (by rfl) Hn.out Ho.out n2 Hc.out.size ?_; intro v3 w3 h3 hc3)
              all_goals
                rw [hexB, hexB] at h3
                go_wp2_with fail
                go_roundw
                case rel => exact ⟨k + 1, by omega, by go_num, by rw [Ht.out]; exact h3, Hc.out.above hc3 fun j hj => (World.ownsRow.lt Ho.out j hj).1⟩
                case measure => simp [intOf]; omega
            · have r4 : ((c.toNat : Int) != 34) = false := by simpa using r3
              clear hpl r3
              go_wp2_with fail
              go_region_law (refine step_lit (by rfl) wr (.tmp 35) (.tmp 44) (by rfl) w.heap.size n (.slice ad n cap) (34 :: quoL (s.take k)) [92, (⟨#[48, 49, 50, 51, 52, 53, 54, 55, 56, 57, 97, 98, 99, 100, 101, 102]⟩ : ByteArray)[X]'q3, (⟨#[48, 49, 50, 51, 52, 53, 54, 55, 56, 57, 97, 98, 99, 100, 101, 102]⟩ : ByteArray)[Y]'q4] 3 _ (by rfl) rfl (by rfl) (by rfl) Hn.out Ho.out n2 Hc.out.size ?_; intro v3 w3 h3 hc3)
              all_goals
                rw [hexB, hexB] at h3
                go_wp2_with fail
                go_roundw
                case rel => exact ⟨k + 1, by omega, by go_num, by rw [Ht.out]; exact h3, Hc.out.above hc3 fun j hj => (World.ownsRow.lt Ho.out j hj).1⟩
                case measure => simp [intOf]; omega
          · clear hpl
            go_wp2_with fail
            go_region_law (refine step_lit (by rfl) wr (.tmp 35) (.tmp 44) (by rfl) w.heap.size n (.slice ad n cap) (34 :: quoL (s.take k)) [92, (⟨#[48, 49, 50, 51, 52, 53, 54, 55, 56, 57, 97, 98, 99, 100, 101, 102]⟩ : ByteArray)[X]'q3, (⟨#[48, 49, 50, 51, 52, 53, 54, 55, 56, 57, 97, 98, 99, 100, 101, 102]⟩ : ByteArray)[Y]'q4] 3 _ (by rfl) rfl (by rfl) (by rfl) Hn.out Ho.out n2 Hc.out.size ?_; intro v3 w3 h3 hc3)
            all_goals
              rw [hexB, hexB] at h3
              go_wp2_with fail
              go_roundw
              case rel => exact ⟨k + 1, by omega, by go_num, by rw [Ht.out]; exact h3, Hc.out.above hc3 fun j hj => (World.ownsRow.lt Ho.out j hj).1⟩
              case measure => simp [intOf]; omega
        · clear hpl
          go_wp2_with fail
          go_region_law (refine step_lit (by rfl) wr (.tmp 35) (.tmp 44) (by rfl) w.heap.size n (.slice ad n cap) (34 :: quoL (s.take k)) [92, (⟨#[48, 49, 50, 51, 52, 53, 54, 55, 56, 57, 97, 98, 99, 100, 101, 102]⟩ : ByteArray)[X]'q3, (⟨#[48, 49, 50, 51, 52, 53, 54, 55, 56, 57, 97, 98, 99, 100, 101, 102]⟩ : ByteArray)[Y]'q4] 3 _ (by rfl) rfl (by rfl) (by rfl) Hn.out Ho.out n2 Hc.out.size ?_; intro v3 w3 h3 hc3)
          all_goals
            rw [hexB, hexB] at h3
            go_wp2_with fail
            go_roundw
            case rel => exact ⟨k + 1, by omega, by go_num, by rw [Ht.out]; exact h3, Hc.out.above hc3 fun j hj => (World.ownsRow.lt Ho.out j hj).1⟩
            case measure => simp [intOf]; omega
    · obtain rfl : k = s.length := by omega
      have Htk := Lib.hid (show s.take s.length = s from List.take_length)
      have hal_ := (Chg.refl NoB wr).alloc (.cells #[.int .u8 34] 5)
      have hb_ := heap_alloc_new wr (.cells #[.int .u8 34] 5)
      obtain ⟨b2, hxb_⟩ : ∃ b, b = wr.heap.size := ⟨_, rfl⟩
      obtain ⟨w2, hw_⟩ : ∃ w_, wr.alloc (.cells #[.int .u8 34] 5) = w_ := ⟨_, rfl⟩
      have hz_ : w2.heap.size = b2 + 1 := by rw [← hw_, hxb_]; exact alloc_size _ _
      rw [hw_] at hal_ hb_
      rw [← hxb_] at hb_
      have Hw2 := Lib.hid hw_
      have Hx2 := Lib.hid hxb_
      have Ha2 := Lib.hid hal_
      have Hb2 := Lib.hid hb_
      have Hz2 := Lib.hid hz_
      clear hal_ hb_ hxb_ hw_ hz_
      have Ho2 := Lib.hid (ownsRow_chg Ho.out Ha2.out fun _ _ => id)
      have Hbase := Lib.hid (show w.heap.size ≤ w2.heap.size from Nat.le_trans Hc.out.size Ha2.out.size)
      go_wp2_with (at_builtin; go_loud (rw [← Hx2.out, Hw2.out]); go_loud (refine wpList_lit (m := 1) (v := .slice ad n cap) (ys := [34]) rfl _ _ rfl rfl rfl rfl Hn.out Ho2.out Hb2.out (by omega) Hbase.out ?_); intro v3 w3 h3 hc3; have cv := h3.src.conv)
      go_ret
      refine ⟨?_, (Hc.out.trans Ha2.out).above hc3 fun j hj => (World.ownsRow.lt Ho2.out j hj).1⟩
      rfl
end Go.Proofs.YtaihgciokfkonaaDoor
