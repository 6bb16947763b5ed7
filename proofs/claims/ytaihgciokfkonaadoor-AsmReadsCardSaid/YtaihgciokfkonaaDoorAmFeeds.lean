/- The contract of the document's Lines. Condition: the text is not too long. -/
import Derived.Test.YtaihgciokfkonaaDoorTxApp
import Derived.Test.YtaihgciokfkonaaDoorPthAll
import Derived.Test.YtaihgciokfkonaaDoorNdLib
import Derived.OwnWalk
import Derived.Laws.OwnMore

namespace Go.Proofs.YtaihgciokfkonaaDoor
set_option linter.unusedVariables false
open Go.ChangeShapes Go.WideShapes Go.ChangeAt Go.RowKit
def LinesP (s : List UInt8) (w : World) (e : Ending) (w' : World) : Prop := Chg NoB w w' ∧ ∃ v, e = .returned v ∧ w'.ownsRow w.heap.size 9 1 v (Pth.pcs 10 s).length (txV (Pth.pcs 10 s))
theorem cutAB (l : List UInt8) (a b : Nat) : (tx l).extract a b = tx ((l.take b).drop a) := by
  apply ByteArray.ext
  rw [ByteArray.data_extract]
  show l.toArray.extract a b = ((l.take b).drop a).toArray
  simp [List.drop_take]
set_option maxHeartbeats 4000000 in
set_option maxRecDepth 20000 in
theorem feeds_any (s : List UInt8) (w : World) (hs : s.length ≤ 524288) : Calls Tryd.prog 16 #[.string (tx s)] w (LinesP s w) := by
  have hz : (tx s).size = s.length := tx_size s
  go_enter Tryd.func16, Tryd.ntmps16
  go_wp2_with fail
  go_loopw [3, 4, 5] (fun o f i wr => ∃ (k m n : Nat) (done : List (List UInt8)), k ≤ s.length ∧ m ≤ k ∧ f = .int .i64 m ∧ i = .int .i64 k ∧ n = done.length ∧ n ≤ k ∧ Pth.pcs 10 (s.take k) = done ++ [(s.take k).drop m] ∧ wr.ownsRow w.heap.size 9 1 o n (txV done) ∧ Chg NoB w wr) (fun _ _ i _ => s.length - (intOf i).toNat)
  case atStart => exact ⟨0, 0, 0, [], Nat.zero_le _, Nat.le_refl _, rfl, rfl, rfl, Nat.le_refl _, rfl, World.ownsRow_nil _ _ _ _, Chg.refl _ _⟩
  case round =>
    obtain ⟨k, m, n, done, hk, hm, rfl, rfl, hn, hnk, hp, ho, hc⟩ := hrel
    obtain ⟨q, cp, rfl, -, -⟩ := row_shape ho
    have Hn := Lib.hid hn
    have Hp := Lib.hid hp
    have Ho := Lib.hid ho
    have Hc := Lib.hid hc
    clear hn hp ho hc
    by_cases hlt : k < s.length
    · have hkk : k < (tx s).size := by omega
      obtain ⟨b, hb⟩ : ∃ b, (tx s)[k] = b := ⟨_, rfl⟩
      have htk : s.take (k + 1) = s.take k ++ [b] := by rw [← hb]; exact take_at hlt
      have Hst := Lib.hid (show Pth.pcs 10 (s.take (k + 1)) = if b = 10 then done ++ [(s.take k).drop m] ++ [[]] else done ++ [(s.take k).drop m ++ [b]] by
        rw [htk, Pth.pcs_snoc, Hp.out, Pth.pstep_tail])
      have Hdrop := Lib.hid (show (s.take (k + 1)).drop m = (s.take k).drop m ++ [b] by
        rw [htk, List.drop_append_of_le_length (by rw [List.length_take]; omega)])
      by_cases hb0 : b = 10
      · have hbb : ((b.toNat : Int) == 10) = true := by rw [hb0]; rfl
        rw [if_pos hb0] at Hst
        have hx0 : (m : Int) ≤ (k : Int) := by omega
        have hx1 : (k : Int) ≤ (s.length : Int) := by omega
        have hcut := cutAB s m k
        have hal_ := (Chg.refl NoB wr).alloc (.cells #[.string (tx ((s.take k).drop m))] 9)
        have hb_ := heap_alloc_new wr (.cells #[.string (tx ((s.take k).drop m))] 9)
        obtain ⟨b3, hxb_⟩ : ∃ b, b = wr.heap.size := ⟨_, rfl⟩
        obtain ⟨w3, hw_⟩ : ∃ w_, wr.alloc (.cells #[.string (tx ((s.take k).drop m))] 9) = w_ := ⟨_, rfl⟩
        have hz_ : w3.heap.size = b3 + 1 := by rw [← hw_, hxb_]; exact alloc_size _ _
        rw [hw_] at hal_ hb_
        rw [← hxb_] at hb_
        have Hw3 := Lib.hid hw_
        have Hx3 := Lib.hid hxb_
        have Ha3 := Lib.hid hal_
        have Hb3 := Lib.hid hb_
        have Hz3 := Lib.hid hz_
        clear hal_ hb_ hxb_ hw_ hz_
        have Ho3 := Lib.hid (ownsRow_chg Ho.out Ha3.out fun _ _ => id)
        have Hbase := Lib.hid (show w.heap.size ≤ w3.heap.size from Nat.le_trans Hc.out.size Ha3.out.size)
        clear hb0 htk
        go_wp2_with (at_builtin; go_loud (rw [← Hx3.out, Hw3.out]); go_loud (refine wpList_txt1 (v := .slice q n cp) (y := (s.take k).drop m) rfl _ _ rfl rfl rfl Hn.out rfl Ho3.out Hb3.out (by omega) Hbase.out ?_); intro v4 w4 h4 hg4)
        go_roundw
        case rel => exact ⟨k + 1, k + 1, n + 1, done ++ [(s.take k).drop m], by omega, Nat.le_refl _, by go_num, by go_num, by rw [List.length_append, ← Hn.out]; rfl, by omega, by rw [Hst.out]; simp, h4, (Hc.out.trans Ha3.out).above ((Chg.refl _ _).grown hg4 fun j hj => .inl hj) fun j hj => (World.ownsRow.lt Ho3.out j hj).1⟩
        case measure => simp [intOf]; omega
      · have hbb : ((b.toNat : Int) == 10) = false := by
          rw [beq_eq_false_iff_ne]; intro e; apply hb0; exact UInt8.toNat_inj.1 (by have : (10 : UInt8).toNat = 10 := rfl; omega)
        rw [if_neg hb0] at Hst
        clear hb0 htk
        go_wp2_with fail
        go_roundw
        case rel => exact ⟨k + 1, m, n, done, by omega, by omega, rfl, by go_num, Hn.out, by omega, by rw [Hst.out, Hdrop.out], Ho.out, Hc.out⟩
        case measure => simp [intOf]; omega
    · obtain rfl : k = s.length := by omega
      have htk : s.take s.length = s := List.take_length
      rw [htk] at Hp
      have hx0 : (m : Int) ≤ (s.length : Int) := by omega
      have hcut : (tx s).extract m s.length = tx (s.drop m) := by rw [cutAB, List.take_length]
      have hal_ := (Chg.refl NoB wr).alloc (.cells #[.string (tx (s.drop m))] 9)
      have hb_ := heap_alloc_new wr (.cells #[.string (tx (s.drop m))] 9)
      obtain ⟨b3, hxb_⟩ : ∃ b, b = wr.heap.size := ⟨_, rfl⟩
      obtain ⟨w3, hw_⟩ : ∃ w_, wr.alloc (.cells #[.string (tx (s.drop m))] 9) = w_ := ⟨_, rfl⟩
      have hz_ : w3.heap.size = b3 + 1 := by rw [← hw_, hxb_]; exact alloc_size _ _
      rw [hw_] at hal_ hb_
      rw [← hxb_] at hb_
      have Hw3 := Lib.hid hw_
      have Hx3 := Lib.hid hxb_
      have Ha3 := Lib.hid hal_
      have Hb3 := Lib.hid hb_
      have Hz3 := Lib.hid hz_
      clear hal_ hb_ hxb_ hw_ hz_
      have Ho3 := Lib.hid (ownsRow_chg Ho.out Ha3.out fun _ _ => id)
      have Hbase := Lib.hid (show w.heap.size ≤ w3.heap.size from Nat.le_trans Hc.out.size Ha3.out.size)
      clear htk
      go_wp2_with (at_builtin; go_loud (rw [← Hx3.out, Hw3.out]); go_loud (refine wpList_txt1 (v := .slice q n cp) (y := s.drop m) rfl _ _ rfl rfl rfl Hn.out rfl Ho3.out Hb3.out (by omega) Hbase.out ?_); intro v4 w4 h4 hg4)
      go_ret
      refine ⟨(Hc.out.trans Ha3.out).above ((Chg.refl _ _).grown hg4 fun j hj => .inl hj) fun j hj => (World.ownsRow.lt Ho3.out j hj).1, v4, rfl, ?_⟩
      rw [Hp.out, List.length_append, ← Hn.out]
      exact h4
end Go.Proofs.YtaihgciokfkonaaDoor
