/- The contracts of Frame and of the reading of records. Condition: at most 2^17 bytes. -/
import Derived.Test.YtdgpeffbgejjlaaLogMath
import Derived.Laws.OwnMore
import Derived.OwnWalk
import Derived.WalkLawsBesides
namespace Go.Proofs.Ytdgpeffbgejjlaa
set_option linter.unusedVariables false
open Go.ChangeShapes Go.WideShapes Go.ChangeAt Go.RowKit
def tx (l : List UInt8) : ByteArray := ⟨l.toArray⟩
theorem tx_list (l : List UInt8) : (tx l).data.toList = l := rfl
theorem tx_size (l : List UInt8) : (tx l).size = l.length := by show l.toArray.size = _; simp
theorem tx_of (s : ByteArray) : tx s.data.toList = s := rfl
theorem tx_app (l r : List UInt8) : tx l ++ tx r = tx (l ++ r) := by
  apply ByteArray.ext; apply Array.ext'
  rw [ByteArray.data_append, Array.toList_append, tx_list, tx_list, tx_list]
theorem three_src (w : World) (a b c : UInt8) :
    Src (w.alloc (.cells #[.int .u8 (a.toNat : Int), .int .u8 (b.toNat : Int), .int .u8 (c.toNat : Int)] 5)) (.slice (some ⟨w.heap.size, 0, none⟩) 3 3) [a, b, c] := by
  refine .inr ⟨_, 3, rfl, by simp, by decide, fun j hj => ?_⟩
  have hj' : j < 3 := hj
  have hc := fun j => cell_of_row _ w.heap.size j _ 5 (0, 0) (heap_alloc_new w (.cells #[.int .u8 (a.toNat : Int), .int .u8 (b.toNat : Int), .int .u8 (c.toNat : Int)] 5))
  have e : (⟨w.heap.size, 0, none⟩ : Addr).add j = ⟨w.heap.size, j, none⟩ := by simp [Addr.add]; omega
  rw [e, hc j]
  obtain rfl | rfl | rfl : j = 0 ∨ j = 1 ∨ j = 2 := by omega
  all_goals simp
set_option maxHeartbeats 1000000 in
theorem frame_any (s : ByteArray) (w : World) (hs : s.size ≤ 131072) :
    Calls Try.prog 5 #[.string s] w fun e w' => e = .returned (.string (tx (frameL s.data.toList))) ∧ Chg NoB w w' := by
  have hsl : s.data.toList.length = s.size := by simp
  obtain ⟨a, ha⟩ : ∃ a, UInt8.ofNat (s.size / 65536) = a := ⟨_, rfl⟩
  obtain ⟨b, hb⟩ : ∃ b, UInt8.ofNat (s.size / 256 % 256) = b := ⟨_, rfl⟩
  obtain ⟨c, hc⟩ : ∃ c, UInt8.ofNat (s.size % 256) = c := ⟨_, rfl⟩
  have w1 : IntKind.u8.wrap ((s.size : Int) / 65536) = (a.toNat : Int) := by rw [← ha, ← u8_nat]; congr 1
  have w2 : IntKind.u8.wrap ((s.size : Int) / 256 % 256) = (b.toNat : Int) := by rw [← hb, ← u8_nat]; congr 1
  have w3 : IntKind.u8.wrap ((s.size : Int) % 256) = (c.toNat : Int) := by rw [← hc, ← u8_nat]; congr 1
  have hfr : tx [a, b, c] ++ s = tx (frameL s.data.toList) := by
    rw [← tx_of s, tx_app, tx_list]
    unfold frameL head3
    rw [hsl, ha, hb, hc]
  have Hfr := Lib.hid hfr
  have hcv := (three_src w a b c).conv
  have hz : ¬ 9223372036854775807 < (tx [a, b, c]).size + s.size := by rw [tx_size]; simp; omega
  clear ha hb hc hsl hfr
  go_enter Try.func5, Try.ntmps5
  go_wp2
  go_ret
  exact ⟨by rw [← Hfr.out]; rfl, (Chg.refl _ _).alloc _⟩
end Go.Proofs.Ytdgpeffbgejjlaa
