/- Records as bytes; numbers of three bytes. Condition: a record has at most 2^17 bytes. -/
import Derived.Test.YtdgpeffbgejjlaaRibWalkG
import Derived.Lib.AppendStr
namespace Go.Proofs.Ytdgpeffbgejjlaa
set_option linter.unusedVariables false
open Go.ChangeShapes Go.WideShapes Go.ChangeAt Go.RowKit
theorem u8_nat (n : Nat) : IntKind.u8.wrap (n : Int) = ((UInt8.ofNat n).toNat : Int) := by
  rw [IntKind.wrap_u8', UInt8.toNat_ofNat']
  omega
/- a record's size, in three bytes -/
def head3 (n : Nat) : List UInt8 := [UInt8.ofNat (n / 65536), UInt8.ofNat (n / 256 % 256), UInt8.ofNat (n % 256)]
def frameL (s : List UInt8) : List UInt8 := head3 s.length ++ s
theorem frameL_len (s : List UInt8) : (frameL s).length = 3 + s.length := by unfold frameL head3; simp; omega
def sizeOf3 (a b c : UInt8) : Nat := a.toNat * 65536 + b.toNat * 256 + c.toNat
theorem size_head (n : Nat) (h : n < 16777216) : sizeOf3 (UInt8.ofNat (n / 65536)) (UInt8.ofNat (n / 256 % 256)) (UInt8.ofNat (n % 256)) = n := by
  unfold sizeOf3
  rw [UInt8.toNat_ofNat', UInt8.toNat_ofNat', UInt8.toNat_ofNat']
  omega
theorem or_nat (x y : Nat) (hx : x < 4294967296) (hy : y < 4294967296) : bits .or .i64 (x : Int) (y : Int) = ((x ||| y : Nat) : Int) := by
  have h1 : (BitVec.ofInt 64 (x : Int)).toNat = x := by
    rw [BitVec.toNat_ofInt]
    omega
  have h2 : (BitVec.ofInt 64 (y : Int)).toNat = y := by
    rw [BitVec.toNat_ofInt]
    omega
  have hlt : x ||| y < 2 ^ 32 := Nat.or_lt_two_pow (by omega) (by omega)
  unfold bits
  show IntKind.i64.wrap (((BitVec.ofInt 64 (x : Int)) ||| (BitVec.ofInt 64 (y : Int))).toNat : Int) = _
  rw [BitVec.toNat_or, h1, h2, IntKind.wrap_i64]
  omega
theorem or_n16 (a b : Nat) (hb : b < 65536) : a * 65536 ||| b = a * 65536 + b := by
  have := Nat.two_pow_add_eq_or_of_lt (i := 16) (b := b) hb a
  rw [Nat.mul_comm a 65536]
  exact this.symm
theorem or_n8 (a b : Nat) (hb : b < 256) : a * 256 ||| b = a * 256 + b := by
  have := Nat.two_pow_add_eq_or_of_lt (i := 8) (b := b) hb a
  rw [Nat.mul_comm a 256]
  exact this.symm
theorem or_i (x y z : Nat) (X Y : Int) (hx : x < 4294967296) (hy : y < 4294967296) (h : x ||| y = z) (hX : X = (x : Int)) (hY : Y = (y : Int)) : bits .or .i64 X Y = (z : Int) := by
  rw [hX, hY, or_nat x y hx hy, h]
theorem or_two (a b : UInt8) : bits .or .i64 ((a.toNat : Int) * 65536) ((b.toNat : Int) * 256) = ((a.toNat * 65536 + b.toNat * 256 : Nat) : Int) := by
  have ha := a.toNat_lt
  have hb := b.toNat_lt
  exact or_i _ _ _ _ _ (by omega) (by omega) (or_n16 a.toNat (b.toNat * 256) (by omega)) (by omega) (by omega)
theorem or_three (a b c : UInt8) : bits .or .i64 ((a.toNat * 65536 + b.toNat * 256 : Nat) : Int) (c.toNat : Int) = ((sizeOf3 a b c : Nat) : Int) := by
  have ha := a.toNat_lt
  have hb := b.toNat_lt
  have hc := c.toNat_lt
  refine or_i _ _ _ _ _ (by omega) (by omega) ?_ rfl rfl
  have := or_n8 (a.toNat * 256 + b.toNat) c.toNat hc
  have e : (a.toNat * 256 + b.toNat) * 256 = a.toNat * 65536 + b.toNat * 256 := by omega
  rw [e] at this
  exact this
theorem sizeOf3_lt (a b c : UInt8) : sizeOf3 a b c < 16777216 := by
  have ha := a.toNat_lt
  have hb := b.toNat_lt
  have hc := c.toNat_lt
  unfold sizeOf3
  omega
/- the records one behind the other -/
def framesL (rs : List (List UInt8)) : List UInt8 := (rs.map frameL).flatten
theorem framesL_nil : framesL [] = [] := rfl
theorem framesL_snoc (rs : List (List UInt8)) (r : List UInt8) : framesL (rs ++ [r]) = framesL rs ++ frameL r := by unfold framesL; simp
theorem framesL_take (rs : List (List UInt8)) (k : Nat) (h : k < rs.length) : framesL (rs.take (k + 1)) = framesL (rs.take k) ++ frameL rs[k] := by
  rw [List.take_succ_eq_append_getElem h, framesL_snoc]
theorem framesL_split (rs : List (List UInt8)) (k : Nat) : framesL rs = framesL (rs.take k) ++ framesL (rs.drop k) := by
  unfold framesL
  rw [← List.flatten_append, ← List.map_append, List.take_append_drop]
theorem framesL_drop (rs : List (List UInt8)) (k : Nat) (h : k < rs.length) : framesL (rs.drop k) = frameL rs[k] ++ framesL (rs.drop (k + 1)) := by
  rw [List.drop_eq_getElem_cons h]
  unfold framesL
  rw [List.map_cons, List.flatten_cons]
/- what is no record yet -/
def Part (t : List UInt8) : Prop := t.length < 3 ∨ ∃ a b c u, t = a :: b :: c :: u ∧ sizeOf3 a b c ≤ 65536 ∧ u.length < sizeOf3 a b c
theorem part_frame (s : List UInt8) (n : Nat) (h : n < 3 + s.length) (hs : s.length ≤ 65536) : Part ((frameL s).take n) := by
  by_cases h3 : n < 3
  · left
    rw [List.length_take]; omega
  · right
    refine ⟨UInt8.ofNat (s.length / 65536), UInt8.ofNat (s.length / 256 % 256), UInt8.ofNat (s.length % 256), s.take (n - 3), ?_, ?_, ?_⟩
    · obtain ⟨k, rfl⟩ : ∃ k, n = k + 3 := ⟨n - 3, by omega⟩
      unfold frameL head3
      simp
    · rw [size_head _ (by omega)]; exact hs
    · rw [size_head _ (by omega), List.length_take]; omega
end Go.Proofs.Ytdgpeffbgejjlaa
