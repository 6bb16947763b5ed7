/- Plain facts on 64-bit numbers: one byte's step is one to one. No conditions. -/
import Derived.WalkKit
import Derived.Test.YtbloglfmhhgccaaRows
import Derived.ProofKit
import Derived.OpenShut
import Derived.ShutString
import Derived.Lib.Hide
import Derived.Below
import Derived.Lib.Bytealg
namespace Go.Proofs.Ytbloglfmhhgccaa.Mix
set_option linter.unusedVariables false

theorem xor_val (a b : BitVec 64) : bits .xor .u64 (a.toNat : Int) (b.toNat : Int) = ((a ^^^ b).toNat : Int) := by
  rw [bits_xor_u64_nat _ _ a.isLt b.isLt, BitVec.toNat_xor]
theorem byte_val (c : UInt8) : IntKind.u64.wrap (c.toNat : Int) = ((BitVec.ofNat 64 c.toNat).toNat : Int) := by
  have := c.toNat_lt
  rw [IntKind.wrap_u64, BitVec.toNat_ofNat]; omega
theorem shl13_val (a : BitVec 64) : IntKind.u64.wrap ((a.toNat : Int) * (8192 : Int)) = ((a <<< 13).toNat : Int) := by
  rw [IntKind.wrap_u64, BitVec.toNat_shiftLeft, Nat.shiftLeft_eq]; omega
theorem shl17_val (a : BitVec 64) : IntKind.u64.wrap ((a.toNat : Int) * (131072 : Int)) = ((a <<< 17).toNat : Int) := by
  rw [IntKind.wrap_u64, BitVec.toNat_shiftLeft, Nat.shiftLeft_eq]; omega
theorem shr7_val (a : BitVec 64) : (a.toNat : Int) / (128 : Int) = ((a >>> 7).toNat : Int) := by
  rw [BitVec.toNat_ushiftRight, Nat.shiftRight_eq_div_pow]; omega
theorem div7_val (a : BitVec 64) : IntKind.u64.wrap ((a.toNat : Int).tdiv (128 : Int)) = ((a >>> 7).toNat : Int) := by
  have := a.isLt
  rw [Int.tdiv_eq_ediv_of_nonneg (by omega), IntKind.wrap_u64, BitVec.toNat_ushiftRight, Nat.shiftRight_eq_div_pow]; omega
theorem add_val (a : BitVec 64) : IntKind.u64.wrap ((a.toNat : Int) + (15111065706836454659 : Int)) = ((a + 15111065706836454659#64).toNat : Int) := by
  rw [IntKind.wrap_u64, BitVec.toNat_add]; simp only [BitVec.toNat_ofNat]; omega
theorem first_val (h : BitVec 64) : bits .xor .u64 (h.toNat : Int) 11400714819323198485 = ((h ^^^ 11400714819323198485#64).toNat : Int) :=
  xor_val h 11400714819323198485#64

def stepB (x : BitVec 64) (c : UInt8) : BitVec 64 :=
  let a := x ^^^ BitVec.ofNat 64 c.toNat
  let b := a ^^^ (a <<< 13)
  let d := b ^^^ (b >>> 7)
  let f := d ^^^ (d <<< 17)
  f + 15111065706836454659#64
def addB (x : BitVec 64) (l : List UInt8) : BitVec 64 := l.foldl stepB x
def startB (x : BitVec 64) : BitVec 64 := x ^^^ 11400714819323198485#64
def ofB (l : List UInt8) : BitVec 64 := addB (startB (BitVec.ofNat 64 l.length)) l

theorem addB_append (x : BitVec 64) (a b : List UInt8) : addB x (a ++ b) = addB (addB x a) b := by simp [addB]
theorem addB_cons (x : BitVec 64) (a : List UInt8) (c : UInt8) : addB x (c :: a) = addB (stepB x c) a := by simp [addB]
theorem addB_snoc (x : BitVec 64) (a : List UInt8) (c : UInt8) : addB x (a ++ [c]) = stepB (addB x a) c := by simp [addB]

theorem xorshl_inj (n : Nat) (hn : 1 ≤ n) (x y : BitVec 64) (h : x ^^^ (x <<< n) = y ^^^ (y <<< n)) : x = y := by
  apply BitVec.eq_of_getLsbD_eq
  have key : ∀ i, i < 64 → x.getLsbD i = y.getLsbD i := by
    intro i
    induction i using Nat.strongRecOn with
    | _ i ih =>
      intro hi
      have hb := congrArg (fun v : BitVec 64 => v.getLsbD i) h
      simp only [BitVec.getLsbD_xor, BitVec.getLsbD_shiftLeft, hi, decide_true, Bool.true_and] at hb
      by_cases hlt : i < n
      · simpa [hlt] using hb
      · have e := ih (i - n) (by omega) (by omega)
        simp only [hlt, decide_false, Bool.not_false, Bool.true_and, e] at hb
        cases hx : x.getLsbD i <;> cases hy : y.getLsbD i <;> cases hz : y.getLsbD (i - n) <;> simp_all
  exact fun i hi => key i hi

theorem xorshr_inj (n : Nat) (hn : 1 ≤ n) (x y : BitVec 64) (h : x ^^^ (x >>> n) = y ^^^ (y >>> n)) : x = y := by
  apply BitVec.eq_of_getLsbD_eq
  have key : ∀ j, ∀ i, 64 - i = j → x.getLsbD i = y.getLsbD i := by
    intro j
    induction j using Nat.strongRecOn with
    | _ j ih =>
      intro i hj
      by_cases hi : i < 64
      · have hb := congrArg (fun v : BitVec 64 => v.getLsbD i) h
        simp only [BitVec.getLsbD_xor, BitVec.getLsbD_ushiftRight] at hb
        have e := ih (64 - (n + i)) (by omega) (n + i) rfl
        rw [e] at hb
        cases hx : x.getLsbD i <;> cases hy : y.getLsbD i <;> cases hz : y.getLsbD (n + i) <;> simp_all
      · rw [BitVec.getLsbD_of_ge _ _ (by omega), BitVec.getLsbD_of_ge _ _ (by omega)]
  exact fun i _ => key (64 - i) i rfl

theorem add_right_inj' (x y c : BitVec 64) (h : x + c = y + c) : x = y := by
  have := congrArg (fun v => v - c) h
  simpa [BitVec.add_sub_cancel] using this
theorem xor_right_inj' (x y c : BitVec 64) (h : x ^^^ c = y ^^^ c) : x = y := by
  have := congrArg (fun v => v ^^^ c) h
  simpa [BitVec.xor_assoc] using this
theorem xor_left_inj' (x y c : BitVec 64) (h : c ^^^ x = c ^^^ y) : x = y := by
  rw [BitVec.xor_comm c x, BitVec.xor_comm c y] at h; exact xor_right_inj' _ _ _ h
theorem step_tail (x y : BitVec 64) (c d : UInt8) (h : stepB x c = stepB y d) : x ^^^ BitVec.ofNat 64 c.toNat = y ^^^ BitVec.ofNat 64 d.toNat := by
  unfold stepB at h
  exact xorshl_inj 13 (by decide) _ _ (xorshr_inj 7 (by decide) _ _ (xorshl_inj 17 (by decide) _ _ (add_right_inj' _ _ _ h)))
theorem step_inj (x y : BitVec 64) (c : UInt8) (h : stepB x c = stepB y c) : x = y := xor_right_inj' _ _ _ (step_tail _ _ _ _ h)
theorem step_byte (x : BitVec 64) (c d : UInt8) (h : stepB x c = stepB x d) : c = d := by
  have e := xor_left_inj' _ _ _ (step_tail _ _ _ _ h)
  have := congrArg BitVec.toNat e
  simp only [BitVec.toNat_ofNat] at this
  have h1 := c.toNat_lt
  have h2 := d.toNat_lt
  exact UInt8.toNat_inj.1 (by omega)
theorem addB_inj (x y : BitVec 64) (l : List UInt8) (h : addB x l = addB y l) : x = y := by
  induction l generalizing x y with
  | nil => exact h
  | cons c l ih => rw [addB_cons, addB_cons] at h; exact step_inj _ _ c (ih _ _ h)
theorem addB_byte (x : BitVec 64) (a b : List UInt8) (c d : UInt8) : addB x (a ++ c :: b) = addB x (a ++ d :: b) ↔ c = d := by
  constructor
  · intro h
    rw [addB_append, addB_append, addB_cons, addB_cons] at h
    exact step_byte _ _ _ (addB_inj _ _ b h)
  · rintro rfl; rfl
theorem addB_seed (x y : BitVec 64) (l : List UInt8) : addB x l = addB y l ↔ x = y := ⟨addB_inj x y l, fun h => by rw [h]⟩
theorem startB_seed (x y : BitVec 64) : startB x = startB y ↔ x = y := ⟨xor_right_inj' _ _ _, fun h => by rw [h]⟩
theorem data_len (s : ByteArray) : s.data.toList.length = s.size := Array.length_toList
theorem len_val (s : ByteArray) (hs : s.size ≤ maxLen) : (s.size : Int) = ((BitVec.ofNat 64 s.data.toList.length).toNat : Int) := by
  unfold maxLen at hs
  rw [BitVec.toNat_ofNat, data_len]; omega
theorem take_snoc (s : ByteArray) (k : Nat) (h : k < s.size) : s.data.toList.take (k + 1) = s.data.toList.take k ++ [s[k]] := by
  rw [List.take_succ_eq_append_getElem (by simpa using h)]; rfl
def narrowN (h : Nat) (w : Int) : Nat := h % 2 ^ (min w.toNat 64)
def divP (h j : Nat) : Nat := h / 2 ^ j
def modP (h j : Nat) : Nat := h % 2 ^ j
def powP (j : Nat) : Nat := 2 ^ j % 18446744073709551616
theorem divP_0 (h : Nat) : divP h 0 = h := by simp [divP]
theorem modP_0 (h : Nat) : modP h 0 = 0 := by simp [modP, Nat.mod_one]
theorem powP_0 : powP 0 = 1 := by simp [powP]
theorem pow_le64 (j : Nat) (hj : j ≤ 64) : 2 ^ j ≤ 18446744073709551616 := by
  have := Nat.pow_le_pow_right (n := 2) (by omega) hj
  simpa using this
theorem divP_step (h j : Nat) (hh : h < 2 ^ 64) : IntKind.u64.wrap (((divP h j : Nat) : Int) / (2 : Int)) = ((divP h (j + 1) : Nat) : Int) := by
  have e : divP h (j + 1) = divP h j / 2 := by unfold divP; rw [Nat.pow_succ, Nat.div_div_eq_div_mul]
  have l : divP h j ≤ h := Nat.div_le_self _ _
  rw [IntKind.wrap_u64, e]; omega
theorem modP_step (h j : Nat) (hh : h < 2 ^ 64) (hj : j < 64) : IntKind.u64.wrap (((modP h j : Nat) : Int) + IntKind.u64.wrap (((divP h j : Nat) : Int) % (2 : Int) * ((powP j : Nat) : Int))) = ((modP h (j + 1) : Nat) : Int) := by
  have h1 := pow_le64 j (by omega)
  have h2 := pow_le64 (j + 1) (by omega)
  have h3 : 0 < 2 ^ j := Nat.two_pow_pos _
  have e : modP h (j + 1) = modP h j + 2 ^ j * (divP h j % 2) := by unfold modP divP; rw [Nat.pow_succ, Nat.mod_mul]
  have l : modP h j < 2 ^ j := Nat.mod_lt _ h3
  rw [Nat.pow_succ] at h2
  have p : powP j = 2 ^ j := by unfold powP; exact Nat.mod_eq_of_lt (by omega)
  rw [IntKind.wrap_u64, IntKind.wrap_u64, e, p]
  rcases Nat.mod_two_eq_zero_or_one (divP h j) with q | q
  · have q' : ((divP h j : Nat) : Int) % 2 = 0 := by omega
    rw [q', q]; omega
  · have q' : ((divP h j : Nat) : Int) % 2 = 1 := by omega
    rw [q', q]; omega
theorem powP_step (j : Nat) : IntKind.u64.wrap (((powP j : Nat) : Int) * (2 : Int)) = ((powP (j + 1) : Nat) : Int) := by
  rw [IntKind.wrap_u64]; unfold powP; rw [Nat.pow_succ]; omega
theorem narrow_mask (h n : Nat) (hh : h < 2 ^ 64) (h1 : 1 ≤ n) (hn : n ≤ 63) : bits .and .u64 (h : Int) (IntKind.u64.wrap (IntKind.u64.wrap ((2 : Int) ^ n) - 1)) = ((narrowN h (n : Int) : Nat) : Int) := by
  have l1 := pow_le64 (n + 1) (by omega)
  rw [Nat.pow_succ] at l1
  have l2 : 0 < 2 ^ n := Nat.two_pow_pos _
  have c : ((2 : Int) ^ n) = ((2 ^ n : Nat) : Int) := by simp
  have m : IntKind.u64.wrap (IntKind.u64.wrap ((2 : Int) ^ n) - 1) = ((2 ^ n - 1 : Nat) : Int) := by
    rw [c, IntKind.wrap_u64, IntKind.wrap_u64]; omega
  rw [m]
  unfold narrowN
  have e : min (n : Int).toNat 64 = n := by rw [Int.toNat_natCast]; omega
  rw [e]
  have a := u64_and_nat h (2 ^ n - 1) (by omega) (by omega)
  rw [a, Nat.and_two_pow_sub_one_eq_mod]
theorem narrow_ge (h : Nat) (hh : h < 2 ^ 64) (k : Int) (hk : 64 ≤ k) : narrowN h k = h := by
  unfold narrowN; rw [Nat.min_eq_right (by omega), Nat.mod_eq_of_lt hh]
theorem narrow_le (h : Nat) (k : Int) (hk : k ≤ 0) : narrowN h k = 0 := by
  unfold narrowN; rw [Int.toNat_of_nonpos hk]; simp [Nat.mod_one]
theorem narrow_mod (h j : Nat) (k : Int) (h1 : j ≤ 64) (h2 : (j : Int) ≤ max k 0) (h3 : k ≤ (j : Int) ∨ j = 64) : modP h j = narrowN h k := by
  unfold narrowN modP
  have : j = min k.toNat 64 := by omega
  rw [← this]
theorem narrow_narrow (h : Nat) (a b : Int) : narrowN (narrowN h a) b = narrowN h (min a b) := by
  unfold narrowN
  rw [show min (min a b).toNat 64 = min (min a.toNat 64) (min b.toNat 64) by omega]
  rcases Nat.le_total (min a.toNat 64) (min b.toNat 64) with q | q
  · rw [Nat.min_eq_left q]
    exact Nat.mod_eq_of_lt (Nat.lt_of_lt_of_le (Nat.mod_lt _ (Nat.two_pow_pos _)) (Nat.pow_le_pow_right (by omega) q))
  · rw [Nat.min_eq_right q, Nat.mod_mod_of_dvd _ (Nat.pow_dvd_pow 2 q)]
theorem narrow_le_self (h : Nat) (a : Int) : narrowN h a ≤ h := Nat.mod_le _ _

/- the letters of a number's text -/
def lettersL : List UInt8 := [97, 98, 99, 100, 101, 102, 103, 104, 105, 106, 107, 108, 109, 110, 111, 112, 113, 114, 115, 116, 117, 118, 119, 120, 121, 122, 50, 51, 52, 53, 54, 55]
def letter (n : Nat) : UInt8 := lettersL.getD n 0
def dig (h i : Nat) : Nat := h / 2 ^ (5 * i) % 32
theorem dig_lt (h i : Nat) : dig h i < 32 := Nat.mod_lt _ (by decide)
theorem dig_mask (h i : Nat) (hh : h < 2 ^ 64) : bits .and .u64 ((h : Int) / (2 : Int) ^ (5 * i)) 31 = ((dig h i : Nat) : Int) := by
  have c : ((h : Int) / (2 : Int) ^ (5 * i)) = ((h / 2 ^ (5 * i) : Nat) : Int) := by simp
  have l : h / 2 ^ (5 * i) ≤ h := Nat.div_le_self _ _
  rw [c]
  have a := u64_and_nat (h / 2 ^ (5 * i)) 31 (by omega) (by decide)
  rw [show ((31 : Int)) = ((31 : Nat) : Int) from rfl, a]
  unfold dig
  rw [show (31 : Nat) = 2 ^ 5 - 1 from rfl, Nat.and_two_pow_sub_one_eq_mod]
end Go.Proofs.Ytbloglfmhhgccaa.Mix
namespace Go.Proofs.Ytbloglfmhhgccaa.Mix
set_option linter.unusedVariables false
open Go.ChangeShapes Go.WideShapes Go.ChangeAt Go.RowKit

def Grown (W w' : World) : Prop := Below W.heap.size W w'
theorem Grown.refl (w : World) : Grown w w := Below.refl _ _
theorem Grown.alloc {a w : World} (h : Grown a w) (c : Array Value) (t : TypeId) : Grown a (w.alloc (.cells c t)) := Below.alloc h h.size _
theorem ret_u64 {a b : Int} (h : a = b) : Ending.returned (.int .u64 a) = .returned (.int .u64 b) := by rw [h]

set_option maxHeartbeats 400000 in
theorem start_any (n : Int) (h : BitVec 64) (w : World) (hn : n = (h.toNat : Int)) :
    Calls Try.prog 35 #[.int .u64 n] w fun e w' => e = .returned (.int .u64 (startB h).toNat) ∧ w = w' := by
  subst hn
  have hh := h.isLt
  go_enter Try.func35, Try.ntmps35
  go_wp2
  go_ret
  exact ⟨ret_u64 (first_val h), rfl⟩
set_option maxHeartbeats 400000 in
theorem startR_any (n : Int) (h : BitVec 64) (w : World) (hn : n = (h.toNat : Int)) :
    Calls Try.prog 37 #[.int .u64 n] w fun e w' => e = .returned (.int .u64 (startB h).toNat) ∧ w = w' := by
  subst hn
  have hh := h.isLt
  go_enter Try.func37, Try.ntmps37
  go_wp2
  go_ret
  exact ⟨ret_u64 (first_val h), rfl⟩
set_option maxHeartbeats 400000 in
theorem add_any (h : BitVec 64) (s : ByteArray) (w : World) (hs : s.size ≤ maxLen) :
    Calls Try.prog 34 #[.int .u64 h.toNat, .string s] w fun e w' => e = .returned (.int .u64 (addB h s.data.toList).toNat) ∧ w = w' := by
  unfold maxLen at hs
  go_enter Try.func34, Try.ntmps34
  go_wp2
  go_loop [0, 5, 8] (fun g j i => ∃ k : Nat, k ≤ s.size ∧ i = .int .i64 k ∧ g = .int .u64 (addB h (s.data.toList.take k)).toNat) (fun _ _ i => s.size - (intOf i).toNat)
  case atStart => exact ⟨0, Nat.zero_le _, rfl, rfl⟩
  case round =>
    obtain ⟨k, hk, rfl, rfl⟩ := hrel
    generalize hx : addB h (s.data.toList.take k) = x
    have Hx := Lib.hid hx
    clear hx
    have hh := x.isLt
    by_cases hlt : k < s.size
    · go_wp2
      go_round
      case rel =>
        refine ⟨k + 1, by omega, by go_num, ?_⟩
        rw [take_snoc s k hlt, addB_snoc, Hx.out]
        simp only [byte_val, xor_val, shl13_val, shr7_val, shl17_val, add_val]
        rfl
      case measure => simp [intOf]; omega
    · go_wp2
      go_ret
      rw [List.take_of_length_le (by simp; omega)] at Hx
      rw [Hx.out]
      exact ⟨rfl, rfl⟩
set_option maxHeartbeats 400000 in
theorem addR_any (h : BitVec 64) (s : ByteArray) (w : World) (hs : s.size ≤ maxLen) :
    Calls Try.prog 36 #[.int .u64 h.toNat, .string s] w fun e w' => e = .returned (.int .u64 (addB h s.data.toList).toNat) ∧ w = w' := by
  unfold maxLen at hs
  go_enter Try.func36, Try.ntmps36
  go_wp2
  go_loop [0, 5] (fun g i => ∃ k : Nat, k ≤ s.size ∧ i = .int .i64 k ∧ g = .int .u64 (addB h (s.data.toList.take k)).toNat) (fun _ i => s.size - (intOf i).toNat)
  case atStart => exact ⟨0, Nat.zero_le _, rfl, rfl⟩
  case round =>
    obtain ⟨k, hk, rfl, rfl⟩ := hrel
    generalize hx : addB h (s.data.toList.take k) = x
    have Hx := Lib.hid hx
    clear hx
    have hh := x.isLt
    by_cases hlt : k < s.size
    · go_wp2
      go_round
      case rel =>
        refine ⟨k + 1, by omega, by go_num, ?_⟩
        rw [take_snoc s k hlt, addB_snoc, Hx.out]
        simp only [byte_val, xor_val, shl13_val, div7_val, shl17_val, add_val]
        rfl
      case measure => simp [intOf]; omega
    · go_wp2
      go_ret
      rw [List.take_of_length_le (by simp; omega)] at Hx
      rw [Hx.out]
      exact ⟨rfl, rfl⟩

set_option maxHeartbeats 400000 in
theorem of_any (s : ByteArray) (w : World) (hs : s.size ≤ maxLen) :
    Calls Try.prog 24 #[.string s] w fun e w' => e = .returned (.int .u64 (ofB s.data.toList).toNat) ∧ w = w' := by
  have hl := len_val s hs
  have Hl := Lib.hid hl
  clear hl
  have hs' := hs
  unfold maxLen at hs'
  have Hs := Lib.hid hs
  clear hs
  go_enter Try.func24, Try.ntmps24
  go_wp2_with fail
  refine (start_any _ _ _ Hl.out).mono ?_
  rintro e w' ⟨rfl, rfl⟩
  go_wp2_with fail
  refine (add_any _ _ _ Hs.out).mono ?_
  rintro e w' ⟨rfl, rfl⟩
  go_wp2_with fail
  go_ret
  exact ⟨rfl, rfl⟩
set_option maxHeartbeats 400000 in
theorem ofR_any (s : ByteArray) (w : World) (hs : s.size ≤ maxLen) :
    Calls Try.prog 27 #[.string s] w fun e w' => e = .returned (.int .u64 (ofB s.data.toList).toNat) ∧ w = w' := by
  have hl := len_val s hs
  have Hl := Lib.hid hl
  clear hl
  have hs' := hs
  unfold maxLen at hs'
  have Hs := Lib.hid hs
  clear hs
  go_enter Try.func27, Try.ntmps27
  go_wp2_with fail
  refine (startR_any _ _ _ Hl.out).mono ?_
  rintro e w' ⟨rfl, rfl⟩
  go_wp2_with fail
  refine (addR_any _ _ _ Hs.out).mono ?_
  rintro e w' ⟨rfl, rfl⟩
  go_wp2_with fail
  go_ret
  exact ⟨rfl, rfl⟩
end Go.Proofs.Ytbloglfmhhgccaa.Mix
namespace Go.Proofs.Ytbloglfmhhgccaa.Mix
set_option linter.unusedVariables false
open Go.ChangeShapes Go.WideShapes Go.ChangeAt Go.RowKit

set_option maxHeartbeats 400000 in
theorem narrow_any (a k : Int) (h : Nat) (w : World) (ha : a = (h : Int)) (hh : h < 2 ^ 64) :
    Calls Try.prog 23 #[.int .u64 a, .int .i64 k] w fun e w' => e = .returned (.int .u64 (narrowN h k)) ∧ w = w' := by
  subst ha
  by_cases h1 : k < 1
  · go_enter Try.func23, Try.ntmps23
    go_wp2
    go_ret
    exact ⟨ret_u64 (by rw [narrow_le _ _ (by omega)]; rfl), rfl⟩
  · by_cases h2 : 63 < k
    · go_enter Try.func23, Try.ntmps23
      go_wp2
      go_ret
      refine ⟨ret_u64 ?_, rfl⟩
      rw [narrow_ge _ hh _ (by omega)]
    · obtain ⟨n, rfl⟩ := Int.eq_ofNat_of_zero_le (a := k) (by omega)
      go_enter Try.func23, Try.ntmps23
      go_wp2
      go_ret
      exact ⟨ret_u64 (narrow_mask _ _ hh (by omega) (by omega)), rfl⟩
set_option maxHeartbeats 400000 in
theorem narrowR_any (a k : Int) (h : Nat) (w : World) (ha : a = (h : Int)) (hh : h < 2 ^ 64) :
    Calls Try.prog 26 #[.int .u64 a, .int .i64 k] w fun e w' => e = .returned (.int .u64 (narrowN h k)) ∧ w = w' := by
  subst ha
  go_enter Try.func26, Try.ntmps26
  go_wp2
  go_loop [0, 5, 6, 7] (fun g o b i => ∃ j : Nat, j ≤ 64 ∧ (j : Int) ≤ max k 0 ∧ i = .int .i64 j ∧ g = .int .u64 ((divP h j : Nat) : Int) ∧ o = .int .u64 ((modP h j : Nat) : Int) ∧ b = .int .u64 ((powP j : Nat) : Int)) (fun _ _ _ i => 64 - (intOf i).toNat)
  case atStart => exact ⟨0, by omega, by omega, by rfl, by rw [divP_0], by rw [modP_0]; rfl, by rw [powP_0]; rfl⟩
  case round =>
    obtain ⟨j, hj, hjk, rfl, rfl, rfl, rfl⟩ := hrel
    by_cases hlt : (j : Int) < k
    · by_cases hl2 : j < 64
      · go_wp2
        go_round
        case rel =>
          refine ⟨j + 1, by omega, by omega, by go_num, ?_, ?_, ?_⟩
          · rw [divP_step _ _ hh]
          · rw [modP_step _ _ hh hl2]
          · rw [powP_step]
        case measure => simp [intOf]; omega
      · go_wp2
        go_ret
        exact ⟨ret_u64 (by rw [narrow_mod _ _ _ hj hjk (by omega)]), rfl⟩
    · go_wp2
      go_ret
      exact ⟨ret_u64 (by rw [narrow_mod _ _ _ hj hjk (by omega)]), rfl⟩
end Go.Proofs.Ytbloglfmhhgccaa.Mix
namespace Go.Proofs.Ytbloglfmhhgccaa.Mix
set_option linter.unusedVariables false
open Go.ChangeShapes Go.WideShapes Go.ChangeAt Go.RowKit

/- the letter at place j, behind k rounds -/
def cb (h k j : Nat) : UInt8 := if 12 - j < k then letter (dig h (12 - j)) else 0
def textL (h : Nat) : List UInt8 := [cb h 13 0, cb h 13 1, cb h 13 2, cb h 13 3, cb h 13 4, cb h 13 5, cb h 13 6, cb h 13 7, cb h 13 8, cb h 13 9, cb h 13 10, cb h 13 11, cb h 13 12]
theorem letters_data (n : Nat) (h : n < 32) (g : n < (ByteArray.mk #[97, 98, 99, 100, 101, 102, 103, 104, 105, 106, 107, 108, 109, 110, 111, 112, 113, 114, 115, 116, 117, 118, 119, 120, 121, 122, 50, 51, 52, 53, 54, 55]).size) : (ByteArray.mk #[97, 98, 99, 100, 101, 102, 103, 104, 105, 106, 107, 108, 109, 110, 111, 112, 113, 114, 115, 116, 117, 118, 119, 120, 121, 122, 50, 51, 52, 53, 54, 55])[n]'g = letter n := by
  unfold letter lettersL
  rw [List.getD_eq_getElem?_getD, List.getElem?_eq_getElem (by simpa using h)]
  rfl
theorem cellsBack (h : BitVec 64) (w : World) :
    (convert 64 9 (.slice (some ⟨w.heap.size, 0, none⟩) 13 13)).run Try.prog (w.alloc (.cells #[.int .u8 ((cb h.toNat 13 0).toNat : Int), .int .u8 ((cb h.toNat 13 1).toNat : Int), .int .u8 ((cb h.toNat 13 2).toNat : Int), .int .u8 ((cb h.toNat 13 3).toNat : Int), .int .u8 ((cb h.toNat 13 4).toNat : Int), .int .u8 ((cb h.toNat 13 5).toNat : Int), .int .u8 ((cb h.toNat 13 6).toNat : Int), .int .u8 ((cb h.toNat 13 7).toNat : Int), .int .u8 ((cb h.toNat 13 8).toNat : Int), .int .u8 ((cb h.toNat 13 9).toNat : Int), .int .u8 ((cb h.toNat 13 10).toNat : Int), .int .u8 ((cb h.toNat 13 11).toNat : Int), .int .u8 ((cb h.toNat 13 12).toNat : Int)] 63)) = .ok (.string ⟨(textL h.toNat).toArray⟩) (w.alloc (.cells #[.int .u8 ((cb h.toNat 13 0).toNat : Int), .int .u8 ((cb h.toNat 13 1).toNat : Int), .int .u8 ((cb h.toNat 13 2).toNat : Int), .int .u8 ((cb h.toNat 13 3).toNat : Int), .int .u8 ((cb h.toNat 13 4).toNat : Int), .int .u8 ((cb h.toNat 13 5).toNat : Int), .int .u8 ((cb h.toNat 13 6).toNat : Int), .int .u8 ((cb h.toNat 13 7).toNat : Int), .int .u8 ((cb h.toNat 13 8).toNat : Int), .int .u8 ((cb h.toNat 13 9).toNat : Int), .int .u8 ((cb h.toNat 13 10).toNat : Int), .int .u8 ((cb h.toNat 13 11).toNat : Int), .int .u8 ((cb h.toNat 13 12).toNat : Int)] 63)) := by
  refine run_convert_bytes_back (P := Try.prog) _ 64 9 5 ⟨w.heap.size, 0, none⟩ 13 (textL h.toNat) Try.underlying64 Try.underlying5 Try.underlying9 ?_
  intro j hj
  have hj' : j < 13 := hj
  obtain rfl | rfl | rfl | rfl | rfl | rfl | rfl | rfl | rfl | rfl | rfl | rfl | rfl : j = 0 ∨ j = 1 ∨ j = 2 ∨ j = 3 ∨ j = 4 ∨ j = 5 ∨ j = 6 ∨ j = 7 ∨ j = 8 ∨ j = 9 ∨ j = 10 ∨ j = 11 ∨ j = 12 := by omega
  all_goals simp [Addr.add, textL, go_sem]
set_option maxHeartbeats 1000000 in
theorem text_any (h : BitVec 64) (w : World) :
    Calls Try.prog 22 #[.int .u64 h.toNat] w fun e w' => e = .returned (.string ⟨(textL h.toNat).toArray⟩) ∧ Grown w w' := by
  have hh := h.isLt
  go_enter Try.func22, Try.ntmps22
  go_wp2
  go_loopw [4, 5] (fun j i wr => ∃ k : Nat, k ≤ 13 ∧ i = .int .i64 k ∧ wr = w.alloc (.cells #[.int .u8 ((cb h.toNat k 0).toNat : Int), .int .u8 ((cb h.toNat k 1).toNat : Int), .int .u8 ((cb h.toNat k 2).toNat : Int), .int .u8 ((cb h.toNat k 3).toNat : Int), .int .u8 ((cb h.toNat k 4).toNat : Int), .int .u8 ((cb h.toNat k 5).toNat : Int), .int .u8 ((cb h.toNat k 6).toNat : Int), .int .u8 ((cb h.toNat k 7).toNat : Int), .int .u8 ((cb h.toNat k 8).toNat : Int), .int .u8 ((cb h.toNat k 9).toNat : Int), .int .u8 ((cb h.toNat k 10).toNat : Int), .int .u8 ((cb h.toNat k 11).toNat : Int), .int .u8 ((cb h.toNat k 12).toNat : Int)] 63)) (fun _ i _ => 13 - (intOf i).toNat)
  case atStart => exact ⟨0, by omega, rfl, rfl⟩
  case round =>
    obtain ⟨k, hk, rfl, rfl⟩ := hrel
    by_cases hk13 : k = 13
    · subst hk13
      have hb := cellsBack h w
      go_wp2
      go_ret
      exact ⟨rfl, (Grown.refl _).alloc _ _⟩
    obtain rfl | rfl | rfl | rfl | rfl | rfl | rfl | rfl | rfl | rfl | rfl | rfl | rfl : k = 0 ∨ k = 1 ∨ k = 2 ∨ k = 3 ∨ k = 4 ∨ k = 5 ∨ k = 6 ∨ k = 7 ∨ k = 8 ∨ k = 9 ∨ k = 10 ∨ k = 11 ∨ k = 12 := by omega
    · have hd : bits .and .u64 (↑h.toNat : Int) 31 = ↑(dig h.toNat 0) := by have := dig_mask h.toNat 0 hh; simpa using this
      have hd' := dig_lt h.toNat 0
      go_wp2
      go_roundw
      case rel =>
        refine ⟨1, by omega, rfl, ?_⟩
        rw [letters_data _ hd']
        rfl
      case measure => simp [intOf]
    · have hd : bits .and .u64 (↑h.toNat / 32) 31 = ↑(dig h.toNat 1) := dig_mask h.toNat 1 hh
      have hd' := dig_lt h.toNat 1
      go_wp2
      go_roundw
      case rel =>
        refine ⟨2, by omega, rfl, ?_⟩
        rw [letters_data _ hd']
        rfl
      case measure => simp [intOf]
    · have hd : bits .and .u64 (↑h.toNat / 1024) 31 = ↑(dig h.toNat 2) := dig_mask h.toNat 2 hh
      have hd' := dig_lt h.toNat 2
      go_wp2
      go_roundw
      case rel =>
        refine ⟨3, by omega, rfl, ?_⟩
        rw [letters_data _ hd']
        rfl
      case measure => simp [intOf]
    · have hd : bits .and .u64 (↑h.toNat / 32768) 31 = ↑(dig h.toNat 3) := dig_mask h.toNat 3 hh
      have hd' := dig_lt h.toNat 3
      go_wp2
      go_roundw
      case rel =>
        refine ⟨4, by omega, rfl, ?_⟩
        rw [letters_data _ hd']
        rfl
      case measure => simp [intOf]
    · have hd : bits .and .u64 (↑h.toNat / 1048576) 31 = ↑(dig h.toNat 4) := dig_mask h.toNat 4 hh
      have hd' := dig_lt h.toNat 4
      go_wp2
      go_roundw
      case rel =>
        refine ⟨5, by omega, rfl, ?_⟩
        rw [letters_data _ hd']
        rfl
      case measure => simp [intOf]
    · have hd : bits .and .u64 (↑h.toNat / 33554432) 31 = ↑(dig h.toNat 5) := dig_mask h.toNat 5 hh
      have hd' := dig_lt h.toNat 5
      go_wp2
      go_roundw
      case rel =>
        refine ⟨6, by omega, rfl, ?_⟩
        rw [letters_data _ hd']
        rfl
      case measure => simp [intOf]
    · have hd : bits .and .u64 (↑h.toNat / 1073741824) 31 = ↑(dig h.toNat 6) := dig_mask h.toNat 6 hh
      have hd' := dig_lt h.toNat 6
      go_wp2
      go_roundw
      case rel =>
        refine ⟨7, by omega, rfl, ?_⟩
        rw [letters_data _ hd']
        rfl
      case measure => simp [intOf]
    · have hd : bits .and .u64 (↑h.toNat / 34359738368) 31 = ↑(dig h.toNat 7) := dig_mask h.toNat 7 hh
      have hd' := dig_lt h.toNat 7
      go_wp2
      go_roundw
      case rel =>
        refine ⟨8, by omega, rfl, ?_⟩
        rw [letters_data _ hd']
        rfl
      case measure => simp [intOf]
    · have hd : bits .and .u64 (↑h.toNat / 1099511627776) 31 = ↑(dig h.toNat 8) := dig_mask h.toNat 8 hh
      have hd' := dig_lt h.toNat 8
      go_wp2
      go_roundw
      case rel =>
        refine ⟨9, by omega, rfl, ?_⟩
        rw [letters_data _ hd']
        rfl
      case measure => simp [intOf]
    · have hd : bits .and .u64 (↑h.toNat / 35184372088832) 31 = ↑(dig h.toNat 9) := dig_mask h.toNat 9 hh
      have hd' := dig_lt h.toNat 9
      go_wp2
      go_roundw
      case rel =>
        refine ⟨10, by omega, rfl, ?_⟩
        rw [letters_data _ hd']
        rfl
      case measure => simp [intOf]
    · have hd : bits .and .u64 (↑h.toNat / 1125899906842624) 31 = ↑(dig h.toNat 10) := dig_mask h.toNat 10 hh
      have hd' := dig_lt h.toNat 10
      go_wp2
      go_roundw
      case rel =>
        refine ⟨11, by omega, rfl, ?_⟩
        rw [letters_data _ hd']
        rfl
      case measure => simp [intOf]
    · have hd : bits .and .u64 (↑h.toNat / 36028797018963968) 31 = ↑(dig h.toNat 11) := dig_mask h.toNat 11 hh
      have hd' := dig_lt h.toNat 11
      go_wp2
      go_roundw
      case rel =>
        refine ⟨12, by omega, rfl, ?_⟩
        rw [letters_data _ hd']
        rfl
      case measure => simp [intOf]
    · have hd : bits .and .u64 (↑h.toNat / 1152921504606846976) 31 = ↑(dig h.toNat 12) := dig_mask h.toNat 12 hh
      have hd' := dig_lt h.toNat 12
      go_wp2
      go_roundw
      case rel =>
        refine ⟨13, by omega, rfl, ?_⟩
        rw [letters_data _ hd']
        rfl
      case measure => simp [intOf]
end Go.Proofs.Ytbloglfmhhgccaa.Mix
namespace Go.Proofs.Ytbloglfmhhgccaa.Mix
set_option linter.unusedVariables false
open Go.ChangeShapes Go.WideShapes Go.ChangeAt Go.RowKit
def shf (h k : Nat) : Nat := h / 2 ^ (5 * k)
def lowL (h k : Nat) : List UInt8 := (textL h).drop (13 - k)
theorem shf_dig (h k : Nat) : ((shf h k : Nat) : Int) % 32 = ((dig h k : Nat) : Int) := by unfold shf dig; omega
theorem shf_next (h k : Nat) : ((shf h k : Nat) : Int) / 32 = ((shf h (k + 1) : Nat) : Int) := by
  have e : shf h (k + 1) = shf h k / 32 := by unfold shf; rw [Nat.mul_succ, Nat.pow_add, Nat.div_div_eq_div_mul]
  rw [e]; omega
theorem shf_le (h k : Nat) : shf h k ≤ h := Nat.div_le_self _ _
theorem oneBack (n : Int) (c : UInt8) (wr : World) (hn : n = (c.toNat : Int)) :
    (convert 64 9 (.slice (some ⟨wr.heap.size, 0, none⟩) 1 1)).run Try.prog (wr.alloc (.cells #[.int .u8 n] 5)) = .ok (.string ⟨#[c]⟩) (wr.alloc (.cells #[.int .u8 n] 5)) := by
  refine run_convert_bytes_back (P := Try.prog) _ 64 9 5 ⟨wr.heap.size, 0, none⟩ 1 [c] Try.underlying64 Try.underlying5 Try.underlying9 ?_
  intro j hj
  have hj' : j < 1 := hj
  obtain rfl : j = 0 := by omega
  simp [Addr.add, go_sem, hn]
theorem letter_low (n : Nat) (h : n ≤ 25) : (n : Int) + 97 = ((letter n).toNat : Int) := by
  have : ∀ n, n ≤ 25 → n + 97 = (letter n).toNat := by decide
  have := this n h
  omega
theorem letter_high (n : Nat) (h : 25 < n) (h2 : n < 32) : (n : Int) - 26 + 50 = ((letter n).toNat : Int) := by
  have : ∀ n, n < 32 → 25 < n → n + 24 = (letter n).toNat := by decide
  have := this n h2 h
  omega
theorem low_size (h k : Nat) : (lowL h k).length ≤ 13 := by unfold lowL textL; simp
theorem low_next (h k : Nat) (hk : k < 13) : letter (dig h k) :: lowL h k = lowL h (k + 1) := by
  obtain rfl | rfl | rfl | rfl | rfl | rfl | rfl | rfl | rfl | rfl | rfl | rfl | rfl : k = 0 ∨ k = 1 ∨ k = 2 ∨ k = 3 ∨ k = 4 ∨ k = 5 ∨ k = 6 ∨ k = 7 ∨ k = 8 ∨ k = 9 ∨ k = 10 ∨ k = 11 ∨ k = 12 := by omega
  all_goals rfl
theorem str_cons (c : UInt8) (l : List UInt8) : (ByteArray.mk #[c] ++ ByteArray.mk l.toArray) = ByteArray.mk (c :: l).toArray := by
  apply ByteArray.ext
  simp [ByteArray.data_append]
set_option maxHeartbeats 1000000 in
set_option maxRecDepth 20000 in
theorem textR_any (h : BitVec 64) (w : World) :
    Calls Try.prog 25 #[.int .u64 h.toNat] w fun e w' => e = .returned (.string ⟨(textL h.toNat).toArray⟩) ∧ Grown w w' := by
  have hh := h.isLt
  go_enter Try.func25, Try.ntmps25
  go_wp2
  go_loopw [0, 3, 4, 5, 6] (fun g o i n c wr => ∃ k : Nat, k ≤ 13 ∧ i = .int .i64 k ∧ g = .int .u64 ((shf h.toNat k : Nat) : Int) ∧ o = .string ⟨(lowL h.toNat k).toArray⟩ ∧ Grown w wr) (fun _ _ i _ _ _ => 13 - (intOf i).toNat)
  case atStart => exact ⟨0, by omega, by rfl, by simp [shf], by rfl, Grown.refl _⟩
  case round =>
    obtain ⟨k, hk, rfl, rfl, rfl, hg⟩ := hrel
    have hs := shf_le h.toNat k
    by_cases hlt : k < 13
    · have hd := shf_dig h.toNat k
      have hd' := dig_lt h.toNat k
      have hn := shf_next h.toNat k
      by_cases h25 : 25 < dig h.toNat k
      · have hcv := oneBack _ _ wr (letter_high _ h25 hd')
        have hlw := low_size h.toNat k
        go_wp2
        go_roundw
        case rel => exact ⟨k + 1, by omega, by go_num, rfl, by rw [str_cons, low_next _ _ hlt], hg.alloc _ _⟩
        case measure => simp [intOf]; omega
      · have hcv := oneBack _ _ wr (letter_low (dig h.toNat k) (by omega))
        have hlw := low_size h.toNat k
        go_wp2
        go_roundw
        case rel => exact ⟨k + 1, by omega, by go_num, rfl, by rw [str_cons, low_next _ _ hlt], hg.alloc _ _⟩
        case measure => simp [intOf]; omega
    · obtain rfl : k = 13 := by omega
      go_wp2
      go_ret
      exact ⟨by rfl, hg⟩
end Go.Proofs.Ytbloglfmhhgccaa.Mix
namespace Go.Proofs.Ytbloglfmhhgccaa.Mix
set_option linter.unusedVariables false

def digitN (c : UInt8) : Nat := if 97 ≤ c.toNat ∧ c.toNat ≤ 122 then c.toNat - 97 else if 50 ≤ c.toNat ∧ c.toNat ≤ 55 then c.toNat - 24 else 32
def valN (l : List UInt8) : Nat := l.foldl (fun h c => h * 32 + digitN c) 0
def goodL (l : List UInt8) : Prop := l.length = 13 ∧ (∀ c ∈ l, digitN c < 32) ∧ digitN (l.headD 0) < 16
open Classical in
noncomputable def parseV (l : List UInt8) : Nat := if goodL l then valN l else 0
open Classical in
noncomputable def parseB (l : List UInt8) : Bool := decide (goodL l)

theorem all_u8 (P : UInt8 → Prop) [DecidablePred P] (h : ∀ n : Fin 256, P (UInt8.ofNat n.val)) (c : UInt8) : P c := by
  have := h ⟨c.toNat, c.toNat_lt⟩
  simpa using this
theorem letter_digit (c : UInt8) (h : digitN c < 32) : letter (digitN c) = c := by
  have := all_u8 (fun c => digitN c < 32 → letter (digitN c) = c) (by decide +kernel) c
  exact this h
theorem digit_letter (n : Nat) (h : n < 32) : digitN (letter n) = n := by
  revert h; revert n; decide +kernel
theorem index_digit (c : UInt8) : Lib.indexByte lettersL c = if digitN c < 32 then (digitN c : Int) else -1 :=
  all_u8 (fun c => Lib.indexByte lettersL c = if digitN c < 32 then (digitN c : Int) else -1) (by decide +kernel) c
theorem valN_snoc (l : List UInt8) (c : UInt8) : valN (l ++ [c]) = valN l * 32 + digitN c := by simp [valN]
theorem dig_0 (h n : Nat) (hn : n < 32) : dig (h * 32 + n) 0 = n := by unfold dig; simp; omega
theorem dig_small (n : Nat) (hn : n < 32) : dig n 0 = n := by unfold dig; simp; omega
theorem dig_succ (h n i : Nat) (hn : n < 32) : dig (h * 32 + n) (i + 1) = dig h i := by
  unfold dig
  rw [show 5 * (i + 1) = 5 + 5 * i by omega, Nat.pow_add, ← Nat.div_div_eq_div_mul]
  have : (h * 32 + n) / 2 ^ 5 = h := by omega
  rw [this]
theorem or_val (v n : Nat) (hn : n < 32) : bits .or .u64 (IntKind.u64.wrap (((v % 18446744073709551616 : Nat) : Int) * (32 : Int))) (n : Int) = (((v * 32 + n) % 18446744073709551616 : Nat) : Int) := by
  have e : IntKind.u64.wrap (((v % 18446744073709551616 : Nat) : Int) * (32 : Int)) = (((v % 576460752303423488) * 32 : Nat) : Int) := by
    rw [IntKind.wrap_u64]; omega
  rw [e, u64_or_nat _ _ (by omega) (by omega)]
  have o := Nat.shiftLeft_add_eq_or_of_lt (b := n) (i := 5) hn (v % 576460752303423488)
  rw [Nat.shiftLeft_eq] at o
  rw [show (32 : Nat) = 2 ^ 5 from rfl, ← o]
  congr 1
  omega
theorem len13 (l : List UInt8) (h : l.length = 13) : ∃ a b c d e f g i j k m n o, l = [a, b, c, d, e, f, g, i, j, k, m, n, o] := by
  match l, h with
  | [a, b, c, d, e, f, g, i, j, k, m, n, o], _ => exact ⟨a, b, c, d, e, f, g, i, j, k, m, n, o, rfl⟩
theorem text_val (l : List UInt8) (hl : l.length = 13) (hg : ∀ c ∈ l, digitN c < 32) : textL (valN l) = l := by
  obtain ⟨a, b, c, d, e, f, g, i, j, k, m, n, o, rfl⟩ := len13 l hl
  simp only [List.mem_cons, List.not_mem_nil, or_false, forall_eq_or_imp, forall_eq] at hg
  obtain ⟨ha, hb, hc, hd, he, hf, hg, hi, hj, hk, hm, hn, ho⟩ := hg
  simp only [textL, cb, valN, List.foldl_cons, List.foldl_nil]
  simp [dig_small, dig_0, dig_succ, ha, hb, hc, hd, he, hf, hg, hi, hj, hk, hm, hn, ho, letter_digit]
theorem textL_head (h : Nat) : (textL h).headD 0 = letter (dig h 12) := rfl
theorem dig12 (h : Nat) (hh : h < 2 ^ 64) : dig h 12 < 16 := by unfold dig; omega
theorem text_good (h : Nat) : ∀ c ∈ textL h, digitN c < 32 := by
  intro c hc
  have : ∀ j, digitN (cb h 13 j) < 32 := by
    intro j; unfold cb
    split
    · rw [digit_letter _ (dig_lt _ _)]; exact dig_lt _ _
    · omega
  simp only [textL, List.mem_cons, List.not_mem_nil, or_false] at hc
  rcases hc with h | h | h | h | h | h | h | h | h | h | h | h | h <;> rw [h] <;> exact this _
theorem text_len (h : Nat) : (textL h).length = 13 := rfl
theorem text_isgood (h : Nat) (hh : h < 2 ^ 64) : goodL (textL h) :=
  ⟨rfl, text_good h, by rw [textL_head, digit_letter _ (dig_lt _ _)]; exact dig12 h hh⟩
theorem val_bound (l : List UInt8) (hg : ∀ c ∈ l, digitN c < 32) (x : Nat) : l.foldl (fun h c => h * 32 + digitN c) x < (x + 1) * 32 ^ l.length := by
  induction l generalizing x with
  | nil => simp
  | cons c l ih =>
    have := ih (fun d hd => hg d (by simp [hd])) (x * 32 + digitN c)
    have h1 := hg c (by simp)
    rw [List.foldl_cons, List.length_cons, Nat.pow_succ]
    refine Nat.lt_of_lt_of_le this ?_
    rw [Nat.mul_comm (32 ^ l.length) 32, ← Nat.mul_assoc]
    exact Nat.mul_le_mul_right _ (by omega)
theorem good_bound (l : List UInt8) (h : goodL l) : valN l < 2 ^ 64 := by
  obtain ⟨hl, hg, h0⟩ := h
  match l, hl with
  | c :: r, hl =>
    have b := val_bound r (fun d hd => hg d (by simp [hd])) (digitN c)
    have e : valN (c :: r) = r.foldl (fun h c => h * 32 + digitN c) (digitN c) := by simp [valN]
    have l12 : r.length = 12 := by simpa using hl
    simp at h0
    rw [e]
    refine Nat.lt_of_lt_of_le b ?_
    rw [l12]
    omega
theorem take_bound (c : UInt8) (r : List UInt8) (hl : (c :: r).length ≤ 13) (hg : ∀ d ∈ (c :: r), digitN d < 32) (h0 : digitN c < 16) : valN (c :: r) < 2 ^ 64 := by
  have b := val_bound r (fun d hd => hg d (by simp [hd])) (digitN c)
  have e : valN (c :: r) = r.foldl (fun h c => h * 32 + digitN c) (digitN c) := by simp [valN]
  have l12 : r.length ≤ 12 := by simpa using hl
  rw [e]
  refine Nat.lt_of_lt_of_le b ?_
  have := Nat.pow_le_pow_right (n := 32) (by omega) l12
  refine Nat.le_trans (Nat.mul_le_mul (show digitN c + 1 ≤ 16 by omega) this) (by decide)
theorem text_eq_iff (l : List UInt8) (hl : l.length = 13) (hg : ∀ c ∈ l, digitN c < 32) : textL (valN l % 18446744073709551616) = l ↔ goodL l := by
  constructor
  · intro h
    have := text_isgood (valN l % 18446744073709551616) (by omega)
    rw [h] at this; exact this
  · intro h
    rw [Nat.mod_eq_of_lt (good_bound l h)]
    exact text_val l hl hg
theorem parse_text (h : Nat) (hh : h < 2 ^ 64) : valN (textL h) = h := by
  have e : ∀ k, k ≤ 13 → ((textL h).take k).foldl (fun h c => h * 32 + digitN c) 0 = h / 2 ^ (5 * (13 - k)) := by
    have d := digit_letter
    intro k hk
    induction k with
    | zero => simp; omega
    | succ k ih =>
      have ih := ih (by omega)
      have t : (textL h).take (k + 1) = (textL h).take k ++ [cb h 13 k] := by
        obtain rfl | rfl | rfl | rfl | rfl | rfl | rfl | rfl | rfl | rfl | rfl | rfl | rfl : k = 0 ∨ k = 1 ∨ k = 2 ∨ k = 3 ∨ k = 4 ∨ k = 5 ∨ k = 6 ∨ k = 7 ∨ k = 8 ∨ k = 9 ∨ k = 10 ∨ k = 11 ∨ k = 12 := by omega
        all_goals rfl
      have c : cb h 13 k = letter (dig h (12 - k)) := by unfold cb; rw [if_pos (by omega)]
      rw [t, List.foldl_append, ih, List.foldl_cons, List.foldl_nil, c, d _ (dig_lt _ _)]
      unfold dig
      have e1 : 5 * (13 - k) = 5 * (12 - k) + 5 := by omega
      have e2 : 5 * (13 - (k + 1)) = 5 * (12 - k) := by omega
      rw [e1, e2, Nat.pow_add, ← Nat.div_div_eq_div_mul]
      omega
  have := e 13 (by omega)
  rw [List.take_of_length_le (by rw [text_len]; omega)] at this
  simpa [valN] using this
end Go.Proofs.Ytbloglfmhhgccaa.Mix
namespace Go.Proofs.Ytbloglfmhhgccaa.Mix
set_option linter.unusedVariables false
open Go.ChangeShapes Go.WideShapes Go.ChangeAt Go.RowKit

theorem ret_i64 {a b : Int} (h : a = b) : Ending.returned (.int .i64 a) = .returned (.int .i64 b) := by rw [h]
theorem text_nat (n : Int) (k : Nat) (w : World) (hn : n = (k : Int)) (hk : k < 18446744073709551616) :
    Calls Try.prog 22 #[.int .u64 n] w fun e w' => e = .returned (.string ⟨(textL k).toArray⟩) ∧ Grown w w' := by
  subst hn
  have h := text_any (BitVec.ofNat 64 k) w
  rw [BitVec.toNat_ofNat, Nat.mod_eq_of_lt (by omega)] at h
  exact h
theorem parse_bad (l : List UInt8) (h : ¬ goodL l) : parseV l = 0 ∧ parseB l = false := by
  unfold parseV parseB; rw [if_neg h]; exact ⟨rfl, by simpa using h⟩
theorem parse_good (l : List UInt8) (h : goodL l) : parseV l = valN l ∧ parseB l = true := by
  unfold parseV parseB; rw [if_pos h]; exact ⟨rfl, by simpa using h⟩
theorem ret_parse {a b : Int} {c d : Bool} (h : a = b) (g : c = d) : Ending.returned (.tuple #[.int .u64 a, .bool c]) = .returned (.tuple #[.int .u64 b, .bool d]) := by rw [h, g]
def DoneP (l : List UInt8) (w : World) (e : Ending) (w' : World) : Prop := e = .returned (.tuple #[.int .u64 (parseV l), .bool (parseB l)]) ∧ Grown w w'
theorem getElem_mem (s : ByteArray) (k : Nat) (h : k < s.size) : s[k] ∈ s.data.toList := by
  have : s[k] = s.data.toList[k]'(by rw [data_len]; exact h) := rfl
  rw [this]; exact List.getElem_mem _
theorem good_snoc (s : ByteArray) (k : Nat) (h : k < s.size) (hg : ∀ c ∈ s.data.toList.take k, digitN c < 32) (hd : digitN s[k] < 32) : ∀ c ∈ s.data.toList.take (k + 1), digitN c < 32 := by
  intro c hc
  rw [take_snoc s k h, List.mem_append] at hc
  rcases hc with hc | hc
  · exact hg c hc
  · rw [List.mem_singleton.1 hc]; exact hd
def valM (l : List UInt8) : Nat := valN l % 18446744073709551616
theorem valM_lt (l : List UInt8) : valM l < 18446744073709551616 := Nat.mod_lt _ (by omega)
theorem head_at (s : ByteArray) (h : 0 < s.size) : s.data.toList.headD 0 = s[0] := by
  have h' : 0 < s.data.toList.length := by rw [data_len]; exact h
  have : s[0] = s.data.toList[0]'h' := rfl
  rw [this]
  match s.data.toList, h' with
  | c :: r, _ => rfl
theorem take_head (s : ByteArray) (k : Nat) (h : 0 < s.size) : (s.data.toList.take (k + 1)).headD 0 = s[0] := by
  rw [← head_at s h]
  cases s.data.toList <;> rfl
def OkL (l : List UInt8) : Prop := (∀ c ∈ l, digitN c < 32) ∧ (l ≠ [] → digitN (l.headD 0) < 16)
theorem okL_bound (l : List UInt8) (hl : l.length ≤ 13) (h : OkL l) : valN l < 18446744073709551616 := by
  match l with
  | [] => simp [valN]
  | c :: r => exact take_bound c r hl h.1 (by simpa using h.2 (by simp))
theorem mul_val (v n : Nat) (h : v * 32 + n < 18446744073709551616) : IntKind.u64.wrap (IntKind.u64.wrap ((v : Int) * (32 : Int)) + (n : Int)) = ((v * 32 + n : Nat) : Int) := by
  rw [IntKind.wrap_u64, IntKind.wrap_u64]; omega
theorem okL_snoc (s : ByteArray) (k : Nat) (h : k < s.size) (hg : OkL (s.data.toList.take k)) (hd : digitN s[k] < 32) (h0 : k = 0 → digitN s[k] < 16) : OkL (s.data.toList.take (k + 1)) := by
  refine ⟨good_snoc s k h hg.1 hd, fun _ => ?_⟩
  rw [take_head s k (by omega)]
  by_cases hk : k = 0
  · subst hk; exact h0 rfl
  · have := hg.2 (List.ne_nil_of_length_pos (by rw [List.length_take, data_len]; omega))
    obtain ⟨m, rfl⟩ : ∃ m, k = m + 1 := ⟨k - 1, by omega⟩
    rwa [take_head s m (by omega)] at this
theorem okL_good (s : ByteArray) (h13 : s.size = 13) (hg : OkL (s.data.toList.take 13)) : goodL s.data.toList := by
  have ht : s.data.toList.take 13 = s.data.toList := List.take_of_length_le (by rw [data_len]; omega)
  rw [ht] at hg
  exact ⟨by rw [data_len, h13], hg.1, hg.2 (List.ne_nil_of_length_pos (by rw [data_len]; omega))⟩
theorem bad_byte (s : ByteArray) (k : Nat) (h : k < s.size) (hd : ¬ digitN s[k] < 32) : ¬ goodL s.data.toList := fun g => hd (g.2.1 _ (getElem_mem s k h))
theorem bad_first (s : ByteArray) (h : 0 < s.size) (hd : ¬ digitN s[0] < 16) : ¬ goodL s.data.toList := fun g => hd (by rw [← head_at s h]; exact g.2.2)
theorem bad_size (s : ByteArray) (h : s.size ≠ 13) : ¬ goodL s.data.toList := fun g => h (by rw [← data_len]; exact g.1)
theorem val_step (s : ByteArray) (k : Nat) (h : k < s.size) (hk : k < 13) (hg : OkL (s.data.toList.take (k + 1))) : IntKind.u64.wrap (IntKind.u64.wrap (((valN (s.data.toList.take k) : Nat) : Int) * (32 : Int)) + ((digitN s[k] : Nat) : Int)) = ((valN (s.data.toList.take (k + 1)) : Nat) : Int) := by
  have b := okL_bound _ (by rw [List.length_take]; omega) hg
  rw [take_snoc s k h, valN_snoc] at b ⊢
  exact mul_val _ _ b
end Go.Proofs.Ytbloglfmhhgccaa.Mix
