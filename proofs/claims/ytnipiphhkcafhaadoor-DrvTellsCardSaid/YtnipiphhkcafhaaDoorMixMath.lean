/- Plain facts on 64-bit numbers: one byte's step is one to one. No conditions. -/
import Derived.WalkKit
namespace Go.Proofs.YtnipiphhkcafhaaDoor.Mix
set_option linter.unusedVariables false

theorem xor_val (a b : BitVec 64) : bits .xor .u64 (a.toNat : Int) (b.toNat : Int) = ((a ^^^ b).toNat : Int) := by
  rw [bits_xor_u64_nat _ _ a.isLt b.isLt, BitVec.toNat_xor]
theorem byte_val (c : UInt8) : IntKind.u64.wrap (c.toNat : Int) = ((BitVec.ofNat 64 c.toNat).toNat : Int) := by
  have := c.toNat_lt
  rw [IntKind.wrap_u64, BitVec.toNat_ofNat]; omega
theorem shl13_val (a : BitVec 64) : IntKind.u64.wrap ((a.toNat : Int) * (8192 : Int)) = ((a <<< 13).toNat : Int) := by
  rw [IntKind.wrap_u64, BitVec.toNat_shiftLeft, Nat.shiftLeft_eq]; omega
theorem shl17_val (a : BitVec 64) : IntKind.u64.wrap ((a.toNat : Int) * (131072 : Int)) = ((a <<< 17).toNat : Int) := by
  rw [IntKind.wrap_u64, BitVec.toNat_shiftLeft, Nat.shiftLeft_eq]; omega
theorem shr7_val (a : BitVec 64) : (a.toNat : Int) / (128 : Int) = ((a >>> 7).toNat : Int) := by
  rw [BitVec.toNat_ushiftRight, Nat.shiftRight_eq_div_pow]; omega
theorem div7_val (a : BitVec 64) : IntKind.u64.wrap ((a.toNat : Int).tdiv (128 : Int)) = ((a >>> 7).toNat : Int) := by
  have := a.isLt
  rw [Int.tdiv_eq_ediv_of_nonneg (by omega), IntKind.wrap_u64, BitVec.toNat_ushiftRight, Nat.shiftRight_eq_div_pow]; omega
theorem add_val (a : BitVec 64) : IntKind.u64.wrap ((a.toNat : Int) + (15111065706836454659 : Int)) = ((a + 15111065706836454659#64).toNat : Int) := by
  rw [IntKind.wrap_u64, BitVec.toNat_add]; simp only [BitVec.toNat_ofNat]; omega
theorem first_val (h : BitVec 64) : bits .xor .u64 (h.toNat : Int) 11400714819323198485 = ((h ^^^ 11400714819323198485#64).toNat : Int) :=
  xor_val h 11400714819323198485#64

def stepB (x : BitVec 64) (c : UInt8) : BitVec 64 :=
  let a := x ^^^ BitVec.ofNat 64 c.toNat
  let b := a ^^^ (a <<< 13)
  let d := b ^^^ (b >>> 7)
  let f := d ^^^ (d <<< 17)
  f + 15111065706836454659#64
def addB (x : BitVec 64) (l : List UInt8) : BitVec 64 := l.foldl stepB x
def startB (x : BitVec 64) : BitVec 64 := x ^^^ 11400714819323198485#64
def ofB (l : List UInt8) : BitVec 64 := addB (startB (BitVec.ofNat 64 l.length)) l

theorem addB_append (x : BitVec 64) (a b : List UInt8) : addB x (a ++ b) = addB (addB x a) b := by simp [addB]
theorem addB_cons (x : BitVec 64) (a : List UInt8) (c : UInt8) : addB x (c :: a) = addB (stepB x c) a := by simp [addB]
theorem addB_snoc (x : BitVec 64) (a : List UInt8) (c : UInt8) : addB x (a ++ [c]) = stepB (addB x a) c := by simp [addB]

theorem xorshl_inj (n : Nat) (hn : 1 ≤ n) (x y : BitVec 64) (h : x ^^^ (x <<< n) = y ^^^ (y <<< n)) : x = y := by
  apply BitVec.eq_of_getLsbD_eq
  have key : ∀ i, i < 64 → x.getLsbD i = y.getLsbD i := by
    intro i
    induction i using Nat.strongRecOn with
    | _ i ih =>
      intro hi
      have hb := congrArg (fun v : BitVec 64 => v.getLsbD i) h
      simp only [BitVec.getLsbD_xor, BitVec.getLsbD_shiftLeft, hi, decide_true, Bool.true_and] at hb
      by_cases hlt : i < n
      · simpa [hlt] using hb
      · have e := ih (i - n) (by omega) (by omega)
        simp only [hlt, decide_false, Bool.not_false, Bool.true_and, e] at hb
        cases hx : x.getLsbD i <;> cases hy : y.getLsbD i <;> cases hz : y.getLsbD (i - n) <;> simp_all
  exact fun i hi => key i hi

theorem xorshr_inj (n : Nat) (hn : 1 ≤ n) (x y : BitVec 64) (h : x ^^^ (x >>> n) = y ^^^ (y >>> n)) : x = y := by
  apply BitVec.eq_of_getLsbD_eq
  have key : ∀ j, ∀ i, 64 - i = j → x.getLsbD i = y.getLsbD i := by
    intro j
    induction j using Nat.strongRecOn with
    | _ j ih =>
      intro i hj
      by_cases hi : i < 64
      · have hb := congrArg (fun v : BitVec 64 => v.getLsbD i) h
        simp only [BitVec.getLsbD_xor, BitVec.getLsbD_ushiftRight] at hb
        have e := ih (64 - (n + i)) (by omega) (n + i) rfl
        rw [e] at hb
        cases hx : x.getLsbD i <;> cases hy : y.getLsbD i <;> cases hz : y.getLsbD (n + i) <;> simp_all
      · rw [BitVec.getLsbD_of_ge _ _ (by omega), BitVec.getLsbD_of_ge _ _ (by omega)]
  exact fun i _ => key (64 - i) i rfl

theorem add_right_inj' (x y c : BitVec 64) (h : x + c = y + c) : x = y := by
  have := congrArg (fun v => v - c) h
  simpa [BitVec.add_sub_cancel] using this
theorem xor_right_inj' (x y c : BitVec 64) (h : x ^^^ c = y ^^^ c) : x = y := by
  have := congrArg (fun v => v ^^^ c) h
  simpa [BitVec.xor_assoc] using this
theorem xor_left_inj' (x y c : BitVec 64) (h : c ^^^ x = c ^^^ y) : x = y := by
  rw [BitVec.xor_comm c x, BitVec.xor_comm c y] at h; exact xor_right_inj' _ _ _ h
theorem step_tail (x y : BitVec 64) (c d : UInt8) (h : stepB x c = stepB y d) : x ^^^ BitVec.ofNat 64 c.toNat = y ^^^ BitVec.ofNat 64 d.toNat := by
  unfold stepB at h
  exact xorshl_inj 13 (by decide) _ _ (xorshr_inj 7 (by decide) _ _ (xorshl_inj 17 (by decide) _ _ (add_right_inj' _ _ _ h)))
theorem step_inj (x y : BitVec 64) (c : UInt8) (h : stepB x c = stepB y c) : x = y := xor_right_inj' _ _ _ (step_tail _ _ _ _ h)
theorem step_byte (x : BitVec 64) (c d : UInt8) (h : stepB x c = stepB x d) : c = d := by
  have e := xor_left_inj' _ _ _ (step_tail _ _ _ _ h)
  have := congrArg BitVec.toNat e
  simp only [BitVec.toNat_ofNat] at this
  have h1 := c.toNat_lt
  have h2 := d.toNat_lt
  exact UInt8.toNat_inj.1 (by omega)
theorem addB_inj (x y : BitVec 64) (l : List UInt8) (h : addB x l = addB y l) : x = y := by
  induction l generalizing x y with
  | nil => exact h
  | cons c l ih => rw [addB_cons, addB_cons] at h; exact step_inj _ _ c (ih _ _ h)
theorem addB_byte (x : BitVec 64) (a b : List UInt8) (c d : UInt8) : addB x (a ++ c :: b) = addB x (a ++ d :: b) ↔ c = d := by
  constructor
  · intro h
    rw [addB_append, addB_append, addB_cons, addB_cons] at h
    exact step_byte _ _ _ (addB_inj _ _ b h)
  · rintro rfl; rfl
theorem addB_seed (x y : BitVec 64) (l : List UInt8) : addB x l = addB y l ↔ x = y := ⟨addB_inj x y l, fun h => by rw [h]⟩
theorem startB_seed (x y : BitVec 64) : startB x = startB y ↔ x = y := ⟨xor_right_inj' _ _ _, fun h => by rw [h]⟩
theorem data_len (s : ByteArray) : s.data.toList.length = s.size := Array.length_toList
theorem len_val (s : ByteArray) (hs : s.size ≤ maxLen) : (s.size : Int) = ((BitVec.ofNat 64 s.data.toList.length).toNat : Int) := by
  unfold maxLen at hs
  rw [BitVec.toNat_ofNat, data_len]; omega
theorem take_snoc (s : ByteArray) (k : Nat) (h : k < s.size) : s.data.toList.take (k + 1) = s.data.toList.take k ++ [s[k]] := by
  rw [List.take_succ_eq_append_getElem (by simpa using h)]; rfl
def narrowN (h : Nat) (w : Int) : Nat := h % 2 ^ (min w.toNat 64)
def divP (h j : Nat) : Nat := h / 2 ^ j
def modP (h j : Nat) : Nat := h % 2 ^ j
def powP (j : Nat) : Nat := 2 ^ j % 18446744073709551616
theorem divP_0 (h : Nat) : divP h 0 = h := by simp [divP]
theorem modP_0 (h : Nat) : modP h 0 = 0 := by simp [modP, Nat.mod_one]
theorem powP_0 : powP 0 = 1 := by simp [powP]
theorem pow_le64 (j : Nat) (hj : j ≤ 64) : 2 ^ j ≤ 18446744073709551616 := by
  have := Nat.pow_le_pow_right (n := 2) (by omega) hj
  simpa using this
theorem divP_step (h j : Nat) (hh : h < 2 ^ 64) : IntKind.u64.wrap (((divP h j : Nat) : Int) / (2 : Int)) = ((divP h (j + 1) : Nat) : Int) := by
  have e : divP h (j + 1) = divP h j / 2 := by unfold divP; rw [Nat.pow_succ, Nat.div_div_eq_div_mul]
  have l : divP h j ≤ h := Nat.div_le_self _ _
  rw [IntKind.wrap_u64, e]; omega
theorem modP_step (h j : Nat) (hh : h < 2 ^ 64) (hj : j < 64) : IntKind.u64.wrap (((modP h j : Nat) : Int) + IntKind.u64.wrap (((divP h j : Nat) : Int) % (2 : Int) * ((powP j : Nat) : Int))) = ((modP h (j + 1) : Nat) : Int) := by
  have h1 := pow_le64 j (by omega)
  have h2 := pow_le64 (j + 1) (by omega)
  have h3 : 0 < 2 ^ j := Nat.two_pow_pos _
  have e : modP h (j + 1) = modP h j + 2 ^ j * (divP h j % 2) := by unfold modP divP; rw [Nat.pow_succ, Nat.mod_mul]
  have l : modP h j < 2 ^ j := Nat.mod_lt _ h3
  rw [Nat.pow_succ] at h2
  have p : powP j = 2 ^ j := by unfold powP; exact Nat.mod_eq_of_lt (by omega)
  rw [IntKind.wrap_u64, IntKind.wrap_u64, e, p]
  rcases Nat.mod_two_eq_zero_or_one (divP h j) with q | q
  · have q' : ((divP h j : Nat) : Int) % 2 = 0 := by omega
    rw [q', q]; omega
  · have q' : ((divP h j : Nat) : Int) % 2 = 1 := by omega
    rw [q', q]; omega
theorem powP_step (j : Nat) : IntKind.u64.wrap (((powP j : Nat) : Int) * (2 : Int)) = ((powP (j + 1) : Nat) : Int) := by
  rw [IntKind.wrap_u64]; unfold powP; rw [Nat.pow_succ]; omega
theorem narrow_mask (h n : Nat) (hh : h < 2 ^ 64) (h1 : 1 ≤ n) (hn : n ≤ 63) : bits .and .u64 (h : Int) (IntKind.u64.wrap (IntKind.u64.wrap ((2 : Int) ^ n) - 1)) = ((narrowN h (n : Int) : Nat) : Int) := by
  have l1 := pow_le64 (n + 1) (by omega)
  rw [Nat.pow_succ] at l1
  have l2 : 0 < 2 ^ n := Nat.two_pow_pos _
  have c : ((2 : Int) ^ n) = ((2 ^ n : Nat) : Int) := by simp
  have m : IntKind.u64.wrap (IntKind.u64.wrap ((2 : Int) ^ n) - 1) = ((2 ^ n - 1 : Nat) : Int) := by
    rw [c, IntKind.wrap_u64, IntKind.wrap_u64]; omega
  rw [m]
  unfold narrowN
  have e : min (n : Int).toNat 64 = n := by rw [Int.toNat_natCast]; omega
  rw [e]
  have a := u64_and_nat h (2 ^ n - 1) (by omega) (by omega)
  rw [a, Nat.and_two_pow_sub_one_eq_mod]
theorem narrow_ge (h : Nat) (hh : h < 2 ^ 64) (k : Int) (hk : 64 ≤ k) : narrowN h k = h := by
  unfold narrowN; rw [Nat.min_eq_right (by omega), Nat.mod_eq_of_lt hh]
theorem narrow_le (h : Nat) (k : Int) (hk : k ≤ 0) : narrowN h k = 0 := by
  unfold narrowN; rw [Int.toNat_of_nonpos hk]; simp [Nat.mod_one]
theorem narrow_mod (h j : Nat) (k : Int) (h1 : j ≤ 64) (h2 : (j : Int) ≤ max k 0) (h3 : k ≤ (j : Int) ∨ j = 64) : modP h j = narrowN h k := by
  unfold narrowN modP
  have : j = min k.toNat 64 := by omega
  rw [← this]
theorem narrow_narrow (h : Nat) (a b : Int) : narrowN (narrowN h a) b = narrowN h (min a b) := by
  unfold narrowN
  rw [show min (min a b).toNat 64 = min (min a.toNat 64) (min b.toNat 64) by omega]
  rcases Nat.le_total (min a.toNat 64) (min b.toNat 64) with q | q
  · rw [Nat.min_eq_left q]
    exact Nat.mod_eq_of_lt (Nat.lt_of_lt_of_le (Nat.mod_lt _ (Nat.two_pow_pos _)) (Nat.pow_le_pow_right (by omega) q))
  · rw [Nat.min_eq_right q, Nat.mod_mod_of_dvd _ (Nat.pow_dvd_pow 2 q)]
theorem narrow_le_self (h : Nat) (a : Int) : narrowN h a ≤ h := Nat.mod_le _ _

/- the letters of a number's text -/
def lettersL : List UInt8 := [97, 98, 99, 100, 101, 102, 103, 104, 105, 106, 107, 108, 109, 110, 111, 112, 113, 114, 115, 116, 117, 118, 119, 120, 121, 122, 50, 51, 52, 53, 54, 55]
def letter (n : Nat) : UInt8 := lettersL.getD n 0
def dig (h i : Nat) : Nat := h / 2 ^ (5 * i) % 32
theorem dig_lt (h i : Nat) : dig h i < 32 := Nat.mod_lt _ (by decide)
theorem dig_mask (h i : Nat) (hh : h < 2 ^ 64) : bits .and .u64 ((h : Int) / (2 : Int) ^ (5 * i)) 31 = ((dig h i : Nat) : Int) := by
  have c : ((h : Int) / (2 : Int) ^ (5 * i)) = ((h / 2 ^ (5 * i) : Nat) : Int) := by simp
  have l : h / 2 ^ (5 * i) ≤ h := Nat.div_le_self _ _
  rw [c]
  have a := u64_and_nat (h / 2 ^ (5 * i)) 31 (by omega) (by decide)
  rw [show ((31 : Int)) = ((31 : Nat) : Int) from rfl, a]
  unfold dig
  rw [show (31 : Nat) = 2 ^ 5 - 1 from rfl, Nat.and_two_pow_sub_one_eq_mod]
end Go.Proofs.YtnipiphhkcafhaaDoor.Mix
