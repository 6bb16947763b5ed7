/- The contract of the statements' own guard: it answers true. No condition. -/
import Derived.Test.YtkcgkkhcakblaaaWalkE
namespace Go.Proofs.Ytkcgkkhcakblaaa
set_option linter.unusedVariables false
open Go.ChangeShapes Go.WideShapes Go.ChangeAt Go.RowKit
theorem grown_trans {a b c : World} (h : Grown a b) (g : Grown b c) : Grown a c :=
  ⟨World.keptBut_trans h.1 g.1, fun x => (g.2.1 x).trans (h.2.1 x), Nat.le_trans h.2.2 g.2.2⟩
theorem text_one : textL 1 = [97, 97, 97, 97, 97, 97, 97, 97, 97, 97, 97, 97, 98] := by decide +kernel
theorem text_all : textL 18446744073709551615 = [112, 55, 55, 55, 55, 55, 55, 55, 55, 55, 55, 55, 55] := by decide +kernel
theorem bad_q : ¬ goodL [113, 97, 97, 97, 97, 97, 97, 97, 97, 97, 97, 97, 97] := fun h => absurd h.2.2 (by decide)
theorem start_zero (w : World) : Calls Try.prog 10 #[.int .u64 0] w fun e w' => e = .returned (.int .u64 11400714819323198485) ∧ w = w' :=
  (start_any 0 0#64 w rfl).mono fun e w' ⟨h, g⟩ => ⟨by rw [h]; exact ret_u64 (by decide +kernel), g⟩
theorem add_zero (w : World) : Calls Try.prog 12 #[.int .u64 0, .string { data := #[0] }] w fun e w' => e = .returned (.int .u64 15111065706836454659) ∧ w = w' :=
  (add_any 0#64 { data := #[0] } w (by decide)).mono fun e w' ⟨h, g⟩ => ⟨by rw [h]; exact ret_u64 (by decide +kernel), g⟩
set_option maxHeartbeats 1000000 in
theorem alive_any (w : World) : Calls Try.prog 9 #[] w fun e w' => e = .returned (.bool true) ∧ Grown w w' := by
  go_enter Try.func9, Try.ntmps9
  go_wp2_with fail
  refine (parse_any _ _ (by decide)).mono ?_
  rintro e w1 ⟨he, hg1⟩
  obtain ⟨p, q⟩ := parse_bad _ bad_q
  rw [p, q] at he
  subst he
  clear p q
  go_wp2_with fail
  refine (text_nat 1 1 _ rfl (by decide)).mono ?_
  rintro e w2 ⟨he, hg2⟩
  rw [text_one] at he
  subst he
  go_wp2_with fail
  refine (text_nat 18446744073709551615 18446744073709551615 _ rfl (by decide)).mono ?_
  rintro e w3 ⟨he, hg3⟩
  rw [text_all] at he
  subst he
  go_wp2_with fail
  refine (start_zero _).mono ?_
  rintro e w4 ⟨rfl, rfl⟩
  go_wp2_with fail
  refine (add_zero _).mono ?_
  rintro e w5 ⟨rfl, rfl⟩
  go_wp2_with fail
  go_ret
  exact ⟨rfl, grown_trans (grown_trans hg1 hg2) hg3⟩
theorem u64_of (a : Int) (h : (Lit.int .u64 a).wf = true) : ∃ x : BitVec 64, a = (x.toNat : Int) := by
  have : 0 ≤ a ∧ a < 18446744073709551616 := by
    simp only [Lit.wf, Bool.and_eq_true, decide_eq_true_eq] at h
    have h1 : IntKind.u64.min = 0 := by decide
    have h2 : IntKind.u64.max = 18446744073709551615 := by decide
    omega
  exact ⟨BitVec.ofNat 64 a.toNat, by rw [BitVec.toNat_ofNat]; omega⟩
theorem nat_ne {x y : BitVec 64} (h : ¬ x = y) : ((x.toNat : Int) == (y.toNat : Int)) = false := by
  rw [beq_eq_false_iff_ne]
  intro e
  exact h (BitVec.eq_of_toNat_eq (by omega))
theorem text_size (h : Nat) : (ByteArray.mk (textL h).toArray).size ≤ maxLen := by
  show (textL h).toArray.size ≤ maxLen
  rw [List.size_toArray, text_len]; decide
theorem oneBackD (n : Int) (c : UInt8) (wr : World) (hn : n = (c.toNat : Int)) :
    (convert 30 9 (.slice (some ⟨wr.heap.size, 0, none⟩) 1 1)).run Try.prog (wr.alloc (.cells #[.int .u8 n] 5)).drew = .ok (.string ⟨#[c]⟩) (wr.alloc (.cells #[.int .u8 n] 5)).drew := by
  refine run_convert_bytes_back (P := Try.prog) _ 30 9 5 ⟨wr.heap.size, 0, none⟩ 1 [c] Try.underlying30 Try.underlying5 Try.underlying9 ?_
  intro j hj
  have hj' : j < 1 := hj
  obtain rfl : j = 0 := by omega
  simp [Addr.add, go_sem, hn]
theorem xor_u8 (a b : UInt8) : bits .xor .u8 (a.toNat : Int) (b.toNat : Int) = (((a ^^^ b).toNat : Nat) : Int) := by
  rw [u8_xor_nat _ _ a.toNat_lt b.toNat_lt, UInt8.toNat_xor]
theorem u8_of (a : Int) (h : (Lit.int .u8 a).wf = true) : ∃ x : UInt8, a = (x.toNat : Int) := by
  have : 0 ≤ a ∧ a < 256 := by
    simp only [Lit.wf, Bool.and_eq_true, decide_eq_true_eq] at h
    have h1 : IntKind.u8.min = 0 := by decide
    have h2 : IntKind.u8.max = 255 := by decide
    omega
  exact ⟨UInt8.ofNat a.toNat, by rw [UInt8.toNat_ofNat']; omega⟩
theorem self_list (s : ByteArray) (n : Nat) (h : n < s.size) : s.data.toList = s.data.toList.take n ++ s[n] :: s.data.toList.drop (n + 1) := by
  have h' : n < s.data.toList.length := by rw [data_len]; exact h
  have e : s[n] = s.data.toList[n]'h' := rfl
  rw [e, ← List.drop_eq_getElem_cons h', List.take_append_drop]
theorem other_list (s : ByteArray) (n : Nat) (c : UInt8) (h : n < s.size) : (s.extract 0 n ++ { data := #[c] } ++ s.extract (n + 1) s.size).data.toList = s.data.toList.take n ++ c :: s.data.toList.drop (n + 1) := by
  have e1 : (s.extract 0 n).data.toList = s.data.toList.take n := by simp [ByteArray.data_extract]
  have e2 : (s.extract (n + 1) s.size).data.toList = s.data.toList.drop (n + 1) := by
    have : s.data.toList.length = s.size := data_len s
    simp [ByteArray.data_extract, List.take_of_length_le, this]
  rw [ByteArray.data_append, ByteArray.data_append, Array.toList_append, Array.toList_append, e1, e2]
  simp
theorem other_size (s : ByteArray) (n : Nat) (c : UInt8) (h : n < s.size) : (s.extract 0 n ++ { data := #[c] } ++ s.extract (n + 1) s.size).size = s.size := by
  rw [← data_len, other_list s n c h, ← data_len]
  simp
  have : s.data.size = s.size := rfl
  omega
theorem xor_same (a x : UInt8) : a = a ^^^ x ↔ x = 0 := by
  constructor
  · intro h
    have := congrArg (fun v => a ^^^ v) h
    simpa [← UInt8.xor_assoc] using this.symm
  · rintro rfl; simp
theorem of_other (s : ByteArray) (n : Nat) (x : UInt8) (h : n < s.size) (t : ByteArray) (ht : s.extract 0 n ++ { data := #[s[n] ^^^ x] } ++ s.extract (n + 1) s.size = t) (hx : x ≠ 0) : ¬ ofB s.data.toList = ofB t.data.toList := by
  subst ht
  unfold ofB
  have hl : s.data.toList.length = (s.extract 0 n ++ { data := #[s[n] ^^^ x] } ++ s.extract (n + 1) s.size).data.toList.length := by rw [data_len, data_len, other_size _ _ _ h]
  rw [← hl, other_list _ _ _ h]
  generalize startB (BitVec.ofNat 64 s.data.toList.length) = z
  have e := addB_byte z (s.data.toList.take n) (s.data.toList.drop (n + 1)) s[n] (s[n] ^^^ x)
  rw [← self_list s n h] at e
  rw [e]
  exact fun e => hx ((xor_same _ _).1 e)
theorem add_other (z : BitVec 64) (s : ByteArray) (n : Nat) (x : UInt8) (h : n < s.size) (t : ByteArray) (ht : s.extract 0 n ++ { data := #[s[n] ^^^ x] } ++ s.extract (n + 1) s.size = t) (hx : x ≠ 0) : ¬ addB z s.data.toList = addB z t.data.toList := by
  subst ht
  rw [other_list _ _ _ h]
  have e := addB_byte z (s.data.toList.take n) (s.data.toList.drop (n + 1)) s[n] (s[n] ^^^ x)
  rw [← self_list s n h] at e
  rw [e]
  exact fun e => hx ((xor_same _ _).1 e)
theorem same_other (s : ByteArray) (n : Nat) (h : n < s.size) (t : ByteArray) (ht : s.extract 0 n ++ { data := #[s[n] ^^^ 0] } ++ s.extract (n + 1) s.size = t) : t.data.toList = s.data.toList := by
  subst ht
  have e : s[n] ^^^ 0 = s[n] := by simp
  rw [other_list _ _ _ h, e, ← self_list s n h]
theorem size_other (s : ByteArray) (n : Nat) (c : UInt8) (h : n < s.size) (t : ByteArray) (ht : s.extract 0 n ++ { data := #[c] } ++ s.extract (n + 1) s.size = t) : t.size = s.size := by
  subst ht; exact other_size s n c h
theorem u8_ne {x : UInt8} (h : ¬ x = 0) : ((x.toNat : Int) == 0) = false := by
  rw [beq_eq_false_iff_ne]
  intro e
  exact h (UInt8.toNat_inj.1 (by rw [UInt8.toNat_zero]; omega))
end Go.Proofs.Ytkcgkkhcakblaaa
