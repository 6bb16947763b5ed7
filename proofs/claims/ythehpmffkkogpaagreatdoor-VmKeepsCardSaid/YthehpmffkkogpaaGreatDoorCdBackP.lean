/- What can be written is read back, and the other way round: the lists alone. No condition. -/
import Derived.Test.YthehpmffkkogpaaGreatDoorSxDec
namespace Go.Proofs.YthehpmffkkogpaaGreatDoor
open Go.ChangeShapes Go.WideShapes Go.ChangeAt Go.RowKit
set_option linter.unusedVariables false
theorem dec_enc {n : Nd} {ys : List UInt8} (h : putN n 0 [] = .ok ys) : decR ys = .ok n := by
  obtain ⟨e1, o1, hl⟩ := putN_ok _ _ _ _ h
  rw [List.nil_append] at e1
  have hp := rd_enc n 0 [] (2 * ys.length + 1) o1 (by rw [List.append_nil, ← e1]; exact Nat.le_refl _)
  rw [List.append_nil, ← e1] at hp
  unfold decR decN
  rw [if_neg (by omega), hp]
  rfl
theorem decR_ok {s : List UInt8} {m : Nd} (h : decR s = .ok m) : s.length ≤ 65536 ∧ s = encN m ∧ okN m 0 = true := by
  unfold decR at h
  split at h
  · cases h
  · rename_i hb
    split at h
    · cases h
    · rename_i n r hd
      split at h
      · rename_i hr
        cases h
        obtain ⟨h1, h2⟩ := enc_rd _ _ _ _ _ hd
        rw [hr, List.append_nil] at h1
        exact ⟨by omega, h1, h2⟩
      · cases h
theorem decR_err {s : List UInt8} {y : Int} (h : decR s = .error y) : 0 < y ∧ y < 10 := by
  unfold decR at h
  split at h
  · cases h; decide
  · split at h
    · rename_i e he
      cases h
      exact rdN_err _ _ _ _ he
    · split at h
      · cases h
      · cases h; decide
theorem enc_dec {s : List UInt8} {m : Nd} (h : decR s = .ok m) : putN m 0 [] = .ok s := by
  obtain ⟨hl, h1, h2⟩ := decR_ok h
  have := putN_fit m 0 [] h2 (by rw [List.nil_append, ← h1]; exact hl)
  rw [List.nil_append, ← h1] at this
  exact this
mutual
theorem count_enc (n : Nd) (d : Nat) (h : okN n d = true) : n.count ≤ (encN n).length := by
  obtain ⟨l, a, ks⟩ := n
  rw [Nd.count, encN]
  rw [okN] at h
  have ha : a.data.toList.length = a.size := by simp
  cases l with
  | true =>
    simp only [if_true] at h ⊢
    rw [List.isEmpty_iff.1 h, Nd.counts]
    unfold atomB
    have := List.length_pos_iff.2 (dec_ne a.data.toList.length)
    simp only [List.length_append, List.length_cons]
    omega
  | false =>
    simp only [Bool.false_eq_true, if_false, Bool.and_eq_true, decide_eq_true_eq] at h ⊢
    have := counts_enc ks (d + 1) h.2
    simp only [List.length_append, List.length_cons, List.length_nil]
    omega
theorem counts_enc (ks : List Nd) (d : Nat) (h : okL ks d = true) : Nd.counts ks ≤ (encL ks).length := by
  cases ks with
  | nil => rw [Nd.counts]; exact Nat.zero_le _
  | cons k r =>
    rw [okL, Bool.and_eq_true] at h
    rw [Nd.counts, encL, List.length_append]
    have h1 := count_enc k d h.1
    have h2 := counts_enc r d h.2
    omega
end
theorem dec_count {s : List UInt8} {m : Nd} (h : decR s = .ok m) : m.count ≤ 65536 := by
  obtain ⟨hl, h1, h2⟩ := decR_ok h
  have := count_enc m 0 h2
  rw [← h1] at this
  omega
end Go.Proofs.YthehpmffkkogpaaGreatDoor
