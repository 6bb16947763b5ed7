/- The words of the instructions, in Lean: word, code, what stands behind. No condition. -/
import Derived.Test.YtdgcpgbknfojhaaDoorNdLib
namespace Go.Proofs.YtdgcpgbknfojhaaDoor
set_option linter.unusedVariables false
def wordsB : List (List UInt8) := [[], [104, 97, 108, 116], [112, 117, 115, 104], [116, 101, 120, 116], [112, 111, 112], [100, 117, 112], [115, 119, 97, 112], [108, 111, 97, 100], [115, 116, 111, 114, 101], [97, 100, 100], [115, 117, 98], [109, 117, 108], [100, 105, 118], [109, 111, 100], [108, 101, 115, 115], [101, 113], [110, 111, 116], [106, 117, 109, 112], [122, 101, 114, 111], [99, 97, 108, 108], [114, 101, 116], [99, 97, 116], [108, 101, 110], [99, 117, 116], [115, 116, 114], [110, 117, 109], [114, 101, 97, 100], [99, 111, 117, 110, 116], [112, 97, 116, 104], [119, 114, 105, 116, 101], [102, 97, 105, 108]]
theorem wordsB_len : wordsB.length = 31 := by kernel_rfl
def wordL (op : Int) : List UInt8 := if 0 ≤ op ∧ op < 31 then wordsB.getD op.toNat [] else []
def opF (l : List UInt8) : Nat := if wordsB.findIdx (fun x => x == l) < 31 then wordsB.findIdx (fun x => x == l) else 0
def takesF (op : Int) : Int := if op = 2 ∨ op = 30 then 1 else if op = 3 then 2 else if op = 7 ∨ op = 8 then 3 else if op = 17 ∨ op = 18 ∨ op = 19 then 4 else 0
theorem opF_all : (List.range 31).all (fun k => opF (wordsB.getD k []) == k) = true := by kernel_rfl
theorem opF_word (k : Nat) (hk : k < 31) : opF (wordsB.getD k []) = k := by
  have := List.all_eq_true.1 opF_all k (List.mem_range.2 hk)
  simpa using this
theorem opF_none (l : List UInt8) (h : ∀ k, k < 31 → wordsB.getD k [] ≠ l) : opF l = 0 := by
  unfold opF
  rw [if_neg]
  intro hlt
  have h1 : wordsB.findIdx (fun x => x == l) < wordsB.length := by rw [wordsB_len]; exact hlt
  have h2 : (wordsB[wordsB.findIdx (fun x => x == l)] == l) = true := List.findIdx_getElem (w := h1)
  refine h _ hlt ?_
  rw [List.getD_eq_getElem?_getD, List.getElem?_eq_getElem h1]
  simpa using h2
theorem wordL_in (k : Nat) (hk : k < 31) : wordL (k : Int) = wordsB.getD k [] := by
  unfold wordL
  rw [if_pos (by omega), Int.toNat_natCast]
theorem wordL_out (op : Int) (h : ¬ (0 ≤ op ∧ op < 31)) : wordL op = [] := if_neg h
theorem opF_wordL (op : Int) (h : 0 ≤ op ∧ op < 31) : (opF (wordL op) : Int) = op := by
  obtain ⟨k, rfl⟩ := Int.eq_ofNat_of_zero_le h.1
  rw [wordL_in k (by omega), opF_word k (by omega)]
theorem wordL_eq (op : Int) (k : Nat) (hk : 1 ≤ k ∧ k < 31) : wordL op = wordsB.getD k [] ↔ op = k := by
  constructor
  · intro h
    by_cases ho : 0 ≤ op ∧ op < 31
    · have := opF_wordL op ho
      rw [h, opF_word k hk.2] at this
      exact this.symm
    · rw [wordL_out op ho] at h
      have := opF_word k hk.2
      rw [← h] at this
      have h0 : opF [] = 0 := by kernel_rfl
      omega
  · rintro rfl
    exact wordL_in k hk.2
theorem wordL_nil (op : Int) : wordL op = [] ↔ ¬ (1 ≤ op ∧ op < 31) := by
  constructor
  · intro h ho
    have := opF_wordL op (by omega)
    rw [h] at this
    have h0 : opF [] = 0 := by kernel_rfl
    omega
  · intro h
    by_cases h0 : op = 0
    · rw [h0]; kernel_rfl
    · exact wordL_out op (by omega)
theorem wordsB_small : (List.range 31).all (fun k => decide ((wordsB.getD k []).length ≤ 5)) = true := by kernel_rfl
theorem wordL_len (op : Int) : (wordL op).length ≤ 5 := by
  by_cases ho : 0 ≤ op ∧ op < 31
  · obtain ⟨k, rfl⟩ := Int.eq_ofNat_of_zero_le ho.1
    rw [wordL_in k (by omega)]
    have := List.all_eq_true.1 wordsB_small k (List.mem_range.2 (by omega))
    simpa using this
  · rw [wordL_out op ho]; exact Nat.zero_le _
end Go.Proofs.YtdgcpgbknfojhaaDoor
