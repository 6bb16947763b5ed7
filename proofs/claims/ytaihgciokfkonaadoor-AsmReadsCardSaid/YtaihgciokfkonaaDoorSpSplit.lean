/- A text cut at a mark, as SplitSeq gives its pieces one by one. No condition. -/
import Derived.Lib.Split
namespace Go.Proofs.YtaihgciokfkonaaDoor
set_option linter.unusedVariables false
theorem spl_miss {s sep : List UInt8} (h : Lib.index s sep = -1) : Lib.split s sep = [s] := by
  unfold Lib.split
  rw [Lib.count_miss h]
  rfl
theorem spl_hit {s sep : List UInt8} {i : Nat} (hsep : sep ≠ []) (h : Lib.index s sep = i) : Lib.split s sep = s.take i :: Lib.split (s.drop (i + sep.length)) sep := by
  unfold Lib.split
  rw [Lib.count_hit hsep h, Nat.add_comm, Lib.splitK]
  have hm : ¬ (Lib.index s sep == -1) = true := fun e => by have := beq_iff_eq.1 e; omega
  have e : (Lib.index s sep).toNat = i := by omega
  rw [if_neg hm, e, Nat.add_zero]
theorem spl_len {sep : List UInt8} (hsep : sep ≠ []) : ∀ (n : Nat) (s : List UInt8), s.length ≤ n → (∀ x ∈ Lib.split s sep, x.length ≤ s.length) ∧ (Lib.split s sep).length ≤ s.length + 1 := by
  intro n
  induction n with
  | zero =>
    intro s hs
    have h0 : s = [] := List.eq_nil_of_length_eq_zero (by omega)
    rcases Lib.index_spec s sep with ⟨h, -⟩ | ⟨i, h, hi, -, -⟩
    · rw [spl_miss h]; simp
    · have := Lib.index_room s sep (by omega)
      subst h0
      have hp : 0 < sep.length := List.length_pos_iff.2 hsep
      simp at this
      omega
  | succ n ih =>
    intro s hs
    rcases Lib.index_spec s sep with ⟨h, -⟩ | ⟨i, h, hi, -, -⟩
    · rw [spl_miss h]; simp
    · have hr := Lib.index_room s sep (by omega)
      have hp : 0 < sep.length := List.length_pos_iff.2 hsep
      obtain ⟨a, b⟩ := ih (s.drop (i + sep.length)) (by rw [List.length_drop]; omega)
      rw [spl_hit hsep h]
      refine ⟨fun x hx => ?_, ?_⟩
      · rcases List.mem_cons.1 hx with rfl | hx
        · rw [List.length_take]; omega
        · have := a x hx; rw [List.length_drop] at this; omega
      · rw [List.length_cons]; rw [List.length_drop] at b; omega
end Go.Proofs.YtaihgciokfkonaaDoor
