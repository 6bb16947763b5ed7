/- Comparisons with a sign and a version, in lists. No condition. -/
import Derived.Test.YtaijhebjjbcdfaaGreatDoorSpFirst
import Derived.Test.YtaijhebjjbcdfaaGreatDoorSpParse
namespace Go.Proofs.YtaijhebjjbcdfaaGreatDoor
set_option linter.unusedVariables false
open Go.ChangeShapes Go.WideShapes Go.ChangeAt Go.RowKit Go.Lib
theorem dotL_bytes (a b c : Nat) : ∀ x ∈ Ver.dotL a b c, digB x = true ∨ x = 46 := fun x hx => by
  have hd : ∀ u, x ∈ Lib.decDigits u → digB x = true := fun u h => decide_eq_true (Ver.dec_in u x h)
  unfold Ver.dotL at hx
  rcases List.mem_append.1 hx with h | h
  · exact .inl (hd _ h)
  · rcases List.mem_cons.1 h with h | h
    · exact .inr h
    · rcases List.mem_append.1 h with h | h
      · exact .inl (hd _ h)
      · rcases List.mem_cons.1 h with h | h
        · exact .inr h
        · exact .inl (hd _ h)
theorem dotL_head (a b c : Nat) : ∃ x r, Ver.dotL a b c = x :: r ∧ digB x = true := by
  unfold Ver.dotL
  cases h : Lib.decDigits a with
  | nil =>
    have := Ver.dec_eq a
    rw [h] at this
    split at this <;> simp at this
  | cons x r => exact ⟨x, _, rfl, decide_eq_true (Ver.dec_in a x (by rw [h]; simp))⟩
theorem dotL_len {a b c : Nat} (h1 : a < 1000) (h2 : b < 1000) (h3 : c < 1000) : (Ver.dotL a b c).length ≤ 65 := by
  have hl : ∀ u, u < 1000 → (Lib.decDigits u).length ≤ 21 := fun u hu => by
    have := Lib.itoa_length_le (u : Int) (by omega) (by omega)
    rwa [Lib.itoa_nonneg] at this
  unfold Ver.dotL
  have e1 := hl a h1
  have e2 := hl b h2
  have e3 := hl c h3
  simp only [List.length_append, List.length_cons]
  omega
theorem comp_sign {sg t : List UInt8} (hsg : ∀ x ∈ sg, digB x = false) (ht : ∃ x r, t = x :: r ∧ digB x = true) (hne : sg ++ t ≠ [42]) : compL (sg ++ t) = match Ver.verL t with | none => none | some (a, b, c) => signL sg a b c := by
  obtain ⟨x, r, hx, hd⟩ := ht
  have hlen : sg.length < (sg ++ t).length := by rw [hx, List.length_append, List.length_cons]; omega
  have hat : (sg ++ t)[sg.length] = x := by
    rw [List.getElem_append_right (Nat.le_refl _)]
    simp [hx]
  have hi : Lib.idxFunc digitR true (tx (sg ++ t)) = (sg.length : Int) := by
    rcases first_at (sg ++ t) with ⟨i, h, h1, h2, h3⟩ | ⟨h1, h2⟩
    · have e : i = sg.length := by
        rcases Nat.lt_trichotomy i sg.length with y | y | y
        · rw [List.getElem_append_left y] at h2
          rw [hsg _ (List.getElem_mem y)] at h2
          cases h2
        · exact y
        · have := h3 sg.length hlen y
          rw [hat, hd] at this
          cases this
      rw [h1, e]
    · have := h2 sg.length hlen
      rw [hat, hd] at this
      cases this
  unfold compL
  rw [if_neg hne]
  simp only [hi]
  rw [if_neg (by omega), Int.toNat_natCast, List.drop_left, List.take_left]
  cases Ver.verL t <;> rfl
theorem gaps_one {s : List UInt8} (h : ∀ x ∈ s, x ≠ 32) : gapsL s = (compL s).map fun g => [commonG (0, allG) g] := by
  unfold gapsL
  rw [spl_one h (sep := barT) rfl]
  show stepP (some []) s = _
  unfold stepP
  simp only [Option.bind_some, List.nil_append]
  unfold termL
  rw [spl_one h (sep := [32]) rfl]
  show Option.map _ (stepT (some (0, allG)) s) = _
  unfold stepT
  simp only [Option.bind_some, Option.map_map]
  rfl
/- the seven signs -/
def sgnL : List (List UInt8) := [[61], [62, 61], [62], [60], [60, 61], [94], [126]]
theorem sgn_no : ∀ sg ∈ sgnL, (∀ x ∈ sg, digB x = false ∧ x ≠ 32) ∧ sg.length ≤ 2 := by decide
theorem sign_gaps {a b c : Nat} (h1 : a < 1000) (h2 : b < 1000) (h3 : c < 1000) {sg : List UInt8} (hs : sg ∈ sgnL) : gapsL (sg ++ Ver.dotL a b c) = (signL sg a b c).map (fun g => [commonG (0, allG) g]) ∧ (sg ++ Ver.dotL a b c).length ≤ 256 ∧ sg ++ Ver.dotL a b c ≠ noneT := by
  obtain ⟨k1, k2⟩ := sgn_no sg hs
  obtain ⟨x, r, hx, hd⟩ := dotL_head a b c
  have hd46 : ∀ y : UInt8, digB y = true ∨ y = 46 → y ≠ 32 ∧ y ≠ 110 ∧ y ≠ 42 ∧ y ≠ 101 := fun y hy => by
    rcases hy with hy | rfl
    · refine ⟨?_, ?_, ?_, ?_⟩ <;> (rintro rfl; revert hy; decide)
    · decide
  have hl := dotL_len h1 h2 h3
  have hlast : ∀ l : List UInt8, sg ++ Ver.dotL a b c = l → ∀ y, l.getLast? = some y → digB y = true ∨ y = 46 := fun l e y hy => by
    rw [← e, List.getLast?_append, hx] at hy
    have : y ∈ x :: r := List.mem_of_getLast? (by
      cases hq : (x :: r).getLast? with
      | none => simp at hq
      | some z => rw [hq] at hy; simpa using hy)
    exact dotL_bytes a b c y (by rw [hx]; exact this)
  refine ⟨?_, by rw [List.length_append]; omega, fun e => ?_⟩
  · rw [gaps_one fun y hy => ?_, comp_sign (fun y hy => (k1 y hy).1) ⟨x, r, hx, hd⟩ (fun e => ?_), Ver.verL_dot h1 h2 h3]
    · have := hlast _ e 42 rfl
      exact (hd46 42 this).2.2.1 rfl
    · rcases List.mem_append.1 hy with h | h
      · exact (k1 y h).2
      · exact (hd46 y (dotL_bytes a b c y h)).1
  · have := hlast _ e 101 rfl
    exact (hd46 101 this).2.2.2 rfl
end Go.Proofs.YtaijhebjjbcdfaaGreatDoor
