/- A store of objects by their keys, in lists. No condition. -/
import Derived.Test.YtbloglfmhhgccaaShMath
import Derived.Test.YtbloglfmhhgccaaMixAll
namespace Go.Proofs.Ytbloglfmhhgccaa
set_option linter.unusedVariables false
open Go.ChangeShapes Go.WideShapes Go.ChangeAt Go.RowKit
def keyL (W : Int) (b : List UInt8) : List UInt8 := Mix.textL (Mix.narrowN (Mix.ofB b).toNat W)
theorem narrow_lt (h : Nat) (W : Int) (hh : h < 18446744073709551616) : Mix.narrowN h W < 18446744073709551616 := by
  unfold Mix.narrowN
  exact Nat.lt_of_le_of_lt (Nat.mod_le _ _) hh
def getO (W : Int) (os : List (List UInt8)) (k : List UInt8) : List UInt8 × Bool := match os.find? (fun b => decide (keyL W b = k)) with
  | some b => (b, true)
  | none => ([], false)
def tryF (W : Int) (os : List (List UInt8)) (b : List UInt8) : Int := if 65536 < b.length then 3 else if (getO W os (keyL W b)).2 = true ∧ (getO W os (keyL W b)).1 ≠ b then 72 else 0
def putO (W : Int) (os : List (List UInt8)) (b : List UInt8) : List (List UInt8) := if tryF W os b = 0 ∧ (getO W os (keyL W b)).2 = false then os ++ [b] else os
def putK (W : Int) (os : List (List UInt8)) (b : List UInt8) : List UInt8 := if tryF W os b = 0 then keyL W b else []
def pairsO (W : Int) (os : List (List UInt8)) : List FileL := os.map fun b => (keyL W b, b)
/- what stands in the shelf: the objects by rising keys -/
structure InvO (W : Int) (os : List (List UInt8)) (ps : List FileL) : Prop where
  asc : Asc ps
  perm : ps.Perm (pairsO W os)
theorem InvO.nil (W : Int) : InvO W [] [] := ⟨List.Pairwise.nil, List.Perm.refl _⟩
theorem InvO.len {W : Int} {os : List (List UInt8)} {ps : List FileL} (h : InvO W os ps) : ps.length = os.length := by rw [h.perm.length_eq]; simp [pairsO]
theorem InvO.mem {W : Int} {os : List (List UInt8)} {ps : List FileL} (h : InvO W os ps) {x : FileL} : x ∈ ps ↔ x.2 ∈ os ∧ keyL W x.2 = x.1 := by
  rw [h.perm.mem_iff]
  unfold pairsO
  rw [List.mem_map]
  constructor
  · rintro ⟨b, hb, rfl⟩; exact ⟨hb, rfl⟩
  · rintro ⟨hb, hk⟩; exact ⟨x.2, hb, by rw [hk]⟩
theorem InvO.get {W : Int} {os : List (List UInt8)} {ps : List FileL} (h : InvO W os ps) (k : List UInt8) : getS ps k = getO W os k := by
  unfold getO
  cases hf : os.find? (fun b => decide (keyL W b = k)) with
  | none =>
    refine getS_no fun x hx e => ?_
    obtain ⟨h1, h2⟩ := h.mem.1 hx
    have := List.find?_eq_none.1 hf _ h1
    rw [h2, e] at this
    simp at this
  | some b =>
    have hb := List.mem_of_find?_eq_some hf
    have hk : keyL W b = k := by have := List.find?_some hf; simpa using this
    have hm : (keyL W b, b) ∈ ps := h.mem.2 ⟨hb, rfl⟩
    have := getS_mem h.asc hm
    rw [← hk]; exact this
theorem getO_mem {W : Int} {os : List (List UInt8)} {k b : List UInt8} (h : getO W os k = (b, true)) : b ∈ os ∧ keyL W b = k := by
  unfold getO at h
  cases hf : os.find? (fun b => decide (keyL W b = k)) with
  | none => rw [hf] at h; cases h
  | some c =>
    rw [hf] at h
    cases h
    exact ⟨List.mem_of_find?_eq_some hf, by have := List.find?_some hf; simpa using this⟩
theorem getO_none {W : Int} {os : List (List UInt8)} {k : List UInt8} (h : (getO W os k).2 = false) : ∀ b ∈ os, keyL W b ≠ k := by
  unfold getO at h
  cases hf : os.find? (fun b => decide (keyL W b = k)) with
  | none => exact fun b hb e => by have := List.find?_eq_none.1 hf b hb; simp [e] at this
  | some c => rw [hf] at h; cases h
theorem try_ok {W : Int} {os : List (List UInt8)} {b : List UInt8} (h : tryF W os b = 0) : b.length ≤ 65536 ∧ ((getO W os (keyL W b)).2 = true → (getO W os (keyL W b)).1 = b) := by
  unfold tryF at h
  by_cases h1 : 65536 < b.length
  · rw [if_pos h1] at h; cases h
  · rw [if_neg h1] at h
    refine ⟨by omega, fun h2 => ?_⟩
    by_cases h3 : (getO W os (keyL W b)).1 = b
    · exact h3
    · rw [if_pos ⟨h2, h3⟩] at h; cases h
/- what put asks of the shelf -/
theorem InvO.put_cases {W : Int} {os : List (List UInt8)} {ps : List FileL} (h : InvO W os ps) {b : List UInt8} (ht : tryF W os b = 0) : ((getO W os (keyL W b)).2 = true ∧ (keyL W b, b) ∈ ps ∧ putO W os b = os) ∨ ((getO W os (keyL W b)).2 = false ∧ (∀ y ∈ ps, y.1 ≠ keyL W b) ∧ putO W os b = os ++ [b] ∧ InvO W (os ++ [b]) (insF (keyL W b, b) ps)) := by
  obtain ⟨h1, h2⟩ := try_ok ht
  cases hg : (getO W os (keyL W b)).2 with
  | true =>
    left
    have he : getO W os (keyL W b) = (b, true) := Prod.ext (h2 hg) hg
    refine ⟨rfl, h.mem.2 ⟨(getO_mem he).1, rfl⟩, ?_⟩
    unfold putO; rw [if_neg (by rw [hg]; simp)]
  | false =>
    right
    have hno : ∀ y ∈ ps, y.1 ≠ keyL W b := fun y hy e => by
      obtain ⟨h3, h4⟩ := h.mem.1 hy
      exact getO_none hg _ h3 (by rw [h4, e])
    refine ⟨rfl, hno, by unfold putO; rw [if_pos ⟨ht, hg⟩], ins_asc h.asc _, ?_⟩
    refine (ins_perm (f := (keyL W b, b)) hno).trans ?_
    unfold pairsO
    rw [List.map_append]
    exact ((h.perm.cons _).trans (List.perm_append_comm (l₁ := [(keyL W b, b)])))
end Go.Proofs.Ytbloglfmhhgccaa
