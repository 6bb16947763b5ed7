/- Paths put together and cut; what is done to trees, in lists. Condition: texts of at most 2^18 bytes; the library's own variable holds some number. -/
import Derived.Test.YthehpmffkkogpaaGreatDoorTrRef
namespace Go.Proofs.YthehpmffkkogpaaGreatDoor
set_option linter.unusedVariables false
open Go.ChangeShapes Go.WideShapes Go.ChangeAt Go.RowKit
def undL (d s : List UInt8) : List UInt8 × Bool := match Pth.underL d s with
  | none => ([], false)
  | some r => (r, true)
def jnL (d s : List UInt8) : List UInt8 × Int := match Pth.joinL d s with
  | none => ([], 10)
  | some r => (r, 0)
theorem undL_some {d s : List UInt8} : (undL d s).2 = (Pth.underL d s).isSome := by unfold undL; cases Pth.underL d s <;> rfl
theorem runder_any (d s : List UInt8) (w : World) (hd : d.length ≤ 262144) (hs : s.length ≤ 262144) (hm : Pth.Ml w) : Calls Tryz.prog 87 #[.string (tx d), .string (tx s)] w fun e w' => Chg NoB w w' ∧ e = .returned (.tuple #[.string (tx (undL d s).1), .bool (undL d s).2]) := by
  have h := Pth.underR_any (tx d) (tx s) w (by rw [tx_size]; exact hd) (by rw [tx_size]; exact hs)
  rw [tx_list, tx_list] at h
  refine h.mono fun e w' h => ?_
  unfold Pth.Undered at h
  refine ⟨chg_of_below h.2, ?_⟩
  unfold undL
  cases hu : Pth.underL d s with
  | none => rw [hu] at h; exact h.1
  | some r => rw [hu] at h; exact h.1
theorem place_nil' : Pth.placeL [] = true := rfl
theorem place_full' {l : List UInt8} (h : l ≠ []) : Pth.placeL l = Pth.goodL l := by
  cases l with
  | nil => exact absurd rfl h
  | cons a b => rfl
def delF (p : FileL → Bool) (t : List FileL) : List FileL := t.filter fun x => !p x
def putF (t : List FileL) (f : FileL) : Except Int (List FileL) := if goodF t = true then makeF (delF (fun x => decide (x.1 = f.1)) t ++ [f]) else .error 1
def dropP (p : List UInt8) (x : FileL) : Bool := decide (x.1 = p) || ((undL p x.1).2 && !decide (p = []))
def dropF (t : List FileL) (p : List UInt8) : Except Int (List FileL) := if goodF t = true then (if (delF (dropP p) t).length = t.length then .error 14 else .ok (delF (dropP p) t)) else .error 1
def cutL (d : List UInt8) : List FileL → List FileL
  | [] => []
  | x :: r => if (undL d x.1).2 = true then ((undL d x.1).1, x.2) :: cutL d r else cutL d r
def cutF (t : List FileL) (d : List UInt8) : Except Int (List FileL) := if goodF t = true then (if Pth.placeL d = true then .ok (cutL d t) else .error 10) else .error 1
def joinF (d : List UInt8) : List FileL → Option (List FileL)
  | [] => some []
  | x :: r => if (jnL d x.1).2 = 0 then (joinF d r).map (((jnL d x.1).1, x.2) :: ·) else none
def mountF (t : List FileL) (d : List UInt8) (s : List FileL) : Except Int (List FileL) :=
  if goodF t = true ∧ goodF s = true then (if Pth.placeL d = true then (match joinF d s with
    | none => .error 10
    | some l => makeF (t ++ l)) else .error 10) else .error 1
def getF (t : List FileL) (p : List UInt8) : List UInt8 × Bool := match t.find? (fun x => decide (x.1 = p)) with
  | none => ([], false)
  | some x => (x.2, true)
theorem cutL_snoc {d : List UInt8} (a : List FileL) (x : FileL) : cutL d (a ++ [x]) = cutL d a ++ (if (undL d x.1).2 = true then [((undL d x.1).1, x.2)] else []) := by
  induction a with
  | nil => rw [List.nil_append, cutL, cutL]; rfl
  | cons y r ih => rw [List.cons_append, cutL, cutL, ih]; split <;> rfl
theorem joinF_snoc {d : List UInt8} {x : FileL} : ∀ {a l : List FileL}, joinF d a = some l → (jnL d x.1).2 = 0 → joinF d (a ++ [x]) = some (l ++ [((jnL d x.1).1, x.2)])
  | [], l, h, hx => by cases h; rw [List.nil_append, joinF, if_pos hx]; rfl
  | y :: r, l, h, hx => by
    rw [joinF] at h
    rw [List.cons_append, joinF]
    split at h
    · rename_i hy
      rw [if_pos hy]
      cases hr : joinF d r with
      | none => rw [hr] at h; cases h
      | some l' => rw [hr] at h; cases h; rw [joinF_snoc hr hx]; rfl
    · cases h
theorem joinF_bad {d : List UInt8} {x : FileL} {a : List FileL} (hx : x ∈ a) (h : (jnL d x.1).2 ≠ 0) : joinF d a = none := by
  induction a with
  | nil => cases hx
  | cons y r ih =>
    rw [joinF]
    rcases List.mem_cons.1 hx with rfl | hx
    · rw [if_neg h]
    · split
      · rw [ih hx]; rfl
      · rfl
theorem joinF_len {d : List UInt8} : ∀ {a l : List FileL}, joinF d a = some l → l.length = a.length
  | [], l, h => by cases h; rfl
  | y :: r, l, h => by
    rw [joinF] at h
    split at h
    · cases hr : joinF d r with
      | none => rw [hr] at h; cases h
      | some l' => rw [hr] at h; cases h; rw [List.length_cons, List.length_cons, joinF_len hr]
    · cases h
theorem cutL_len {d : List UInt8} (a : List FileL) : (cutL d a).length ≤ a.length := by
  induction a with
  | nil => exact Nat.le_refl _
  | cons y r ih => rw [cutL]; split <;> simp only [List.length_cons] <;> omega
theorem jn_cases (d s : List UInt8) : ((jnL d s).2 = 0 ∧ Pth.joinL d s = some (jnL d s).1) ∨ ((jnL d s).2 = 10 ∧ Pth.joinL d s = none) := by
  unfold jnL
  cases Pth.joinL d s with
  | none => exact .inr ⟨rfl, rfl⟩
  | some r => exact .inl ⟨rfl, rfl⟩
theorem jn_short (d s : List UInt8) : (jnL d s).1.length ≤ 128 := by
  unfold jnL
  cases h : Pth.joinL d s with
  | none => simp
  | some r =>
    unfold Pth.joinL at h
    split at h
    · rename_i hg
      cases h
      exact (Pth.goodL_iff.1 hg.2.2).1
    · cases h
theorem und_short {d s : List UInt8} : (undL d s).1.length ≤ s.length := by
  unfold undL
  cases h : Pth.underL d s with
  | none => simp
  | some r =>
    unfold Pth.underL at h
    split at h
    · split at h
      · cases h; exact Nat.le_refl _
      · split at h
        · cases h; rw [List.length_drop]; show _ - _ ≤ _; omega
        · cases h
    · cases h
end Go.Proofs.YthehpmffkkogpaaGreatDoor
