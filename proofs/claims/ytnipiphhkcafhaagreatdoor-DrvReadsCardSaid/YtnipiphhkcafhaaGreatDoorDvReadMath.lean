/- The document's Decode of a build, in lists: it answers as the program's. No condition. -/
import Derived.Test.YtnipiphhkcafhaaGreatDoorDvMath
namespace Go.Proofs.YtnipiphhkcafhaaGreatDoor
set_option linter.unusedVariables false
open Go.ChangeShapes Go.WideShapes Go.ChangeAt Go.RowKit
/- an input out of a node of two, whatever they are -/
def rawIn (k : Nd) : Option (List UInt8 × List UInt8) := match k.kids with
  | [x, y] => some (atL x, atL y)
  | _ => none
def rawIns : List Nd → Option (List (List UInt8 × List UInt8))
  | [] => some []
  | k :: r => match rawIn k with
    | none => none
    | some x => (rawIns r).map (x :: ·)
def rawV (l : List UInt8) : Nat × Nat × Nat := (Ver.verL l).getD (0, 0, 0)
def rawD (n : Nd) : Option DrvL := match n.kids with
  | [_, k1, k2, k3, k4] => (rawIns k4.kids).map fun l => ⟨atL k1, (rawV (atL k2)).1, (rawV (atL k2)).2.1, (rawV (atL k2)).2.2, atL k3, l⟩
  | _ => none
theorem rawIns_form (l : List (List UInt8 × List UInt8)) : rawIns (l.map inputF) = some l := by
  induction l with
  | nil => rfl
  | cons x r ih =>
    have h : rawIn (inputF x) = some x := by
      unfold rawIn inputF
      simp only [Nd.kids]
      rw [atL_atomF, atL_atomF]
    rw [List.map_cons, rawIns, h]
    simp only
    rw [ih]
    rfl
theorem raw_form {d : DrvL} (hg : goodD d = true) : rawD (nodeD d) = some d := by
  obtain ⟨name, a, b, c, tool, l⟩ := d
  unfold goodD at hg
  simp only [Bool.and_eq_true] at hg
  obtain ⟨a0, a1, b0, b1, c0, c1⟩ := Ver.good_iff.1 hg.2.1
  obtain ⟨a, rfl⟩ := Int.eq_ofNat_of_zero_le a0
  obtain ⟨b, rfl⟩ := Int.eq_ofNat_of_zero_le b0
  obtain ⟨c, rfl⟩ := Int.eq_ofNat_of_zero_le c0
  unfold rawD nodeD rawV
  simp only [Nd.kids, Int.toNat_natCast]
  rw [rawIns_form, atL_atomF, atL_atomF, atL_atomF, Ver.verL_dot (by omega) (by omega) (by omega)]
  rfl
theorem decD_raw_none {s : List UInt8} {n : Nd} (h : decR s = .ok n) (hr : rawD n = none) : decD s = .error 5 :=
  decD_five h fun d hn hg => by
    have := raw_form hg
    rw [← hn, hr] at this
    cases this
theorem decD_raw_ok {s : List UInt8} {n : Nd} {d : DrvL} (h : decR s = .ok n) (hg : goodD d = true) (hn : n = nodeD d) : decD s = .ok d :=
  decD_of (by rw [h, hn]) hg
theorem decD_raw_bad {s : List UInt8} {n : Nd} {d : DrvL} (h : decR s = .ok n) (hr : rawD n = some d) (hb : ¬ (goodD d = true ∧ n = nodeD d)) : decD s = .error 5 :=
  decD_five h fun d' hn hg => by
    have := raw_form hg
    rw [← hn, hr] at this
    cases this
    exact hb ⟨hg, hn⟩
theorem rawIns_snoc {a : List Nd} {k : Nd} {x : List UInt8 × List UInt8} : ∀ {l : List (List UInt8 × List UInt8)}, rawIns a = some l → rawIn k = some x → rawIns (a ++ [k]) = some (l ++ [x]) := by
  induction a with
  | nil => intro l h1 h2; cases h1; rw [List.nil_append, rawIns, h2]; rfl
  | cons y r ih =>
    intro l h1 h2
    rw [rawIns] at h1
    rw [List.cons_append, rawIns]
    split at h1
    · cases h1
    · rename_i z hz
      cases hr : rawIns r with
      | none => rw [hr] at h1; cases h1
      | some l' =>
        rw [hr] at h1
        cases h1
        rw [ih hr h2]
        rfl
theorem rawIns_bad {ks : List Nd} {k : Nd} (hk : k ∈ ks) (h : rawIn k = none) : rawIns ks = none := by
  induction ks with
  | nil => cases hk
  | cons y r ih =>
    rw [rawIns]
    rcases List.mem_cons.1 hk with rfl | hk
    · rw [h]
    · split
      · rfl
      · rw [ih hk]; rfl
theorem raw_no5 {n : Nd} (h : n.kids.length ≠ 5) : rawD n = none := by
  unfold rawD
  split
  · rename_i h'
    rw [h'] at h
    exact absurd rfl h
  · rfl
end Go.Proofs.YtnipiphhkcafhaaGreatDoor
