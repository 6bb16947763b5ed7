/- What a sign and a version say of another version. No condition. -/
import Derived.Test.YtaijhebjjbcdfaaGreatDoorSpSignM
import Derived.Test.YtaijhebjjbcdfaaGreatDoorSpCompare
import Derived.Test.YtaijhebjjbcdfaaGreatDoorSpOpen

namespace Go.Proofs.YtaijhebjjbcdfaaGreatDoor
set_option linter.unusedVariables false
open Go.ChangeShapes Go.WideShapes Go.ChangeAt Go.RowKit Go.Lib
def wantF (m n : Int) (p1 p2 : Bool) : List Bool := [decide (n = m), decide (m ≤ n), decide (m < n), decide (n < m), decide (n ≤ m), decide (m ≤ n) && p1, decide (m ≤ n) && p1 && p2]
theorem good_of {a b c : Int} (h : Ver.goodB a b c = true) : 0 ≤ a ∧ a ≤ 999 ∧ 0 ≤ b ∧ b ≤ 999 ∧ 0 ≤ c ∧ c ≤ 999 := by
  unfold Ver.goodB at h
  simpa using h
theorem in_sign {g : GapL} {n : Int} {p : Bool} (h0 : 0 ≤ n) (h9 : n ≤ 999999999) (h : (g.1 ≤ n ∧ n < g.2) ↔ p = true) : inOne (commonG (0, allG) g) n = p := by
  rw [in_common, show inOne (0, allG) n = true from decide_eq_true ⟨h0, by show n < allG; unfold allG; omega⟩, Bool.true_and]
  unfold inOne
  cases p
  · exact decide_eq_false (by simpa using h)
  · exact decide_eq_true (by simpa using h)
theorem sign_val {a b c x y z : Int} (hv : Ver.goodB a b c = true) (hw : Ver.goodB x y z = true) (k : Nat) (hk : k < sgnL.length) (hk' : k < (wantF (Ver.numI a b c) (Ver.numI x y z) (x == a) (y == b)).length) :
    ∃ g, signL sgnL[k] a b c = some g ∧ inOne (commonG (0, allG) g) (Ver.numI x y z) = (wantF (Ver.numI a b c) (Ver.numI x y z) (x == a) (y == b))[k] := by
  have gv := good_of hv
  have gw := good_of hw
  have e1 : Ver.numI a 999 999 = 1000000 * a + 1000 * 999 + 999 := Ver.num_yes (decide_eq_true (by omega))
  have e2 : Ver.numI a b 999 = 1000000 * a + 1000 * b + 999 := Ver.num_yes (decide_eq_true (by omega))
  have e3 := Ver.num_yes hv
  have e4 := Ver.num_yes hw
  have hk7 : k < 7 := hk
  match k, hk7 with
  | 0, _ => exact ⟨_, rfl, (in_sign (p := decide (Ver.numI x y z = Ver.numI a b c)) (by omega) (by omega) (by rw [decide_eq_true_iff]; show (Ver.numI a b c ≤ Ver.numI x y z ∧ Ver.numI x y z < Ver.numI a b c + 1) ↔ _; omega)).trans rfl⟩
  | 1, _ => exact ⟨_, rfl, (in_sign (p := decide (Ver.numI a b c ≤ Ver.numI x y z)) (by omega) (by omega) (by rw [decide_eq_true_iff]; show (Ver.numI a b c ≤ Ver.numI x y z ∧ Ver.numI x y z < 1000000000) ↔ _; omega)).trans rfl⟩
  | 2, _ => exact ⟨_, rfl, (in_sign (p := decide (Ver.numI a b c < Ver.numI x y z)) (by omega) (by omega) (by rw [decide_eq_true_iff]; show (Ver.numI a b c + 1 ≤ Ver.numI x y z ∧ Ver.numI x y z < 1000000000) ↔ _; omega)).trans rfl⟩
  | 3, _ => exact ⟨_, rfl, (in_sign (p := decide (Ver.numI x y z < Ver.numI a b c)) (by omega) (by omega) (by rw [decide_eq_true_iff]; show (0 ≤ Ver.numI x y z ∧ Ver.numI x y z < Ver.numI a b c) ↔ _; omega)).trans rfl⟩
  | 4, _ => exact ⟨_, rfl, (in_sign (p := decide (Ver.numI x y z ≤ Ver.numI a b c)) (by omega) (by omega) (by rw [decide_eq_true_iff]; show (0 ≤ Ver.numI x y z ∧ Ver.numI x y z < Ver.numI a b c + 1) ↔ _; omega)).trans rfl⟩
  | 5, _ => exact ⟨_, rfl, (in_sign (p := (decide (Ver.numI a b c ≤ Ver.numI x y z) && (x == a))) (by omega) (by omega) (by rw [Bool.and_eq_true, decide_eq_true_iff, beq_iff_eq]; show (Ver.numI a b c ≤ Ver.numI x y z ∧ Ver.numI x y z < Ver.numI a 999 999 + 1) ↔ _; omega)).trans rfl⟩
  | 6, _ => exact ⟨_, rfl, (in_sign (p := (decide (Ver.numI a b c ≤ Ver.numI x y z) && (x == a) && (y == b))) (by omega) (by omega) (by rw [Bool.and_eq_true, Bool.and_eq_true, decide_eq_true_iff, beq_iff_eq, beq_iff_eq]; show (Ver.numI a b c ≤ Ver.numI x y z ∧ Ver.numI x y z < Ver.numI a b 999 + 1) ↔ _; omega)).trans rfl⟩
theorem ps_one {s : List UInt8} {g : GapL} {w w' : World} {e : Ending} (hs : s.length ≤ 256) (hn : s ≠ noneT) (hg : gapsL s = some [commonG (0, allG) g]) (h : PsP s w e w') :
    ∃ (q : Option Addr) (m c : Nat) (d : List GapL), e = .returned (.tuple #[.slice q m c, .int .i64 0]) ∧ m = d.length ∧ w'.ownsRow w.heap.size 37 2 (.slice q m c) m (flatG d) ∧ Chg NoB w w' ∧ (∀ g ∈ d, In64 g.1 ∧ In64 g.2) ∧ ∀ n, 0 ≤ n → n < allG → inG d n = inOne (commonG (0, allG) g) n := by
  have hone : ∀ n, inG [commonG (0, allG) g] n = inOne (commonG (0, allG) g) n := fun n => by rw [inG_cons]; simp [inG]
  generalize hh : commonG (0, allG) g = h' at *
  by_cases hlt : h'.1 < h'.2
  · have hb : 0 ≤ h'.1 ∧ h'.2 ≤ allG := by
      rw [← hh]
      show 0 ≤ max 0 g.1 ∧ min allG g.2 ≤ allG
      omega
    have hc : chainG (-1) [h'] = true := chain_cons.2 ⟨⟨by omega, hlt, hb.2⟩, rfl⟩
    obtain ⟨q, c, h1, h2, h3⟩ := ps_ok hs hn hg hc (fun _ _ _ => rfl) (by show 1 ≤ 16; omega) h
    exact ⟨q, 1, c, [h'], h1, rfl, h2, h3, fun x hx => by
      rw [List.mem_singleton] at hx; subst hx; unfold In64; unfold allG at hb; omega, fun n _ _ => hone n⟩
  · obtain ⟨q, c, h1, h2, h3⟩ := ps_ok (l := []) hs hn hg rfl (fun n _ _ => by
      rw [hone n]; exact (decide_eq_false (by omega)).symm) (by decide) h
    exact ⟨q, 0, c, [], h1, rfl, h2, h3, (fun x hx => by cases hx), fun n _ _ => (decide_eq_false (by omega)).symm⟩
end Go.Proofs.YtaijhebjjbcdfaaGreatDoor
