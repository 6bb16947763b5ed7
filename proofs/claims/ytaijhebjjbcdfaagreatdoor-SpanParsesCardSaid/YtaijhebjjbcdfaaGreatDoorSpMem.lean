/- Rows of gaps in memory. No condition. -/
import Derived.Test.YtaijhebjjbcdfaaGreatDoorBase
import Derived.Test.YtaijhebjjbcdfaaGreatDoorSpMath

namespace Go.Proofs.YtaijhebjjbcdfaaGreatDoor
set_option linter.unusedVariables false
open Go.ChangeShapes Go.WideShapes Go.ChangeAt Go.RowKit
def encG (g : GapL) : List Value := [.int .i64 g.1, .int .i64 g.2]
def flatG : List GapL → List Value
  | [] => []
  | g :: r => .int .i64 g.1 :: .int .i64 g.2 :: flatG r
theorem flatG_len : ∀ l : List GapL, (flatG l).length = l.length * 2
  | [] => rfl
  | g :: r => by simp only [flatG, List.length_cons, flatG_len r]; omega
theorem flatG_app : ∀ a b : List GapL, flatG (a ++ b) = flatG a ++ flatG b
  | [], b => rfl
  | g :: r, b => by simp only [List.cons_append, flatG, flatG_app r b]
theorem flatG_at : ∀ (l : List GapL) (i : Nat) (h : i < l.length), (flatG l)[i * 2]? = some (.int .i64 l[i].1) ∧ (flatG l)[i * 2 + 1]? = some (.int .i64 l[i].2)
  | g :: r, 0, _ => ⟨rfl, rfl⟩
  | g :: r, i + 1, h => by
    have := flatG_at r i (by simpa using h)
    have e : (i + 1) * 2 = i * 2 + 2 := by omega
    rw [e]
    exact this
theorem flatG_one : ∀ l : List GapL, ∀ u ∈ flatG l, u.oneCell' = true
  | [], u, h => by cases h
  | g :: r, u, h => by
    simp only [flatG, List.mem_cons] at h
    rcases h with rfl | rfl | h
    · rfl
    · rfl
    · exact flatG_one r u h
theorem flatG_take : ∀ (l : List GapL) (n : Nat), flatG (l.take n) = (flatG l).take (n * 2)
  | [], n => by simp [flatG]
  | g :: r, 0 => by simp [flatG]
  | g :: r, n + 1 => by
    have e : (n + 1) * 2 = n * 2 + 2 := by omega
    rw [e, List.take_succ_cons]
    simp only [flatG, List.take_succ_cons, flatG_take r n]
theorem flatG_set : ∀ (l : List GapL) (n : Nat) (g : GapL), n < l.length → flatG (l.set n g) = ((flatG l).set (n * 2) (.int .i64 g.1)).set (n * 2 + 1) (.int .i64 g.2)
  | x :: r, 0, g, _ => rfl
  | x :: r, n + 1, g, h => by
    have e : (n + 1) * 2 = n * 2 + 2 := by omega
    rw [e, List.set_cons_succ]
    simp only [flatG, List.set_cons_succ]
    rw [flatG_set r n g (by simpa using h)]
def In64 (n : Int) : Prop := -9223372036854775808 ≤ n ∧ n ≤ 9223372036854775807
structure GapS (w : World) (S : Nat → Prop) (v : Value) (l : List GapL) (kb ko : Nat) : Prop where
  sh : ∃ q c, v = .slice q l.length c ∧ l.length ≤ c ∧ c ≤ maxLen ∧ (l ≠ [] → q = some ⟨kb, ko, none⟩ ∧ S kb)
  at' : ∀ i (hi : i < l.length), w.cell? ⟨kb, ko + i * 2, none⟩ = some (.int .i64 l[i].1) ∧ w.cell? ⟨kb, ko + i * 2 + 1, none⟩ = some (.int .i64 l[i].2)
  wf : ∀ g ∈ l, In64 g.1 ∧ In64 g.2
theorem GapS.keep {w w' : World} {S T : Nat → Prop} (hc : Chg T w w') (hST : ∀ k, S k → ¬ T k) {v : Value} {l : List GapL} {kb ko : Nat} (h : GapS w S v l kb ko) : GapS w' S v l kb ko := by
  obtain ⟨hsh, hat, hwf⟩ := h
  refine ⟨hsh, fun i hi => ?_, hwf⟩
  obtain ⟨q, c, _, _, _, hq⟩ := hsh
  have hne : l ≠ [] := by rintro rfl; simp at hi
  have hS := hST kb (hq hne).2
  exact ⟨hc.cell (hat i hi).1 hS, hc.cell (hat i hi).2 hS⟩
theorem GapS.mono {w : World} {S T : Nat → Prop} (hST : ∀ k, S k → T k) {v : Value} {l : List GapL} {kb ko : Nat} (h : GapS w S v l kb ko) : GapS w T v l kb ko := by
  obtain ⟨⟨q, c, h1, h2, h3, h4⟩, hat, hwf⟩ := h
  exact ⟨⟨q, c, h1, h2, h3, fun hn => ⟨(h4 hn).1, hST _ (h4 hn).2⟩⟩, hat, hwf⟩
theorem GapS.nil (w : World) (S : Nat → Prop) : GapS w S (.slice none 0 0) [] 0 0 := ⟨⟨none, 0, rfl, Nat.le_refl _, Nat.zero_le _, fun h => absurd rfl h⟩, fun i hi => by simp at hi, fun g hg => by cases hg⟩
theorem GapS.of_row {w : World} {lo n : Nat} {v : Value} {l : List GapL} (h : w.ownsRow lo 37 2 v n (flatG l)) (hn : n = l.length) (hw : ∀ g ∈ l, In64 g.1 ∧ In64 g.2) : ∃ kb, GapS w (fun k => lo ≤ k ∧ k < w.heap.size) v l kb 0 := by
  subst hn
  have hlt := World.ownsRow.lt h
  have hcl := fun g hg => World.ownsRow.cells (g := g) h hg
  rcases h.2 with ⟨rfl, h0⟩ | ⟨g, cap, cur, rfl, hb, hh, h3, h4, _⟩
  · have : l = [] := List.eq_nil_of_length_eq_zero h0
    subst this
    exact ⟨0, GapS.nil _ _⟩
  · refine ⟨g, ⟨⟨_, cap, rfl, h3, h4, fun _ => ⟨rfl, hlt g rfl⟩⟩, fun i hi => ?_, hw⟩⟩
    obtain ⟨g0, g1⟩ := flatG_at l i hi
    rw [Nat.zero_add]
    refine ⟨?_, ?_⟩
    · have := hcl g rfl _ _ g0; rwa [add_zero_off] at this
    · have := hcl g rfl _ _ g1; rwa [add_zero_off] at this
theorem GapS.news {w : World} {S : Nat → Prop} {q : Option Addr} {n c : Nat} {l : List GapL} {kb ko : Nat} (h : GapS w S (.slice q n c) l kb ko) : (∃ a, q = some a ∧ ∀ j u, (flatG l)[j]? = some u → w.cell? (a.add j) = some u) ∨ (q = none ∧ l.length = 0 ∧ flatG l = []) := by
  obtain ⟨⟨q', c', e', h1, h2, h3⟩, hat, -⟩ := h
  cases e'
  by_cases h0 : l = []
  · subst h0
    cases q with
    | none => exact .inr ⟨rfl, rfl, rfl⟩
    | some a => exact .inl ⟨a, rfl, fun j u hj => by simp [flatG] at hj⟩
  · obtain ⟨rfl, -⟩ := h3 h0
    refine .inl ⟨_, rfl, fun j u hj => ?_⟩
    have hlt : j < (flatG l).length := (List.getElem?_eq_some_iff.1 hj).1
    rw [flatG_len] at hlt
    have hd : j / 2 < l.length := by omega
    obtain ⟨g0, g1⟩ := flatG_at l (j / 2) hd
    obtain ⟨c0, c1⟩ := hat (j / 2) hd
    rw [Go.WideShapes.add_plain]
    rcases Nat.mod_two_eq_zero_or_one j with hm | hm
    · have e2 : j / 2 * 2 = j := by omega
      rw [e2] at g0 c0
      rw [g0] at hj
      cases hj
      exact c0
    · have e2 : j / 2 * 2 + 1 = j := by omega
      rw [e2] at g1
      rw [Nat.add_assoc, e2] at c1
      rw [g1] at hj
      cases hj
      exact c1
theorem gapInfo : (Tryz.prog.info? 37).map (fun i => (i.zero, i.size, i.bytes)) = some (some (.agg #[.int .i64 0, .int .i64 0]), 2, 16) := by kernel_rfl
end Go.Proofs.YtaijhebjjbcdfaaGreatDoor
