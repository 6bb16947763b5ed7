/- Instructions and numbers in rows of the call's own. No condition. -/
import Derived.Test.YtaihgciokfkonaaDoorCdFind
namespace Go.Proofs.YtaihgciokfkonaaDoor
set_option linter.unusedVariables false
open Go.ChangeShapes Go.WideShapes Go.ChangeAt Go.RowKit
def intsV (l : List Int) : List Value := l.map (Value.int .i64)
theorem intsV_len (l : List Int) : (intsV l).length = l.length := by simp [intsV]
theorem Chg.transR {S S' : Nat → Prop} {a b c : World} (h : Chg S a b) (g : Chg S' b c) (hS : ∀ k, k < a.heap.size → S' k → S k) : Chg S a c :=
  ⟨g.os.trans h.os, g.tape.trans h.tape, g.output.trans h.output, Nat.le_trans h.size g.size, fun k hk hs => (g.block k (Nat.lt_of_lt_of_le hk h.size) fun x => hs (hS k hk x)).trans (h.block k hk hs)⟩
theorem insInfo : (Tryd.prog.info? 38).map (fun i => (i.zero, i.size, i.bytes)) = some (some (.agg #[.int .i64 0, .int .i64 0, .string ⟨#[]⟩]), 3, 32) := by kernel_rfl
/- the cells of instructions, one behind the other -/
def flatI : List InsL → List Value
  | [] => []
  | x :: r => .int .i64 x.op :: .int .i64 x.n :: .string (tx x.s) :: flatI r
theorem flatI_app (a b : List InsL) : flatI (a ++ b) = flatI a ++ flatI b := by
  induction a with
  | nil => rfl
  | cons x r ih => simp [flatI, ih]
theorem flatI_len (a : List InsL) : (flatI a).length = a.length * 3 := by
  induction a with
  | nil => rfl
  | cons x r ih => rw [flatI, List.length_cons, List.length_cons, List.length_cons, ih, List.length_cons]; omega
theorem flatI_one (a : List InsL) : ∀ u ∈ flatI a, u.oneCell' = true := by
  induction a with
  | nil => intro u hu; simp [flatI] at hu
  | cons x r ih =>
    intro u hu
    simp only [flatI, List.mem_cons] at hu
    rcases hu with rfl | rfl | rfl | hu
    · rfl
    · rfl
    · rfl
    · exact ih u hu
theorem flatI_at : ∀ (a : List InsL) (i : Nat) (hi : i < a.length), (flatI a)[i * 3]? = some (.int .i64 a[i].op) ∧ (flatI a)[i * 3 + 1]? = some (.int .i64 a[i].n) ∧ (flatI a)[i * 3 + 2]? = some (.string (tx a[i].s))
  | x :: r, 0, _ => ⟨rfl, rfl, rfl⟩
  | x :: r, i + 1, hi => by
    obtain ⟨h1, h2, h3⟩ := flatI_at r i (by simpa using hi)
    have e : (i + 1) * 3 = i * 3 + 3 := by omega
    refine ⟨?_, ?_, ?_⟩
    · rw [e]; simpa [flatI] using h1
    · rw [e]; simpa [flatI] using h2
    · rw [e]; simpa [flatI] using h3
/- a row of the call's own is a list of instructions -/
theorem InsS.of_row {w : World} {lo : Nat} {v : Value} {ps : List InsL} (h : w.ownsRow lo 38 3 v ps.length (flatI ps)) (hw : ∀ i (hi : i < ps.length), ps[i].wf) : ∃ kb, InsS w (fun k => lo ≤ k ∧ k < w.heap.size) v ps kb 0 := by
  have hlt := World.ownsRow.lt h
  have hcl := fun g hg => World.ownsRow.cells (g := g) h hg
  rcases h.2 with ⟨rfl, h0⟩ | ⟨g, cap, cur, rfl, hb, hh, h3, h4, _⟩
  · have : ps = [] := List.eq_nil_of_length_eq_zero h0
    subst this
    exact ⟨0, ⟨⟨none, 0, rfl, Nat.le_refl _, Nat.zero_le _, fun h => absurd rfl h⟩, fun i hi => by simp at hi⟩⟩
  · refine ⟨g, ⟨⟨_, cap, rfl, h3, h4, fun _ => ⟨rfl, hlt g rfl⟩⟩, fun i hi => ?_⟩⟩
    obtain ⟨g0, g1, g2⟩ := flatI_at ps i hi
    rw [Nat.zero_add]
    refine ⟨hw i hi, ?_, ?_, ?_⟩
    · have := hcl g rfl _ _ g0; rwa [add_zero_off] at this
    · have := hcl g rfl _ _ g1; rwa [add_zero_off] at this
    · have := hcl g rfl _ _ g2; rwa [add_zero_off] at this
/- a part of a list, as the cells that an append reads -/
theorem InsS.news {w : World} {S : Nat → Prop} {v : Value} {ps : List InsL} {kb ko : Nat} (h : InsS w S v ps kb ko) (from' : Nat) (m : Nat) (hm : from' + m ≤ ps.length) :
    ∀ j u, (flatI ((ps.drop from').take m))[j]? = some u → w.cell? ((⟨kb, ko + from' * 3, none⟩ : Addr).add j) = some u := by
  intro j u hj
  have hlen : ((ps.drop from').take m).length = m := by rw [List.length_take, List.length_drop]; omega
  have hjl : j < m * 3 := by
    have : j < (flatI ((ps.drop from').take m)).length := by
      rcases Nat.lt_or_ge j (flatI ((ps.drop from').take m)).length with h | h
      · exact h
      · rw [List.getElem?_eq_none h] at hj; cases hj
    rw [flatI_len, hlen] at this
    exact this
  have hi : j / 3 < m := by omega
  obtain ⟨g0, g1, g2⟩ := flatI_at ((ps.drop from').take m) (j / 3) (by rw [hlen]; exact hi)
  have hx : ((ps.drop from').take m)[j / 3]'(by rw [hlen]; exact hi) = ps[from' + j / 3]'(by omega) := by rw [List.getElem_take, List.getElem_drop]
  rw [hx] at g0 g1 g2
  obtain ⟨-, c0, c1, c2⟩ := h.at' (from' + j / 3) (by omega)
  rw [Go.WideShapes.add_plain]
  have hr : j = j / 3 * 3 ∨ j = j / 3 * 3 + 1 ∨ j = j / 3 * 3 + 2 := by omega
  rcases hr with r | r | r
  · rw [r, g0] at hj
    rw [← Option.some.inj hj, ← c0]
    congr 2
    omega
  · rw [r, g1] at hj
    rw [← Option.some.inj hj, ← c1]
    congr 2
    omega
  · rw [r, g2] at hj
    rw [← Option.some.inj hj, ← c2]
    congr 2
    omega
end Go.Proofs.YtaihgciokfkonaaDoor
