/- Rows of numbers that came in. Condition: the form's own bound on what is reached. -/
import Derived.Test.YtdgcpgbknfojhaaDoorBaseF
namespace Go.Proofs.YtdgcpgbknfojhaaDoor
set_option linter.unusedVariables false
open Go.ChangeShapes Go.WideShapes Go.ChangeAt Go.RowKit
structure NumS (w : World) (S : Nat → Prop) (v : Value) (l : List Int) (kb ko : Nat) : Prop where
  sh : ∃ q c, v = .slice q l.length c ∧ l.length ≤ c ∧ c ≤ maxLen ∧ (l ≠ [] → q = some ⟨kb, ko, none⟩ ∧ S kb)
  at' : ∀ i (hi : i < l.length), w.cell? ⟨kb, ko + i, none⟩ = some (.int .i64 l[i]) ∧ -9223372036854775808 ≤ l[i] ∧ l[i] ≤ 9223372036854775807
theorem NumS.keep {w w' : World} {S T : Nat → Prop} (hc : Chg T w w') (hST : ∀ k, S k → ¬ T k) {v : Value} {l : List Int} {kb ko : Nat} (h : NumS w S v l kb ko) : NumS w' S v l kb ko := by
  obtain ⟨hsh, hat⟩ := h
  refine ⟨hsh, fun i hi => ?_⟩
  obtain ⟨q, c, _, _, _, hq⟩ := hsh
  have hne : l ≠ [] := by rintro rfl; simp at hi
  have hS := hST kb (hq hne).2
  exact ⟨hc.cell (hat i hi).1 hS, (hat i hi).2⟩
set_option maxRecDepth 100000 in
theorem open_ints {H : Type} {enc : TypeId × Value → H} {W : World} {base : Nat} {v : Value} {d : DataW H} {p : List MemPlace} (hv : Value.okWide Tryd.prog W .any base 39 v) (h : DataW.Trod enc Tryd.prog W 0 (fun _ => true) true 39 v d p)
    (hwt : ∀ m ∈ d.weights Tryd.prog 39, m ≤ reachBytes) : ∃ ts kb ko, NumS W (OldB W) v ts kb ko := by
  obtain ⟨a0, len0, cap0, rfl⟩ := okWide_slice Tryd.underlying39 hv
  obtain ⟨fuel, hf⟩ := h
  have hf : DataW.trod enc Tryd.prog W 0 (fun _ => true) true fuel 39 [.slice a0 len0 cap0] = some (d, p) := by simpa [Value.cells] using hf
  have intCells : Tryd.prog.cellsOf 3 = 1 := by kernel_rfl
  rcases DataW.trod_slice Tryd.underlying39 hf with ⟨e, _⟩ | ⟨a, len, cap, elems, rest, n, hfn, e, hx, _, hl, hm, hlen, hel, _, _⟩
  · simp only [List.cons.injEq, and_true] at e
    rw [e]
    exact ⟨[], 0, 0, ⟨⟨none, 0, rfl, Nat.le_refl _, Nat.zero_le _, fun h => absurd rfl h⟩, fun i hi => by simp at hi⟩⟩
  · simp only [List.cons.injEq, and_true] at e
    rw [e]
    have hins : ∀ i, i < len → ∃ x : Int, (-9223372036854775808 ≤ x ∧ x ≤ 9223372036854775807) ∧ W.cells? 0 (a.add (i * 1)) 1 = some [.int .i64 x] := by
      intro i hi
      have h1 := hel i hi
      rw [intCells, List.getElem?_eq_getElem (by omega)] at h1
      cases hc : W.cells? 0 (a.add (i * 1)) 1 with
      | none => rw [hc] at h1; simp at h1
      | some cs' =>
        rw [hc] at h1
        simp only [Option.bind_some] at h1
        obtain ⟨x, e0, _, w0⟩ := DataW.trod_int Tryd.underlying3 h1
        exact ⟨x, bounds_i64 w0, by rw [e0]⟩
    obtain ⟨ts, htl, hts⟩ := choose_list len hins
    by_cases h0 : len = 0
    · have : ts = [] := List.eq_nil_of_length_eq_zero (by omega)
      subst this
      exact ⟨[], 0, 0, ⟨⟨some a, cap, by rw [h0]; rfl, by simp, hm, fun h => absurd rfl h⟩, fun i hi => by simp at hi⟩⟩
    · have ha : ∃ b off, a = ⟨b, off, none⟩ := by
        obtain ⟨_, h1⟩ := hts 0 (by omega)
        obtain ⟨_, _, h2⟩ := World.cells?_some h1
        have h3 := World.cell?_spot (h2 0 (by decide))
        obtain ⟨b, off, spot⟩ := a
        refine ⟨b, off, ?_⟩
        have : spot = none := by simpa [Addr.add] using h3
        rw [this]
      obtain ⟨b, off, rfl⟩ := ha
      have hcell : ∀ i (hi : i < ts.length), W.cell? ⟨b, off + i, none⟩ = some (.int .i64 ts[i]) ∧ -9223372036854775808 ≤ ts[i] ∧ ts[i] ≤ 9223372036854775807 := by
        intro i hi
        obtain ⟨hb, h1⟩ := hts i hi
        obtain ⟨_, _, h2⟩ := World.cells?_some h1
        have e0 := h2 0 (by decide)
        rw [Go.WideShapes.add_plain, Go.WideShapes.add_plain, Nat.mul_one] at e0
        exact ⟨e0, hb⟩
      refine ⟨ts, b, off, ⟨⟨_, cap, by rw [htl], by omega, hm, fun _ => ⟨rfl, ?_⟩⟩, hcell⟩⟩
      exact World.block_lt_of_cell? W _ (hcell 0 (by omega)).1
set_option maxRecDepth 100000 in
theorem ints_stay {H : Type} {enc : TypeId × Value → H} {W W' : World} {v : Value} {d : DataW H} {p : List MemPlace} (h : DataW.Trod enc Tryd.prog W 0 (fun _ => true) true 39 v d p) (hb : Below W.heap.size W W') :
    DataW.Trod enc Tryd.prog W' 0 (fun b => decide (b < W.heap.size)) true 39 v d p :=
  Below.trod laidOut (by kernel_rfl) (of_decide_eq_true (by kernel_rfl)) h hb (by obtain ⟨m, hm⟩ := h; exact DataW.trod_lt m _ _ _ hm)
end Go.Proofs.YtdgcpgbknfojhaaDoor
