/- Trees and files as the form reads them; the library's variables. Condition: the form's own bound on what is reached. -/
import Derived.Test.YtnbdjficoficcaaDoorTrFrame
import Derived.Stop.LaidErr
namespace Go.Proofs.YtnbdjficoficcaaDoor
set_option linter.unusedVariables false
open Go.ChangeShapes Go.WideShapes Go.ChangeAt Go.RowKit
theorem treeCells : Tryd.prog.cellsOf 27 = 1 := by kernel_rfl
set_option maxRecDepth 20000 in
theorem tree_trod {H : Type} {enc : TypeId × Value → H} {W : World} (fuel : Nat) (cs : List Value) (x : DataW H × List MemPlace) (h : DataW.trod enc Tryd.prog W 0 (fun _ => true) true fuel 27 cs = some x) :
    ∃ c : Value, cs = [c] ∧ ∃ fuel' y, DataW.trod enc Tryd.prog W 0 (fun _ => true) true fuel' 25 [c] = some y ∧ ∀ m ∈ y.1.weights Tryd.prog 25, m ∈ x.1.weights Tryd.prog 27 := by
  obtain ⟨xs, m, hfm, rfl, hl, hlen, hf⟩ := DataW.trod_struct Tryd.underlying27 h
  rw [treeCells] at hl
  match cs, hl with
  | [c0], _ =>
    have hl1 : xs.length = 1 := hlen
    match xs, hl1 with
    | [y0], _ =>
      have h0 : DataW.trod enc Tryd.prog W 0 (fun _ => true) true m 25 (([c0].drop 0).take (Tryd.prog.cellsOf 25)) = some y0 := hf 0 _ rfl
      rw [insCells1] at h0
      have h0 : DataW.trod enc Tryd.prog W 0 (fun _ => true) true m 25 [c0] = some y0 := h0
      refine ⟨c0, rfl, m, y0, h0, fun k hk => ?_⟩
      simp only [List.map_cons, List.map_nil, DataW.weights, Tryd.underlying27, DataW.weightsEach, List.mem_append]
      exact .inl hk
set_option maxRecDepth 100000 in
theorem open_tree {H : Type} {enc : TypeId × Value → H} {W : World} {base : Nat} {v : Value} {d : DataW H} {p : List MemPlace} (hv : Value.okWide Tryd.prog W .any base 27 v) (h : DataW.Trod enc Tryd.prog W 0 (fun _ => true) true 27 v d p)
    (hwt : ∀ m ∈ d.weights Tryd.prog 27, m ≤ reachBytes) : ∃ (ps : List FileL) (c : Value) (kb ko : Nat), v = .agg #[c] ∧ InpS W (OldB W) c ps kb ko ∧ Reach ps := by
  obtain ⟨cs, rfl, hsz⟩ := okWide_struct Tryd.underlying27 hv
  obtain ⟨fuel, hf⟩ := h
  obtain ⟨c, hcs, fuel', y, hy, hm⟩ := tree_trod fuel _ _ hf
  obtain ⟨ps, kb, ko, hps, hl, hlens⟩ := open_inps hy fun m hmm => hwt m (hm m hmm)
  refine ⟨ps, c, kb, ko, ?_, hps, hl, hlens⟩
  congr 1
  apply Array.ext'
  simpa [Value.cells] using hcs
set_option maxRecDepth 100000 in
theorem tree_stays {H : Type} {enc : TypeId × Value → H} {W W' : World} {v : Value} {d : DataW H} {p : List MemPlace} (h : DataW.Trod enc Tryd.prog W 0 (fun _ => true) true 27 v d p) (hb : Below W.heap.size W W') :
    DataW.Trod enc Tryd.prog W' 0 (fun b => decide (b < W.heap.size)) true 27 v d p :=
  Below.trod laidOut (by kernel_rfl) (of_decide_eq_true (by kernel_rfl)) h hb (by obtain ⟨m, hm⟩ := h; exact DataW.trod_lt m _ _ _ hm)
def ReachF (f : FileL) : Prop := f.1.length ≤ 140737488351232 ∧ f.2.length ≤ 140737488351232
set_option maxRecDepth 100000 in
theorem open_file {H : Type} {enc : TypeId × Value → H} {W : World} {base : Nat} {v : Value} {d : DataW H} {p : List MemPlace} (hv : Value.okWide Tryd.prog W .any base 47 v) (h : DataW.Trod enc Tryd.prog W 0 (fun _ => true) true 47 v d p)
    (hwt : ∀ m ∈ d.weights Tryd.prog 47, m ≤ reachBytes) : ∃ f : FileL, v = .agg #[.string (tx f.1), .string (tx f.2)] ∧ ReachF f := by
  obtain ⟨cs, rfl, hsz⟩ := okWide_struct Tryd.underlying47 hv
  obtain ⟨fuel, hf⟩ := h
  obtain ⟨s, u, hcs, w1, w2⟩ := inp_trod fuel _ _ hf
  have hrb : reachBytes = 140737488351232 := by decide
  have h1 := hwt _ w1
  have h2 := hwt _ w2
  refine ⟨⟨s.data.toList, u.data.toList⟩, ?_, by show s.data.toList.length ≤ _; omega, by show u.data.toList.length ≤ _; omega⟩
  rw [tx_back, tx_back]
  congr 1
  apply Array.ext'
  simpa [Value.cells] using hcs
set_option maxRecDepth 100000 in
theorem file_stays {H : Type} {enc : TypeId × Value → H} {W W' : World} {v : Value} {d : DataW H} {p : List MemPlace} (h : DataW.Trod enc Tryd.prog W 0 (fun _ => true) true 47 v d p) (hb : Below W.heap.size W W') :
    DataW.Trod enc Tryd.prog W' 0 (fun b => decide (b < W.heap.size)) true 47 v d p :=
  Below.trod laidOut (by kernel_rfl) (of_decide_eq_true (by kernel_rfl)) h hb (by obtain ⟨m, hm⟩ := h; exact DataW.trod_lt m _ _ _ hm)
theorem star_es : "*" ++ "errors.errorString" = "*errors.errorString" := by decide
end Go.Proofs.YtnbdjficoficcaaDoor
