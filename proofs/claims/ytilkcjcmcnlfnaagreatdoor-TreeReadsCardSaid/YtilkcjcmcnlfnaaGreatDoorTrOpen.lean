/- Trees and files as the form reads them; the library's variables. Condition: the form's own bound on what is reached. -/
import Derived.Test.YtilkcjcmcnlfnaaGreatDoorTrFrame
import Derived.Stop.LaidErr
namespace Go.Proofs.YtilkcjcmcnlfnaaGreatDoor
set_option linter.unusedVariables false
open Go.ChangeShapes Go.WideShapes Go.ChangeAt Go.RowKit
theorem treeCells : Tryz.prog.cellsOf 26 = 1 := by kernel_rfl
set_option maxRecDepth 20000 in
theorem tree_trod {H : Type} {enc : TypeId × Value → H} {W : World} (fuel : Nat) (cs : List Value) (x : DataW H × List MemPlace) (h : DataW.trod enc Tryz.prog W 0 (fun _ => true) true fuel 26 cs = some x) :
    ∃ c : Value, cs = [c] ∧ ∃ fuel' y, DataW.trod enc Tryz.prog W 0 (fun _ => true) true fuel' 22 [c] = some y ∧ ∀ m ∈ y.1.weights Tryz.prog 22, m ∈ x.1.weights Tryz.prog 26 := by
  obtain ⟨xs, m, hfm, rfl, hl, hlen, hf⟩ := DataW.trod_struct Tryz.underlying26 h
  rw [treeCells] at hl
  match cs, hl with
  | [c0], _ =>
    have hl1 : xs.length = 1 := hlen
    match xs, hl1 with
    | [y0], _ =>
      have h0 : DataW.trod enc Tryz.prog W 0 (fun _ => true) true m 22 (([c0].drop 0).take (Tryz.prog.cellsOf 22)) = some y0 := hf 0 _ rfl
      rw [insCells1] at h0
      have h0 : DataW.trod enc Tryz.prog W 0 (fun _ => true) true m 22 [c0] = some y0 := h0
      refine ⟨c0, rfl, m, y0, h0, fun k hk => ?_⟩
      simp only [List.map_cons, List.map_nil, DataW.weights, Tryz.underlying26, DataW.weightsEach, List.mem_append]
      exact .inl hk
set_option maxRecDepth 100000 in
theorem open_tree {H : Type} {enc : TypeId × Value → H} {W : World} {base : Nat} {v : Value} {d : DataW H} {p : List MemPlace} (hv : Value.okWide Tryz.prog W .any base 26 v) (h : DataW.Trod enc Tryz.prog W 0 (fun _ => true) true 26 v d p)
    (hwt : ∀ m ∈ d.weights Tryz.prog 26, m ≤ reachBytes) : ∃ (ps : List FileL) (c : Value) (kb ko : Nat), v = .agg #[c] ∧ InpS W (OldB W) c ps kb ko ∧ Reach ps := by
  obtain ⟨cs, rfl, hsz⟩ := okWide_struct Tryz.underlying26 hv
  obtain ⟨fuel, hf⟩ := h
  obtain ⟨c, hcs, fuel', y, hy, hm⟩ := tree_trod fuel _ _ hf
  obtain ⟨ps, kb, ko, hps, hl, hlens⟩ := open_inps hy fun m hmm => hwt m (hm m hmm)
  refine ⟨ps, c, kb, ko, ?_, hps, hl, hlens⟩
  congr 1
  apply Array.ext'
  simpa [Value.cells] using hcs
set_option maxRecDepth 100000 in
theorem tree_stays {H : Type} {enc : TypeId × Value → H} {W W' : World} {v : Value} {d : DataW H} {p : List MemPlace} (h : DataW.Trod enc Tryz.prog W 0 (fun _ => true) true 26 v d p) (hb : Below W.heap.size W W') :
    DataW.Trod enc Tryz.prog W' 0 (fun b => decide (b < W.heap.size)) true 26 v d p :=
  Below.trod laidOut (by kernel_rfl) (of_decide_eq_true (by kernel_rfl)) h hb (by obtain ⟨m, hm⟩ := h; exact DataW.trod_lt m _ _ _ hm)
def ReachF (f : FileL) : Prop := f.1.length ≤ 140737488351232 ∧ f.2.length ≤ 140737488351232
set_option maxRecDepth 100000 in
theorem open_file {H : Type} {enc : TypeId × Value → H} {W : World} {base : Nat} {v : Value} {d : DataW H} {p : List MemPlace} (hv : Value.okWide Tryz.prog W .any base 33 v) (h : DataW.Trod enc Tryz.prog W 0 (fun _ => true) true 33 v d p)
    (hwt : ∀ m ∈ d.weights Tryz.prog 33, m ≤ reachBytes) : ∃ f : FileL, v = .agg #[.string (tx f.1), .string (tx f.2)] ∧ ReachF f := by
  obtain ⟨cs, rfl, hsz⟩ := okWide_struct Tryz.underlying33 hv
  obtain ⟨fuel, hf⟩ := h
  obtain ⟨s, u, hcs, w1, w2⟩ := inp_trod fuel _ _ hf
  have hrb : reachBytes = 140737488351232 := by decide
  have h1 := hwt _ w1
  have h2 := hwt _ w2
  refine ⟨⟨s.data.toList, u.data.toList⟩, ?_, by show s.data.toList.length ≤ _; omega, by show u.data.toList.length ≤ _; omega⟩
  rw [tx_back, tx_back]
  congr 1
  apply Array.ext'
  simpa [Value.cells] using hcs
set_option maxRecDepth 100000 in
theorem file_stays {H : Type} {enc : TypeId × Value → H} {W W' : World} {v : Value} {d : DataW H} {p : List MemPlace} (h : DataW.Trod enc Tryz.prog W 0 (fun _ => true) true 33 v d p) (hb : Below W.heap.size W W') :
    DataW.Trod enc Tryz.prog W' 0 (fun b => decide (b < W.heap.size)) true 33 v d p :=
  Below.trod laidOut (by kernel_rfl) (of_decide_eq_true (by kernel_rfl)) h hb (by obtain ⟨m, hm⟩ := h; exact DataW.trod_lt m _ _ _ hm)
theorem gSyn : Tryz.prog.globalNamed "strconv.ErrSyntax" = some 4 := by kernel_rfl
theorem gRng : Tryz.prog.globalNamed "strconv.ErrRange" = some 5 := by kernel_rfl
theorem star_es : "*" ++ "errors.errorString" = "*errors.errorString" := by decide
theorem row_es (u : TypeId) (h : Tryz.prog.typeName? 3 u = some "*errors.errorString") : u = 177 :=
  typeName_ptr_named (nm := "errors.errorString") (by rw [star_es]; kernel_rfl) (by kernel_rfl) (by decide) u (by rw [star_es]; exact h)
theorem syn_of {r : List (String × DataW Unit)} {W : World} (h : laidMet Tryz.prog (("strconv.ErrSyntax", Rows.laid_strconv_ErrSyntax) :: r) W) : ∃ tp p, W.var? Tryz.prog "strconv.ErrSyntax" = some #[.iface tp p] := by
  obtain ⟨a, s, hv, _⟩ := laid_sentinel h gSyn (ti := 141) (by kernel_rfl) Tryz.underlying141 row_es Tryz.underlying177 Tryz.underlying179 rfl rfl Tryz.underlying9 (by kernel_rfl) (by kernel_rfl)
  exact ⟨_, _, hv⟩
theorem rng_of {r : List (String × DataW Unit)} {W : World} (h : laidMet Tryz.prog (("strconv.ErrRange", Rows.laid_strconv_ErrRange) :: r) W) : ∃ tp p, W.var? Tryz.prog "strconv.ErrRange" = some #[.iface tp p] := by
  obtain ⟨a, s, hv, _⟩ := laid_sentinel h gRng (ti := 141) (by kernel_rfl) Tryz.underlying141 row_es Tryz.underlying177 Tryz.underlying179 rfl rfl Tryz.underlying9 (by kernel_rfl) (by kernel_rfl)
  exact ⟨_, _, hv⟩
set_option maxRecDepth 100000 in
theorem lb_of {W : World} (h : laidMet Tryz.prog [("math/bits.deBruijn32tab", Rows.laid_math_bits_deBruijn32tab), ("math/bits.deBruijn64tab", Rows.laid_math_bits_deBruijn64tab), ("internal/strconv.uint64pow10", Rows.laid_internal_strconv_uint64pow10), ("unicode/utf8.acceptRanges", Rows.laid_unicode_utf8_acceptRanges), ("strconv.ErrRange", Rows.laid_strconv_ErrRange), ("strconv.ErrSyntax", Rows.laid_strconv_ErrSyntax), ("unicode/utf8.first", Rows.laid_unicode_utf8_first)] W) (hs : W.ShapedOpen Tryz.prog) : Lb W.heap.size W := by
  obtain ⟨tp, p, h1⟩ := syn_of h.tail.tail.tail.tail.tail
  obtain ⟨tq, q, h2⟩ := rng_of h.tail.tail.tail.tail
  obtain ⟨m, h3⟩ := ml_of W hs
  refine ⟨Nat.le_refl _, Lib.tabBelow_of_tabIs (tb_of h (.tail _ (.tail _ (.head _)))), ⟨tp, p, fun w' hb => Joins.var_stays gSyn h1 hb (Nat.le_refl _)⟩, ⟨tq, q, fun w' hb => Joins.var_stays gRng h2 hb (Nat.le_refl _)⟩, ⟨m, fun w' hb => ?_⟩⟩
  rw [← h3]
  exact World.cell?_of_block (hb.block _ (World.block_lt_of_cell? W _ h3))


end Go.Proofs.YtilkcjcmcnlfnaaGreatDoor
