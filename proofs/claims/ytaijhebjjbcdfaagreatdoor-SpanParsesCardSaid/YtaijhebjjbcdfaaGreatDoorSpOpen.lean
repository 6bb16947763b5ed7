/- From the form's reading of gaps and versions to gaps and versions; what the listed variables give. Condition: the form's own bound on what is reached. -/
import Derived.Test.YtaijhebjjbcdfaaGreatDoorBaseF
import Derived.Stop.LaidErr
import Derived.Test.YtaijhebjjbcdfaaGreatDoorSpAlive

namespace Go.Proofs.YtaijhebjjbcdfaaGreatDoor
set_option linter.unusedVariables false
open Go.ChangeShapes Go.WideShapes Go.ChangeAt Go.RowKit
theorem gapCells : Tryz.prog.cellsOf 37 = 2 := by kernel_rfl
theorem verCells : Tryz.prog.cellsOf 31 = 3 := by kernel_rfl
theorem intCells : Tryz.prog.cellsOf 3 = 1 := by kernel_rfl
set_option maxRecDepth 20000 in
theorem gap_trod {H : Type} {enc : TypeId × Value → H} {W : World} (fuel : Nat) (cs : List Value) (x : DataW H × List MemPlace) (h : DataW.trod enc Tryz.prog W 0 (fun _ => true) true fuel 37 cs = some x) :
    ∃ (a b : Int), cs = [.int .i64 a, .int .i64 b] ∧ (Lit.int .i64 a).wf = true ∧ (Lit.int .i64 b).wf = true := by
  obtain ⟨xs, m, hfm, rfl, hl, hlen, hf⟩ := DataW.trod_struct Tryz.underlying37 h
  rw [gapCells] at hl
  match cs, hl with
  | [c0, c1], _ =>
    have hl2 : xs.length = 2 := hlen
    match xs, hl2 with
    | [y0, y1], _ =>
      have h0 : DataW.trod enc Tryz.prog W 0 (fun _ => true) true m 3 (([c0, c1].drop 0).take (Tryz.prog.cellsOf 3)) = some y0 := hf 0 _ rfl
      have h1 : DataW.trod enc Tryz.prog W 0 (fun _ => true) true m 3 (([c0, c1].drop 1).take (Tryz.prog.cellsOf 3)) = some y1 := hf 1 _ rfl
      rw [intCells] at h0 h1
      have h0 : DataW.trod enc Tryz.prog W 0 (fun _ => true) true m 3 [c0] = some y0 := h0
      have h1 : DataW.trod enc Tryz.prog W 0 (fun _ => true) true m 3 [c1] = some y1 := h1
      obtain ⟨a, e0, _, w0⟩ := DataW.trod_int Tryz.underlying3 h0
      obtain ⟨b, e1, _, w1⟩ := DataW.trod_int Tryz.underlying3 h1
      simp only [List.cons.injEq, and_true] at e0 e1
      subst e0 e1
      exact ⟨a, b, rfl, w0, w1⟩
set_option maxRecDepth 100000 in
theorem open_gaps {H : Type} {enc : TypeId × Value → H} {W : World} {base : Nat} {v : Value} {d : DataW H} {p : List MemPlace} (hv : Value.okWide Tryz.prog W .any base 23 v) (h : DataW.Trod enc Tryz.prog W 0 (fun _ => true) true 23 v d p)
    (hwt : ∀ m ∈ d.weights Tryz.prog 23, m ≤ reachBytes) : ∃ ps kb ko, GapS W (OldB W) v ps kb ko := by
  obtain ⟨a0, len0, cap0, rfl⟩ := okWide_slice Tryz.underlying23 hv
  obtain ⟨fuel, hf⟩ := h
  have hf : DataW.trod enc Tryz.prog W 0 (fun _ => true) true fuel 23 [.slice a0 len0 cap0] = some (d, p) := by simpa [Value.cells] using hf
  rcases DataW.trod_slice Tryz.underlying23 hf with ⟨e, _⟩ | ⟨a, len, cap, elems, rest, n, hfn, e, hx, _, hl, hm, hlen, hel, _, _⟩
  · simp only [List.cons.injEq, and_true] at e
    rw [e]
    exact ⟨[], 0, 0, GapS.nil _ _⟩
  · simp only [List.cons.injEq, and_true] at e
    rw [e]
    have hins : ∀ i, i < len → ∃ x : GapL, (In64 x.1 ∧ In64 x.2) ∧ W.cells? 0 (a.add (i * 2)) 2 = some [.int .i64 x.1, .int .i64 x.2] := by
      intro i hi
      have h1 := hel i hi
      rw [gapCells, List.getElem?_eq_getElem (by omega)] at h1
      cases hc : W.cells? 0 (a.add (i * 2)) 2 with
      | none => rw [hc] at h1; simp at h1
      | some cs' =>
        rw [hc] at h1
        simp only [Option.bind_some] at h1
        obtain ⟨x, y, rfl, w0, w1⟩ := gap_trod n cs' _ h1
        exact ⟨(x, y), ⟨bounds_i64 w0, bounds_i64 w1⟩, rfl⟩
    obtain ⟨ps, hpl, hps⟩ := choose_list len hins
    by_cases h0 : len = 0
    · have : ps = [] := List.eq_nil_of_length_eq_zero (by omega)
      subst this
      exact ⟨[], 0, 0, ⟨⟨some a, cap, by rw [h0]; rfl, by simp, hm, fun h => absurd rfl h⟩, fun i hi => by simp at hi, fun g hg => by cases hg⟩⟩
    · have ha : ∃ b off, a = ⟨b, off, none⟩ := by
        obtain ⟨_, h1⟩ := hps 0 (by omega)
        obtain ⟨_, _, h2⟩ := World.cells?_some h1
        have h3 := World.cell?_spot (h2 0 (by decide))
        obtain ⟨b, off, spot⟩ := a
        refine ⟨b, off, ?_⟩
        have : spot = none := by simpa [Addr.add] using h3
        rw [this]
      obtain ⟨b, off, rfl⟩ := ha
      have hcell : ∀ i (hi : i < ps.length), W.cell? ⟨b, off + i * 2, none⟩ = some (.int .i64 ps[i].1) ∧ W.cell? ⟨b, off + i * 2 + 1, none⟩ = some (.int .i64 ps[i].2) := by
        intro i hi
        obtain ⟨hw, h1⟩ := hps i hi
        obtain ⟨_, _, h2⟩ := World.cells?_some h1
        have e0 := h2 0 (by decide)
        have e1 := h2 1 (by decide)
        rw [Go.WideShapes.add_plain, Go.WideShapes.add_plain] at e0 e1
        exact ⟨e0, e1⟩
      refine ⟨ps, b, off, ⟨⟨_, cap, by rw [hpl], by omega, hm, fun _ => ⟨rfl, ?_⟩⟩, hcell, fun g hg => ?_⟩⟩
      · exact World.block_lt_of_cell? W _ (hcell 0 (by omega)).1
      · obtain ⟨i, hi, rfl⟩ := List.getElem_of_mem hg
        exact (hps i hi).1
set_option maxRecDepth 100000 in
theorem gaps_stay {H : Type} {enc : TypeId × Value → H} {W W' : World} {v : Value} {d : DataW H} {p : List MemPlace} (h : DataW.Trod enc Tryz.prog W 0 (fun _ => true) true 23 v d p) (hb : Below W.heap.size W W') :
    DataW.Trod enc Tryz.prog W' 0 (fun b => decide (b < W.heap.size)) true 23 v d p :=
  Below.trod laidOut (by kernel_rfl) (of_decide_eq_true (by kernel_rfl)) h hb (by obtain ⟨m, hm⟩ := h; exact DataW.trod_lt m _ _ _ hm)
set_option maxRecDepth 100000 in
theorem open_version {H : Type} {enc : TypeId × Value → H} {W : World} {base : Nat} {v : Value} {d : DataW H} {p : List MemPlace} (hv : Value.okWide Tryz.prog W .any base 31 v) (h : DataW.Trod enc Tryz.prog W 0 (fun _ => true) true 31 v d p) :
    ∃ x y z : Int, v = .agg #[.int .i64 x, .int .i64 y, .int .i64 z] ∧ In64 x ∧ In64 y ∧ In64 z := by
  have hv2 : ∃ cs, v = .agg cs := by
    simp only [Value.okWide, Tryz.underlying31] at hv
    obtain ⟨cs, h1, -⟩ := hv
    exact ⟨cs, h1⟩
  obtain ⟨cs, rfl⟩ := hv2
  obtain ⟨fuel, hf⟩ := h
  obtain ⟨xs, m, hfm, hx, hl, hlen, hel⟩ := DataW.trod_array Tryz.underlying31 hf
  rw [verCells] at hl
  have hcs : (Value.agg cs).cells.toList = cs.toList := rfl
  rw [hcs] at hl hel
  match xs, hlen with
  | [y0, y1, y2], _ =>
    obtain ⟨c0, c1, c2, hc⟩ : ∃ c0 c1 c2, cs.toList = [c0, c1, c2] := by
      match hc : cs.toList, hl with
      | [c0, c1, c2], _ => exact ⟨c0, c1, c2, rfl⟩
    rw [hc] at hel
    have h0 : DataW.trod enc Tryz.prog W 0 (fun _ => true) true m 3 (([c0, c1, c2].drop (0 * Tryz.prog.cellsOf 3)).take (Tryz.prog.cellsOf 3)) = some y0 := hel 0 (by decide)
    have h1 : DataW.trod enc Tryz.prog W 0 (fun _ => true) true m 3 (([c0, c1, c2].drop (1 * Tryz.prog.cellsOf 3)).take (Tryz.prog.cellsOf 3)) = some y1 := hel 1 (by decide)
    have h2 : DataW.trod enc Tryz.prog W 0 (fun _ => true) true m 3 (([c0, c1, c2].drop (2 * Tryz.prog.cellsOf 3)).take (Tryz.prog.cellsOf 3)) = some y2 := hel 2 (by decide)
    rw [intCells] at h0 h1 h2
    have h0 : DataW.trod enc Tryz.prog W 0 (fun _ => true) true m 3 [c0] = some y0 := h0
    have h1 : DataW.trod enc Tryz.prog W 0 (fun _ => true) true m 3 [c1] = some y1 := h1
    have h2 : DataW.trod enc Tryz.prog W 0 (fun _ => true) true m 3 [c2] = some y2 := h2
    obtain ⟨x, e0, _, w0⟩ := DataW.trod_int Tryz.underlying3 h0
    obtain ⟨y, e1, _, w1⟩ := DataW.trod_int Tryz.underlying3 h1
    obtain ⟨z, e2, _, w2⟩ := DataW.trod_int Tryz.underlying3 h2
    simp only [List.cons.injEq, and_true] at e0 e1 e2
    subst e0 e1 e2
    refine ⟨x, y, z, ?_, bounds_i64 w0, bounds_i64 w1, bounds_i64 w2⟩
    congr 1
    apply Array.ext'
    exact hc
set_option maxRecDepth 100000 in
theorem version_stays {H : Type} {enc : TypeId × Value → H} {W W' : World} {v : Value} {d : DataW H} {p : List MemPlace} (h : DataW.Trod enc Tryz.prog W 0 (fun _ => true) true 31 v d p) (hb : Below W.heap.size W W') :
    DataW.Trod enc Tryz.prog W' 0 (fun b => decide (b < W.heap.size)) true 31 v d p :=
  Below.trod laidOut (by kernel_rfl) (of_decide_eq_true (by kernel_rfl)) h hb (by obtain ⟨m, hm⟩ := h; exact DataW.trod_lt m _ _ _ hm)
theorem ml_of (W : World) (h : W.ShapedOpen Tryz.prog) : ∃ m, W.cell? ⟨2, 0, none⟩ = some (.int .i64 m) :=
  cell_of_shapedOpen_int (k := .i64) h (of_decide_eq_true (by kernel_rfl)) (t := 3) (zero := #[.int .i64 0]) (by kernel_rfl) rfl (by kernel_rfl) (by kernel_rfl) (by kernel_rfl)
theorem star_es : "*" ++ "errors.errorString" = "*errors.errorString" := by decide
theorem row_es (u : TypeId) (h : Tryz.prog.typeName? 3 u = some "*errors.errorString") : u = 163 :=
  typeName_ptr_named (nm := "errors.errorString") (by rw [star_es]; kernel_rfl) (by kernel_rfl) (by decide) u (by rw [star_es]; exact h)
theorem syn_of {r : List (String × DataW Unit)} {W : World} (h : laidMet Tryz.prog (("strconv.ErrSyntax", Rows.laid_strconv_ErrSyntax) :: r) W) : Ver.Er W := by
  obtain ⟨a, s, hv, _⟩ := laid_sentinel h Ver.gSyn (ti := 85) (by kernel_rfl) Tryz.underlying85 row_es Tryz.underlying163 Tryz.underlying165 rfl rfl Tryz.underlying9 (by kernel_rfl) (by kernel_rfl)
  exact ⟨_, _, hv⟩
theorem tb_of {l : List (String × DataW Unit)} {W : World} (h : laidMet Tryz.prog l W) (hm : ("internal/strconv.uint64pow10", Rows.laid_internal_strconv_uint64pow10) ∈ l) : Ver.Tb W := by
  obtain ⟨g, t, cs, fuel, p, hg, ht, hv, hd⟩ := Lib.laidMet.reads h hm
  obtain rfl := Option.some.inj (Ver.gPow.symm.trans hg)
  obtain rfl := Option.some.inj ((show (Tryz.prog.globals[3]?).map (·.type) = some 139 by kernel_rfl).symm.trans ht)
  have e : (Rows.laid_internal_strconv_uint64pow10 : DataW Unit) = Lib.tabData .u64 Lib.pow10Tab := rfl
  rw [e] at hd
  unfold Ver.Tb Lib.TabIs
  rw [hv, ← Lib.cells_of_tab (n := 20) Tryz.underlying139 Tryz.underlying117 (by kernel_rfl) (by kernel_rfl) hd]
theorem pw_of {W : World} (h : laidMet Tryz.prog [("math/bits.deBruijn32tab", Rows.laid_math_bits_deBruijn32tab), ("math/bits.deBruijn64tab", Rows.laid_math_bits_deBruijn64tab), ("internal/strconv.uint64pow10", Rows.laid_internal_strconv_uint64pow10), ("unicode/utf8.acceptRanges", Rows.laid_unicode_utf8_acceptRanges), ("strconv.ErrRange", Rows.laid_strconv_ErrRange), ("strconv.ErrSyntax", Rows.laid_strconv_ErrSyntax), ("unicode/utf8.first", Rows.laid_unicode_utf8_first)] W) (hs : W.ShapedOpen Tryz.prog) : Pw W.heap.size W :=
  Pw.of (syn_of h.tail.tail.tail.tail.tail) (tb_of h (.tail _ (.tail _ (.head _)))) (ml_of W hs)
end Go.Proofs.YtaijhebjjbcdfaaGreatDoor
