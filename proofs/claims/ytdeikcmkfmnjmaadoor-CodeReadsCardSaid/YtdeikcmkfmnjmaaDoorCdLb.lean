/- The frame of this layer's cards with the reader's variables: the listed variables read as listed. No condition. -/
import Derived.Test.YtdeikcmkfmnjmaaDoorCdFrame
import Derived.Test.YtdeikcmkfmnjmaaDoorCdOpen
namespace Go.Proofs.YtdeikcmkfmnjmaaDoor
set_option linter.unusedVariables false
open Go.ChangeShapes Go.WideShapes Go.ChangeAt Go.RowKit
theorem gSyn : Tryd.prog.globalNamed "strconv.ErrSyntax" = some 1 := by kernel_rfl
theorem gRng : Tryd.prog.globalNamed "strconv.ErrRange" = some 2 := by kernel_rfl
theorem ml_of (W : World) (h : W.ShapedOpen Tryd.prog) : ∃ m, W.cell? ⟨4, 0, none⟩ = some (.int .i64 m) :=
  cell_of_shapedOpen_int (k := .i64) h (of_decide_eq_true (by kernel_rfl)) (t := 3) (zero := #[.int .i64 0]) (by kernel_rfl) rfl (by kernel_rfl) (by kernel_rfl) (by kernel_rfl)
theorem star_es : "*" ++ "errors.errorString" = "*errors.errorString" := by decide
theorem row_es (u : TypeId) (h : Tryd.prog.typeName? 3 u = some "*errors.errorString") : u = 114 :=
  typeName_ptr_named (nm := "errors.errorString") (by rw [star_es]; kernel_rfl) (by kernel_rfl) (by decide) u (by rw [star_es]; exact h)
theorem syn_of {r : List (String × DataW Unit)} {W : World} (h : laidMet Tryd.prog (("strconv.ErrSyntax", Rows.laid_strconv_ErrSyntax) :: r) W) : ∃ tp p, W.var? Tryd.prog "strconv.ErrSyntax" = some #[.iface tp p] := by
  obtain ⟨a, s, hv, _⟩ := laid_sentinel h gSyn (ti := 59) (by kernel_rfl) Tryd.underlying59 row_es Tryd.underlying114 Tryd.underlying116 rfl rfl Tryd.underlying9 (by kernel_rfl) (by kernel_rfl)
  exact ⟨_, _, hv⟩
theorem rng_of {r : List (String × DataW Unit)} {W : World} (h : laidMet Tryd.prog (("strconv.ErrRange", Rows.laid_strconv_ErrRange) :: r) W) : ∃ tp p, W.var? Tryd.prog "strconv.ErrRange" = some #[.iface tp p] := by
  obtain ⟨a, s, hv, _⟩ := laid_sentinel h gRng (ti := 59) (by kernel_rfl) Tryd.underlying59 row_es Tryd.underlying114 Tryd.underlying116 rfl rfl Tryd.underlying9 (by kernel_rfl) (by kernel_rfl)
  exact ⟨_, _, hv⟩
theorem lb_of {W : World} (h : laidMet Tryd.prog [("math/bits.deBruijn32tab", Rows.laid_math_bits_deBruijn32tab), ("math/bits.deBruijn64tab", Rows.laid_math_bits_deBruijn64tab), ("internal/strconv.uint64pow10", Rows.laid_internal_strconv_uint64pow10), ("strconv.ErrRange", Rows.laid_strconv_ErrRange), ("strconv.ErrSyntax", Rows.laid_strconv_ErrSyntax), ("sapling/code.words", Rows.laid_sapling_code_words)] W) (hs : W.ShapedOpen Tryd.prog) : Lb W.heap.size W := by
  obtain ⟨tp, p, h1⟩ := syn_of h.tail.tail.tail.tail
  obtain ⟨tq, q, h2⟩ := rng_of h.tail.tail.tail
  obtain ⟨m, h3⟩ := ml_of W hs
  refine ⟨Nat.le_refl _, Lib.tabBelow_of_tabIs (tb_of h (.tail _ (.tail _ (.head _)))), ⟨tp, p, fun w' hb => Joins.var_stays gSyn h1 hb (Nat.le_refl _)⟩, ⟨tq, q, fun w' hb => Joins.var_stays gRng h2 hb (Nat.le_refl _)⟩, ⟨m, fun w' hb => ?_⟩⟩
  rw [← h3]
  exact World.cell?_of_block (hb.block _ (World.block_lt_of_cell? W _ h3))
end Go.Proofs.YtdeikcmkfmnjmaaDoor
