/- The keywords, as the card's world lays them. Condition: that world. -/
import Derived.Test.YtdgcpgbknfojhaaDoorRcName
import Derived.Test.YtdgcpgbknfojhaaDoorBaseF
namespace Go.Proofs.YtdgcpgbknfojhaaDoor
set_option linter.unusedVariables false
open Go.ChangeShapes Go.WideShapes Go.ChangeAt Go.RowKit
theorem ml_of12 (W : World) (h : W.ShapedOpen Tryd.prog) : ∃ m, W.cell? ⟨1, 0, none⟩ = some (.int .i64 m) :=
  cell_of_shapedOpen_int (k := .i64) h (of_decide_eq_true (by kernel_rfl)) (t := 3) (zero := #[.int .i64 0]) (by kernel_rfl) rfl (by kernel_rfl) (by kernel_rfl) (by kernel_rfl)
theorem keyL_len : keyL.length = 10 := rfl
theorem gKeys : Tryd.prog.globalNamed "sapling/recipe.keywords" = some 0 := by kernel_rfl
theorem laid_keys : (Rows.laid_sapling_recipe_keywords : DataW Unit) = .slice (keyL.map fun l => .lit (.string l)) [] := rfl
theorem kw_of {l : List (String × DataW Unit)} {W : World} (h : laidMet Tryd.prog l W) (hm : ("sapling/recipe.keywords", Rows.laid_sapling_recipe_keywords) ∈ l) (hsh : W.ShapedOpen Tryd.prog) : Kw W.heap.size W := by
  obtain ⟨g, t, cs, fuel, p, hg, ht, hv, hd⟩ := Lib.laidMet.reads h hm
  obtain rfl := Option.some.inj (gKeys.symm.trans hg)
  obtain rfl := Option.some.inj ((show (Tryd.prog.globals[0]?).map (·.type) = some 52 by kernel_rfl).symm.trans ht)
  rw [laid_keys] at hd
  rcases DataW.trod_slice Tryd.underlying52 hd with ⟨e, hx⟩ | ⟨a, len, cap, elems, rest, n, hfn, e, hx, _, hl, hm', hlen, hel, _, _⟩
  · simp at hx
  · simp only [Prod.mk.injEq, DataW.slice.injEq] at hx
    obtain ⟨⟨hx1, _⟩, _⟩ := hx
    have hl10 : len = 10 := by
      have := congrArg List.length hx1
      rw [List.length_map, List.length_map, keyL_len, hlen] at this
      exact this.symm
    subst hl10
    have k1 : Tryd.prog.cellsOf 9 = 1 := by kernel_rfl
    have hcell : ∀ i, i < 10 → W.cell? (a.add i) = some (.string (tx (keyL.getD i []))) := by
      intro i hi
      have h1 := hel i hi
      rw [k1, Nat.mul_one, List.getElem?_eq_getElem (by omega)] at h1
      cases hc : W.cells? 0 (a.add i) 1 with
      | none => rw [hc] at h1; simp at h1
      | some cs' =>
        rw [hc] at h1
        simp only [Option.bind_some] at h1
        obtain ⟨s, rfl, h2, _⟩ := DataW.trod_string Tryd.underlying9 h1
        obtain ⟨_, _, h3⟩ := World.cells?_some hc
        have h4 := h3 0 (by decide)
        have h5 : (elems.map (·.1))[i]? = some (.lit (.string s.data.toList)) := by rw [List.getElem?_map, List.getElem?_eq_getElem (by omega), h2]; rfl
        rw [← hx1, List.getElem?_map, List.getElem?_eq_getElem (by rw [keyL_len]; exact hi)] at h5
        simp only [Option.map_some, Option.some.injEq, DataW.lit.injEq, Lit.string.injEq] at h5
        have h6 : keyL.getD i [] = s.data.toList := by rw [List.getD_eq_getElem?_getD, List.getElem?_eq_getElem (by rw [keyL_len]; exact hi)]; exact h5
        rw [h6, tx_back]
        have h7 : ∀ x : Addr, x.add 0 = x := fun x => by simp [Addr.add]
        rw [h7] at h4
        exact h4
    have ha : ∃ b off, a = ⟨b, off, none⟩ := by
      have h2 := World.cell?_spot (hcell 0 (by decide))
      obtain ⟨b, off, spot⟩ := a
      refine ⟨b, off, ?_⟩
      have : spot = none := by simpa [Addr.add] using h2
      rw [this]
    obtain ⟨b, off, rfl⟩ := ha
    have hglob : W.cell? ⟨0, 0, none⟩ = some (.slice (some ⟨b, off, none⟩) 10 cap) := by
      unfold World.var? at hv
      rw [gKeys] at hv
      simp only [Option.bind_some] at hv
      unfold World.cell?
      split at hv
      · rename_i c t f hh
        simp only [Option.some.injEq] at hv
        subst hv
        rw [hh]
        have : c[0]? = some (.slice (some ⟨b, off, none⟩) 10 cap) := by rw [← Array.getElem?_toList, e]; rfl
        simpa using this
      · cases hv
    refine ⟨Nat.le_refl _, ⟨b, off, cap, hl, hm', fun w' hb => ⟨?_, fun i hi => ?_⟩⟩, ?_⟩
    · rw [← hglob]; exact World.cell?_of_block (hb.block _ (World.block_lt_of_cell? W _ hglob))
    · have h1 := hcell i hi
      rw [Go.WideShapes.add_plain] at h1
      rw [← h1]; exact World.cell?_of_block (hb.block _ (World.block_lt_of_cell? W _ h1))
    · obtain ⟨m, hm⟩ := ml_of12 W hsh
      exact ⟨m, fun w' hb => World.cell?_of_block (hb.block _ (World.block_lt_of_cell? W _ hm)) |>.trans hm⟩
end Go.Proofs.YtdgcpgbknfojhaaDoor
