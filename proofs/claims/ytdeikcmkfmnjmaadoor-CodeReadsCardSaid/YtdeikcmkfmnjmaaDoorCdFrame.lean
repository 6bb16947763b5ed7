/- The frame of this layer's cards: the listed variables read as listed. No condition. -/
import Derived.Test.YtdeikcmkfmnjmaaDoorCdEnc
import Derived.Test.YtdeikcmkfmnjmaaDoorSxOpen
import Derived.Test.YtdeikcmkfmnjmaaDoorTie
import Derived.Test.YtdeikcmkfmnjmaaDoorCards
import Derived.Handed
import Derived.HandedShaped
import Derived.Shelf.Vars
import Derived.Lay
import Derived.Carry
import Derived.LaidOnce
import Derived.LaidLaws
import Derived.SevenTiedAt
import Derived.Lib.LaidU8
import Derived.Stop.LaidErr
namespace Go.Proofs.YtdeikcmkfmnjmaaDoor
set_option linter.unusedVariables false
open Go.ChangeShapes Go.WideShapes Go.ChangeAt Go.RowKit
theorem Tryd.own : ownKnob Tryd.prog.godebug = none := by kernel_rfl
theorem laidOut : laidOutB Tryd.prog = true := by kernel_rfl
/-- The builder with a condition on the world and with the shape of the package's variables. -/
theorem returns_both {H : Type} {enc : TypeId × Value → H} {a : Assume} {C : Checked} {os : Os} {f : FuncId} {fn : Func} {s : ChangeSpec} {conds : List PathCond} {apart fresh handsOn again : Bool} {X : World → Array Value → Prop}
    (hX : ∀ (w w' : World) (args : Array Value), w.heap = w'.heap → X w args → X w' args)
    (own : ownKnob C.prog.godebug = none) (started : os.Started) (noInit : C.prog.inits.idxOf? f = none) (hfn : C.prog.funcs[f]? = some fn)
    (witness : ∃ (w : World) (tape : Tape) (i : Input), w.os = os ∧ (w.forCall tape i).Shaped C.prog ∧ i.vars = [] ∧ Input.okWide C.prog (w.forCall tape i) .any w.heap.size f i ∧
      ((s.pre enc C.prog fn conds apart (w.forCall tape i).memory i.args ∧ X (w.forCall tape i).memory i.args) ∧ sizedMet enc C.prog fn (OpenSpec.ofChange s) apart (w.forCall tape i).memory i.args) ∧ a.holds C.prog (lone (Frame.enter C.prog f i.args .normal) [] (w.forCall tape i)))
    (contract : ∀ (W : World) (base : Nat) (args : Array Value) (ds gs : List (DataW H)) (before : List MemPlace),
      (∀ (j : Nat) t v, fn.params[j]? = some t → args[j]? = some v → Value.okWide C.prog W .any base t v) →
      DataW.Whole enc C.prog fn.params.toList s.vars apart W args.toList ds gs before →
      conds.all (PathCond.test C.prog ⟨fn.params.toList, ds, s.plain.varTypes C.prog, gs⟩) = true →
      (DataW.weightsEach C.prog (fn.params.toList ++ s.plain.varTypes C.prog) (ds ++ gs)).all (· ≤ reachBytes) = true → X W args → W.ShapedOpen C.prog →
      a.holds C.prog (lone (Frame.enter C.prog f args .normal) [] W) →
      Calls C.prog f args W fun e W' => ∃ v, e = .returned v ∧ s.post enc C.prog fn apart fresh handsOn again W args v W') :
    ReturnsInHanded a C os f .any (fun w args => (s.pre enc C.prog fn conds apart w args ∧ X w args) ∧ sizedMet enc C.prog fn (OpenSpec.ofChange s) apart w args) (s.post enc C.prog fn apart fresh handsOn again) := by
  refine returnsInHanded_of_calls own started noInit witness ?_
  intro w tape i _ hsh _ hok hpre hholds
  obtain ⟨_, _, _, fn', hfn', _, _, _, _, hval⟩ := hok
  have e : fn' = fn := Option.some.inj (hfn'.symm.trans hfn)
  subst e
  obtain ⟨⟨⟨ds, gs, before, hw, hc⟩, hx⟩, hz⟩ := hpre
  have hw' := DataW.Whole.of_heap (w' := w.forCall tape i) (by rfl) hw
  refine (contract (w.forCall tape i) w.heap.size i.args ds gs before hval hw' hc (hz.weights hw) (hX _ _ _ (by rfl) hx) hsh hholds).mono fun e W' ⟨v, he, hp⟩ => ?_
  subst he
  exact ChangeSpec.post_blind hp
theorem gPow : Tryd.prog.globalNamed "internal/strconv.uint64pow10" = some 3 := by kernel_rfl
theorem gWords : Tryd.prog.globalNamed "sapling/code.words" = some 0 := by kernel_rfl
theorem tb_of {l : List (String × DataW Unit)} {W : World} (h : laidMet Tryd.prog l W) (hm : ("internal/strconv.uint64pow10", Rows.laid_internal_strconv_uint64pow10) ∈ l) : Lib.TabIs Tryd.prog W "internal/strconv.uint64pow10" .u64 Lib.pow10Tab := by
  obtain ⟨g, t, cs, fuel, p, hg, ht, hv, hd⟩ := Lib.laidMet.reads h hm
  obtain rfl := Option.some.inj (gPow.symm.trans hg)
  obtain rfl := Option.some.inj ((show (Tryd.prog.globals[3]?).map (·.type) = some 118 by kernel_rfl).symm.trans ht)
  have e : (Rows.laid_internal_strconv_uint64pow10 : DataW Unit) = Lib.tabData .u64 Lib.pow10Tab := rfl
  rw [e] at hd
  unfold Lib.TabIs
  rw [hv, ← Lib.cells_of_tab (n := 20) Tryd.underlying118 Tryd.underlying99 (by kernel_rfl) (by kernel_rfl) hd]
theorem laid_words : (Rows.laid_sapling_code_words : DataW Unit) = .slice (wordsB.map fun l => .lit (.string l)) [] := rfl
theorem wd_of {l : List (String × DataW Unit)} {W : World} (h : laidMet Tryd.prog l W) (hm : ("sapling/code.words", Rows.laid_sapling_code_words) ∈ l) : Wd W.heap.size W := by
  obtain ⟨g, t, cs, fuel, p, hg, ht, hv, hd⟩ := Lib.laidMet.reads h hm
  obtain rfl := Option.some.inj (gWords.symm.trans hg)
  obtain rfl := Option.some.inj ((show (Tryd.prog.globals[0]?).map (·.type) = some 41 by kernel_rfl).symm.trans ht)
  rw [laid_words] at hd
  rcases DataW.trod_slice Tryd.underlying41 hd with ⟨e, hx⟩ | ⟨a, len, cap, elems, rest, n, hfn, e, hx, _, hl, hm', hlen, hel, _, _⟩
  · simp at hx
  · simp only [Prod.mk.injEq, DataW.slice.injEq] at hx
    obtain ⟨⟨hx1, _⟩, _⟩ := hx
    have hl31 : len = 31 := by
      have := congrArg List.length hx1
      rw [List.length_map, List.length_map, wordsB_len, hlen] at this
      exact this.symm
    subst hl31
    have k1 : Tryd.prog.cellsOf 9 = 1 := by kernel_rfl
    have hcell : ∀ i, i < 31 → W.cell? (a.add i) = some (.string (tx (wordsB.getD i []))) := by
      intro i hi
      have h1 := hel i hi
      rw [k1, Nat.mul_one, List.getElem?_eq_getElem (by omega)] at h1
      cases hc : W.cells? 0 (a.add i) 1 with
      | none => rw [hc] at h1; simp at h1
      | some cs' =>
        rw [hc] at h1
        simp only [Option.bind_some] at h1
        obtain ⟨s, rfl, h2, _⟩ := DataW.trod_string Tryd.underlying9 h1
        obtain ⟨_, _, h3⟩ := World.cells?_some hc
        have h4 := h3 0 (by decide)
        have h5 : (elems.map (·.1))[i]? = some (.lit (.string s.data.toList)) := by rw [List.getElem?_map, List.getElem?_eq_getElem (by omega), h2]; rfl
        rw [← hx1, List.getElem?_map, List.getElem?_eq_getElem (by rw [wordsB_len]; exact hi)] at h5
        simp only [Option.map_some, Option.some.injEq, DataW.lit.injEq, Lit.string.injEq] at h5
        have h6 : wordsB.getD i [] = s.data.toList := by rw [List.getD_eq_getElem?_getD, List.getElem?_eq_getElem (by rw [wordsB_len]; exact hi)]; exact h5
        rw [h6, tx_back]
        have h7 : ∀ x : Addr, x.add 0 = x := fun x => by simp [Addr.add]
        rw [h7] at h4
        exact h4
    have ha : ∃ b off, a = ⟨b, off, none⟩ := by
      have h2 := World.cell?_spot (hcell 0 (by decide))
      obtain ⟨b, off, spot⟩ := a
      refine ⟨b, off, ?_⟩
      have : spot = none := by simpa [Addr.add] using h2
      rw [this]
    obtain ⟨b, off, rfl⟩ := ha
    have hglob : W.cell? ⟨0, 0, none⟩ = some (.slice (some ⟨b, off, none⟩) 31 cap) := by
      unfold World.var? at hv
      rw [gWords] at hv
      simp only [Option.bind_some] at hv
      unfold World.cell?
      split at hv
      · rename_i c t f hh
        simp only [Option.some.injEq] at hv
        subst hv
        rw [hh]
        have : c[0]? = some (.slice (some ⟨b, off, none⟩) 31 cap) := by rw [← Array.getElem?_toList, e]; rfl
        simpa using this
      · cases hv
    refine ⟨Nat.le_refl _, b, off, cap, hl, hm', fun w' hb => ⟨?_, fun i hi => ?_⟩⟩
    · rw [← hglob]; exact World.cell?_of_block (hb.block _ (World.block_lt_of_cell? W _ hglob))
    · have h1 := hcell i hi
      rw [Go.WideShapes.add_plain] at h1
      rw [← h1]; exact World.cell?_of_block (hb.block _ (World.block_lt_of_cell? W _ h1))
theorem ev_of {l : List (String × DataW Unit)} {W : World} (h : laidMet Tryd.prog l W) (hp : ("internal/strconv.uint64pow10", Rows.laid_internal_strconv_uint64pow10) ∈ l) (hm : ("sapling/code.words", Rows.laid_sapling_code_words) ∈ l) : Ev W.heap.size W :=
  ⟨⟨Nat.le_refl _, Lib.tabBelow_of_tabIs (tb_of h hp)⟩, wd_of h hm⟩
end Go.Proofs.YtdeikcmkfmnjmaaDoor
