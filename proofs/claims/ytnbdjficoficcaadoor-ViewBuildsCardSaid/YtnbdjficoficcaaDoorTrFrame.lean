/- The frame of this layer's cards: the listed variables read as listed; files and trees as the form reads them. Condition: the form's own bound on what is reached. -/
import Derived.Test.YtnbdjficoficcaaDoorTrLaw
import Derived.Test.YtnbdjficoficcaaDoorTrRg
import Derived.Test.YtnbdjficoficcaaDoorSxOpen
import Derived.Test.YtnbdjficoficcaaDoorTie
import Derived.Test.YtnbdjficoficcaaDoorCards
import Derived.Handed
import Derived.HandedShaped
import Derived.Shelf.Vars
import Derived.Lay
import Derived.Carry
import Derived.LaidOnce
import Derived.LaidLaws
import Derived.SevenTiedAt
import Derived.OpenShut
import Derived.Lib.LaidU8
namespace Go.Proofs.YtnbdjficoficcaaDoor
set_option linter.unusedVariables false
open Go.ChangeShapes Go.WideShapes Go.ChangeAt Go.RowKit
theorem Tryd.own : ownKnob Tryd.prog.godebug = none := by kernel_rfl
theorem laidOut : laidOutB Tryd.prog = true := by kernel_rfl
/-- The builder with a condition on the world and with the shape of the package's variables. -/
theorem returns_both {H : Type} {enc : TypeId × Value → H} {a : Assume} {C : Checked} {os : Os} {f : FuncId} {fn : Func} {s : ChangeSpec} {conds : List PathCond} {apart fresh handsOn again : Bool} {X : World → Array Value → Prop}
    (hX : ∀ (w w' : World) (args : Array Value), w.heap = w'.heap → X w args → X w' args)
    (own : ownKnob C.prog.godebug = none) (started : os.Started) (noInit : C.prog.inits.idxOf? f = none) (hfn : C.prog.funcs[f]? = some fn)
    (witness : ∃ (w : World) (tape : Tape) (i : Input), w.os = os ∧ (w.forCall tape i).Shaped C.prog ∧ i.vars = [] ∧ Input.okWide C.prog (w.forCall tape i) .any w.heap.size f i ∧
      ((s.pre enc C.prog fn conds apart (w.forCall tape i).memory i.args ∧ X (w.forCall tape i).memory i.args) ∧ sizedMet enc C.prog fn (OpenSpec.ofChange s) apart (w.forCall tape i).memory i.args) ∧ a.holds C.prog (lone (Frame.enter C.prog f i.args .normal) [] (w.forCall tape i)))
    (contract : ∀ (W : World) (base : Nat) (args : Array Value) (ds gs : List (DataW H)) (before : List MemPlace),
      (∀ (j : Nat) t v, fn.params[j]? = some t → args[j]? = some v → Value.okWide C.prog W .any base t v) →
      DataW.Whole enc C.prog fn.params.toList s.vars apart W args.toList ds gs before →
      conds.all (PathCond.test C.prog ⟨fn.params.toList, ds, s.plain.varTypes C.prog, gs⟩) = true →
      (DataW.weightsEach C.prog (fn.params.toList ++ s.plain.varTypes C.prog) (ds ++ gs)).all (· ≤ reachBytes) = true → X W args → W.ShapedOpen C.prog →
      a.holds C.prog (lone (Frame.enter C.prog f args .normal) [] W) →
      Calls C.prog f args W fun e W' => ∃ v, e = .returned v ∧ s.post enc C.prog fn apart fresh handsOn again W args v W') :
    ReturnsInHanded a C os f .any (fun w args => (s.pre enc C.prog fn conds apart w args ∧ X w args) ∧ sizedMet enc C.prog fn (OpenSpec.ofChange s) apart w args) (s.post enc C.prog fn apart fresh handsOn again) := by
  refine returnsInHanded_of_calls own started noInit witness ?_
  intro w tape i _ hsh _ hok hpre hholds
  obtain ⟨_, _, _, fn', hfn', _, _, _, _, hval⟩ := hok
  have e : fn' = fn := Option.some.inj (hfn'.symm.trans hfn)
  subst e
  obtain ⟨⟨⟨ds, gs, before, hw, hc⟩, hx⟩, hz⟩ := hpre
  have hw' := DataW.Whole.of_heap (w' := w.forCall tape i) (by rfl) hw
  refine (contract (w.forCall tape i) w.heap.size i.args ds gs before hval hw' hc (hz.weights hw) (hX _ _ _ (by rfl) hx) hsh hholds).mono fun e W' ⟨v, he, hp⟩ => ?_
  subst he
  exact ChangeSpec.post_blind hp
theorem inpCells : Tryd.prog.cellsOf 47 = 2 := by kernel_rfl
theorem inpBytes : Tryd.prog.bytesOf 47 = 32 := by kernel_rfl
theorem insCells1 : Tryd.prog.cellsOf 25 = 1 := by kernel_rfl
theorem strCells : Tryd.prog.cellsOf 9 = 1 := by kernel_rfl
theorem inp_weightsAll_mem {H : Type} (P : Program) (e : TypeId) (n : Nat) : ∀ (l : List (DataW H)) (d : DataW H), d ∈ l → n ∈ d.weights P e → n ∈ DataW.weightsAll P e l
  | [], d, h, _ => by simp at h
  | x :: r, d, h, hn => by
    rw [DataW.weightsAll, List.mem_append]
    rcases List.mem_cons.1 h with rfl | h
    · exact .inl hn
    · exact .inr (inp_weightsAll_mem P e n r d h hn)
set_option maxRecDepth 20000 in
theorem inp_trod {H : Type} {enc : TypeId × Value → H} {W : World} (fuel : Nat) (cs : List Value) (x : DataW H × List MemPlace) (h : DataW.trod enc Tryd.prog W 0 (fun _ => true) true fuel 47 cs = some x) :
    ∃ (s u : ByteArray), cs = [.string s, .string u] ∧ s.data.toList.length ∈ x.1.weights Tryd.prog 47 ∧ u.data.toList.length ∈ x.1.weights Tryd.prog 47 := by
  obtain ⟨xs, m, hfm, rfl, hl, hlen, hf⟩ := DataW.trod_struct Tryd.underlying47 h
  rw [inpCells] at hl
  match cs, hl with
  | [c0, c1], _ =>
    have hl2 : xs.length = 2 := hlen
    match xs, hl2 with
    | [y0, y1], _ =>
      have h0 : DataW.trod enc Tryd.prog W 0 (fun _ => true) true m 9 (([c0, c1].drop 0).take (Tryd.prog.cellsOf 9)) = some y0 := hf 0 _ rfl
      have h1 : DataW.trod enc Tryd.prog W 0 (fun _ => true) true m 9 (([c0, c1].drop 1).take (Tryd.prog.cellsOf 9)) = some y1 := hf 1 _ rfl
      rw [strCells] at h0 h1
      have h0 : DataW.trod enc Tryd.prog W 0 (fun _ => true) true m 9 [c0] = some y0 := h0
      have h1 : DataW.trod enc Tryd.prog W 0 (fun _ => true) true m 9 [c1] = some y1 := h1
      obtain ⟨s, e0, hy0, _⟩ := DataW.trod_string Tryd.underlying9 h0
      obtain ⟨u, e1, hy1, _⟩ := DataW.trod_string Tryd.underlying9 h1
      simp only [List.cons.injEq, and_true] at e0 e1
      subst e0 e1
      subst hy0 hy1
      refine ⟨s, u, rfl, ?_, ?_⟩
      · simp only [List.map_cons, List.map_nil, DataW.weights, Tryd.underlying47, DataW.weightsEach, List.mem_append]
        left
        exact List.mem_singleton.2 rfl
      · simp only [List.map_cons, List.map_nil, DataW.weights, Tryd.underlying47, DataW.weightsEach, List.mem_append]
        right
        left
        exact List.mem_singleton.2 rfl
set_option maxRecDepth 100000 in
theorem open_inps {H : Type} {enc : TypeId × Value → H} {W : World} {fuel : Nat} {c5 : Value} {d : DataW H} {p : List MemPlace} (hf : DataW.trod enc Tryd.prog W 0 (fun _ => true) true fuel 25 [c5] = some (d, p))
    (hwt : ∀ m ∈ d.weights Tryd.prog 25, m ≤ reachBytes) : ∃ ps kb ko, InpS W (OldB W) c5 ps kb ko ∧ ps.length ≤ 140737488351232 ∧ ∀ i (hi : i < ps.length), ps[i].1.length ≤ 140737488351232 ∧ ps[i].2.length ≤ 140737488351232 := by
  rcases DataW.trod_slice Tryd.underlying25 hf with ⟨e, _⟩ | ⟨a, len, cap, elems, rest, n, hfn, e, hx, _, hl, hm, hlen, hel, _, _⟩
  · simp only [List.cons.injEq, and_true] at e
    rw [e]
    exact ⟨[], 0, 0, ⟨⟨none, 0, rfl, Nat.le_refl _, Nat.zero_le _, fun h => absurd rfl h⟩, fun i hi => by simp at hi⟩, Nat.zero_le _, fun i hi => by simp at hi⟩
  · simp only [List.cons.injEq, and_true] at e
    rw [e]
    have hrb : reachBytes = 140737488351232 := by decide
    have hd : d = .slice (elems.map (·.1)) (rest.map (·.1)) := congrArg Prod.fst hx
    have hin0 : (elems.length + rest.length) * 32 ∈ d.weights Tryd.prog 25 := by
      rw [hd]
      simp only [DataW.weights, Tryd.underlying25, List.length_map, inpBytes]
      exact List.mem_cons_self
    have hlb := hwt _ hin0
    have hins : ∀ i, i < len → ∃ x : InL, (x.1.length ≤ 140737488351232 ∧ x.2.length ≤ 140737488351232) ∧ W.cells? 0 (a.add (i * 2)) 2 = some [.string (tx x.1), .string (tx x.2)] := by
      intro i hi
      have h1 := hel i hi
      rw [inpCells, List.getElem?_eq_getElem (by omega)] at h1
      cases hc : W.cells? 0 (a.add (i * 2)) 2 with
      | none => rw [hc] at h1; simp at h1
      | some cs' =>
        rw [hc] at h1
        simp only [Option.bind_some] at h1
        obtain ⟨s, u, rfl, w1, w2⟩ := inp_trod n cs' _ h1
        have hmem : ∀ m, m ∈ (elems[i]'(by omega)).1.weights Tryd.prog 47 → m ∈ d.weights Tryd.prog 25 := fun m hm => by
          rw [hd]
          simp only [DataW.weights, Tryd.underlying25]
          exact List.mem_cons_of_mem _ (List.mem_append_left _ (inp_weightsAll_mem _ _ _ _ _ (List.mem_map.2 ⟨_, List.getElem_mem (by omega), rfl⟩) hm))
        have hle1 := hwt _ (hmem _ w1)
        have hle2 := hwt _ (hmem _ w2)
        refine ⟨⟨s.data.toList, u.data.toList⟩, ⟨by show s.data.toList.length ≤ _; omega, by show u.data.toList.length ≤ _; omega⟩, ?_⟩
        show _ = some [Value.string (tx s.data.toList), .string (tx u.data.toList)]
        rw [tx_back, tx_back]
    obtain ⟨ps, hpl, hps⟩ := choose_list len hins
    by_cases h0 : len = 0
    · have : ps = [] := List.eq_nil_of_length_eq_zero (by omega)
      subst this
      exact ⟨[], 0, 0, ⟨⟨some a, cap, by rw [h0]; rfl, by simp, hm, fun h => absurd rfl h⟩, fun i hi => by simp at hi⟩, Nat.zero_le _, fun i hi => by simp at hi⟩
    · have ha : ∃ b off, a = ⟨b, off, none⟩ := by
        obtain ⟨_, h1⟩ := hps 0 (by omega)
        obtain ⟨_, _, h2⟩ := World.cells?_some h1
        have h3 := World.cell?_spot (h2 0 (by decide))
        obtain ⟨b, off, spot⟩ := a
        refine ⟨b, off, ?_⟩
        have : spot = none := by simpa [Addr.add] using h3
        rw [this]
      obtain ⟨b, off, rfl⟩ := ha
      have hcell : ∀ i (hi : i < ps.length), W.cell? ⟨b, off + i * 2, none⟩ = some (.string (tx ps[i].1)) ∧ W.cell? ⟨b, off + i * 2 + 1, none⟩ = some (.string (tx ps[i].2)) := by
        intro i hi
        obtain ⟨hw, h1⟩ := hps i hi
        obtain ⟨_, _, h2⟩ := World.cells?_some h1
        have e0 := h2 0 (by decide)
        have e1 := h2 1 (by decide)
        rw [Go.WideShapes.add_plain, Go.WideShapes.add_plain] at e0 e1
        exact ⟨e0, e1⟩
      refine ⟨ps, b, off, ⟨⟨_, cap, by rw [hpl], by omega, hm, fun _ => ⟨rfl, ?_⟩⟩, hcell⟩, by omega, fun i hi => (hps i hi).1⟩
      exact World.block_lt_of_cell? W _ (hcell 0 (by omega)).1
theorem ml_of (W : World) (h : W.ShapedOpen Tryd.prog) : ∃ m, W.cell? ⟨0, 0, none⟩ = some (.int .i64 m) :=
  cell_of_shapedOpen_int (k := .i64) h (of_decide_eq_true (by kernel_rfl)) (t := 3) (zero := #[.int .i64 0]) (by kernel_rfl) rfl (by kernel_rfl) (by kernel_rfl) (by kernel_rfl)
theorem wml_of {W : World} (h : W.ShapedOpen Tryd.prog) : Pth.Ml W := by
  obtain ⟨m, h⟩ := ml_of W h
  exact ⟨m, h⟩
def Reach (ps : List FileL) : Prop := ps.length ≤ 140737488351232 ∧ ∀ i (hi : i < ps.length), ps[i].1.length ≤ 140737488351232 ∧ ps[i].2.length ≤ 140737488351232
set_option maxRecDepth 100000 in
theorem open_files {H : Type} {enc : TypeId × Value → H} {W : World} {base : Nat} {v : Value} {d : DataW H} {p : List MemPlace} (hv : Value.okWide Tryd.prog W .any base 25 v) (h : DataW.Trod enc Tryd.prog W 0 (fun _ => true) true 25 v d p)
    (hwt : ∀ m ∈ d.weights Tryd.prog 25, m ≤ reachBytes) : ∃ ps kb ko, InpS W (OldB W) v ps kb ko ∧ Reach ps := by
  obtain ⟨a0, len0, cap0, rfl⟩ := okWide_slice Tryd.underlying25 hv
  obtain ⟨fuel, hf⟩ := h
  have hf : DataW.trod enc Tryd.prog W 0 (fun _ => true) true fuel 25 [.slice a0 len0 cap0] = some (d, p) := by simpa [Value.cells] using hf
  exact open_inps hf hwt
set_option maxRecDepth 100000 in
theorem files_stay {H : Type} {enc : TypeId × Value → H} {W W' : World} {v : Value} {d : DataW H} {p : List MemPlace} (h : DataW.Trod enc Tryd.prog W 0 (fun _ => true) true 25 v d p) (hb : Below W.heap.size W W') :
    DataW.Trod enc Tryd.prog W' 0 (fun b => decide (b < W.heap.size)) true 25 v d p :=
  Below.trod laidOut (by kernel_rfl) (of_decide_eq_true (by kernel_rfl)) h hb (by obtain ⟨m, hm⟩ := h; exact DataW.trod_lt m _ _ _ hm)
end Go.Proofs.YtnbdjficoficcaaDoor
