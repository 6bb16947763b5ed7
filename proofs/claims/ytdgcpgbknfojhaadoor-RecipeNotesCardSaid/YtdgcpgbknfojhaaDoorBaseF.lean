/- Frames of statements, for any seat: what comes in as the form reads it; texts in rows. Condition: the form's own bound on what is reached. -/
import Derived.Test.YtdgcpgbknfojhaaDoorBase
import Derived.Handed
import Derived.HandedShaped
import Derived.Shelf.Vars
import Derived.Lay
import Derived.Carry
import Derived.LaidOnce
import Derived.LaidLaws
import Derived.SevenTiedAt
import Derived.OpenShut
import Derived.Lib.LaidU8
import Derived.SizedLaws
import Derived.ChangeOld
namespace Go.Proofs.YtdgcpgbknfojhaaDoor
set_option linter.unusedVariables false
open Go.ChangeShapes Go.WideShapes Go.ChangeAt Go.RowKit
theorem Tryd.own : ownKnob Tryd.prog.godebug = none := by kernel_rfl
theorem laidOut : laidOutB Tryd.prog = true := by kernel_rfl
theorem returns_both {H : Type} {enc : TypeId × Value → H} {a : Assume} {C : Checked} {os : Os} {f : FuncId} {fn : Func} {s : ChangeSpec} {conds : List PathCond} {apart fresh handsOn again : Bool} {X : World → Array Value → Prop}
    (hX : ∀ (w w' : World) (args : Array Value), w.heap = w'.heap → X w args → X w' args)
    (own : ownKnob C.prog.godebug = none) (started : os.Started) (noInit : C.prog.inits.idxOf? f = none) (hfn : C.prog.funcs[f]? = some fn)
    (witness : ∃ (w : World) (tape : Tape) (i : Input), w.os = os ∧ (w.forCall tape i).Shaped C.prog ∧ i.vars = [] ∧ Input.okWide C.prog (w.forCall tape i) .any w.heap.size f i ∧
      ((s.pre enc C.prog fn conds apart (w.forCall tape i).memory i.args ∧ X (w.forCall tape i).memory i.args) ∧ sizedMet enc C.prog fn (OpenSpec.ofChange s) apart (w.forCall tape i).memory i.args) ∧ a.holds C.prog (lone (Frame.enter C.prog f i.args .normal) [] (w.forCall tape i)))
    (contract : ∀ (W : World) (base : Nat) (args : Array Value) (ds gs : List (DataW H)) (before : List MemPlace),
      (∀ (j : Nat) t v, fn.params[j]? = some t → args[j]? = some v → Value.okWide C.prog W .any base t v) →
      DataW.Whole enc C.prog fn.params.toList s.vars apart W args.toList ds gs before →
      conds.all (PathCond.test C.prog ⟨fn.params.toList, ds, s.plain.varTypes C.prog, gs⟩) = true →
      (DataW.weightsEach C.prog (fn.params.toList ++ s.plain.varTypes C.prog) (ds ++ gs)).all (· ≤ reachBytes) = true → X W args → W.ShapedOpen C.prog →
      a.holds C.prog (lone (Frame.enter C.prog f args .normal) [] W) →
      Calls C.prog f args W fun e W' => ∃ v, e = .returned v ∧ s.post enc C.prog fn apart fresh handsOn again W args v W') :
    ReturnsInHanded a C os f .any (fun w args => (s.pre enc C.prog fn conds apart w args ∧ X w args) ∧ sizedMet enc C.prog fn (OpenSpec.ofChange s) apart w args) (s.post enc C.prog fn apart fresh handsOn again) := by
  refine returnsInHanded_of_calls own started noInit witness ?_
  intro w tape i _ hsh _ hok hpre hholds
  obtain ⟨_, _, _, fn', hfn', _, _, _, _, hval⟩ := hok
  have e : fn' = fn := Option.some.inj (hfn'.symm.trans hfn)
  subst e
  obtain ⟨⟨⟨ds, gs, before, hw, hc⟩, hx⟩, hz⟩ := hpre
  have hw' := DataW.Whole.of_heap (w' := w.forCall tape i) (by rfl) hw
  refine (contract (w.forCall tape i) w.heap.size i.args ds gs before hval hw' hc (hz.weights hw) (hX _ _ _ (by rfl) hx) hsh hholds).mono fun e W' ⟨v, he, hp⟩ => ?_
  subst he
  exact ChangeSpec.post_blind hp
theorem strCells : Tryd.prog.cellsOf 9 = 1 := by kernel_rfl
theorem inp_weightsAll_mem {H : Type} (P : Program) (e : TypeId) (n : Nat) : ∀ (l : List (DataW H)) (d : DataW H), d ∈ l → n ∈ d.weights P e → n ∈ DataW.weightsAll P e l
  | [], d, h, _ => by simp at h
  | x :: r, d, h, hn => by
    rw [DataW.weightsAll, List.mem_append]
    rcases List.mem_cons.1 h with rfl | h
    · exact .inl hn
    · exact .inr (inp_weightsAll_mem P e n r d h hn)
theorem strBytes : Tryd.prog.bytesOf 9 = 16 := by kernel_rfl
set_option maxRecDepth 100000 in
theorem open_texts {H : Type} {enc : TypeId × Value → H} {W : World} {base : Nat} {v : Value} {d : DataW H} {p : List MemPlace} (hv : Value.okWide Tryd.prog W .any base 52 v) (h : DataW.Trod enc Tryd.prog W 0 (fun _ => true) true 52 v d p)
    (hwt : ∀ m ∈ d.weights Tryd.prog 52, m ≤ reachBytes) : ∃ ts kb ko, TxtS W (OldB W) v ts kb ko ∧ ts.length ≤ 140737488351232 ∧ ∀ t ∈ ts, t.length ≤ 140737488351232 := by
  obtain ⟨a0, len0, cap0, rfl⟩ := okWide_slice Tryd.underlying52 hv
  obtain ⟨fuel, hf⟩ := h
  have hf : DataW.trod enc Tryd.prog W 0 (fun _ => true) true fuel 52 [.slice a0 len0 cap0] = some (d, p) := by simpa [Value.cells] using hf
  rcases DataW.trod_slice Tryd.underlying52 hf with ⟨e, _⟩ | ⟨a, len, cap, elems, rest, n, hfn, e, hx, _, hl, hm, hlen, hel, _, _⟩
  · simp only [List.cons.injEq, and_true] at e
    rw [e]
    exact ⟨[], 0, 0, TxtS.nil _ _, Nat.zero_le _, fun m hm => nomatch hm⟩
  · simp only [List.cons.injEq, and_true] at e
    rw [e]
    have hrb : reachBytes = 140737488351232 := by decide
    have hd : d = .slice (elems.map (·.1)) (rest.map (·.1)) := congrArg Prod.fst hx
    have hin0 : (elems.length + rest.length) * 16 ∈ d.weights Tryd.prog 52 := by
      rw [hd]
      simp only [DataW.weights, Tryd.underlying52, List.length_map, strBytes]
      exact List.mem_cons_self
    have hlb := hwt _ hin0
    have hins : ∀ i, i < len → ∃ x : List UInt8, x.length ≤ 140737488351232 ∧ W.cells? 0 (a.add (i * 1)) 1 = some [.string (tx x)] := by
      intro i hi
      have h1 := hel i hi
      rw [strCells, List.getElem?_eq_getElem (by omega)] at h1
      cases hc : W.cells? 0 (a.add (i * 1)) 1 with
      | none => rw [hc] at h1; simp at h1
      | some cs' =>
        rw [hc] at h1
        simp only [Option.bind_some] at h1
        obtain ⟨s, e0, hy0, _⟩ := DataW.trod_string Tryd.underlying9 h1
        have hmem : ∀ m, m ∈ (elems[i]'(by omega)).1.weights Tryd.prog 9 → m ∈ d.weights Tryd.prog 52 := fun m hm => by
          rw [hd]
          simp only [DataW.weights, Tryd.underlying52]
          exact List.mem_cons_of_mem _ (List.mem_append_left _ (inp_weightsAll_mem _ _ _ _ _ (List.mem_map.2 ⟨_, List.getElem_mem (by omega), rfl⟩) hm))
        have hw : s.data.toList.length ∈ (elems[i]'(by omega)).1.weights Tryd.prog 9 := by
          rw [hy0]
          exact List.mem_singleton.2 rfl
        have hle1 := hwt _ (hmem _ hw)
        refine ⟨s.data.toList, by omega, ?_⟩
        rw [tx_back, e0]
    obtain ⟨ts, htl, hts⟩ := choose_list len hins
    by_cases h0 : len = 0
    · have : ts = [] := List.eq_nil_of_length_eq_zero (by omega)
      subst this
      exact ⟨[], 0, 0, ⟨⟨some a, cap, by rw [h0]; rfl, by simp, hm, fun h => absurd rfl h⟩, fun i hi => by simp at hi⟩, Nat.zero_le _, fun m hm => nomatch hm⟩
    · have ha : ∃ b off, a = ⟨b, off, none⟩ := by
        obtain ⟨_, h1⟩ := hts 0 (by omega)
        obtain ⟨_, _, h2⟩ := World.cells?_some h1
        have h3 := World.cell?_spot (h2 0 (by decide))
        obtain ⟨b, off, spot⟩ := a
        refine ⟨b, off, ?_⟩
        have : spot = none := by simpa [Addr.add] using h3
        rw [this]
      obtain ⟨b, off, rfl⟩ := ha
      have hcell : ∀ i (hi : i < ts.length), W.cell? ⟨b, off + i, none⟩ = some (.string (tx ts[i])) := by
        intro i hi
        obtain ⟨_, h1⟩ := hts i hi
        obtain ⟨_, _, h2⟩ := World.cells?_some h1
        have e0 := h2 0 (by decide)
        rw [Go.WideShapes.add_plain, Go.WideShapes.add_plain, Nat.mul_one] at e0
        exact e0
      refine ⟨ts, b, off, ⟨⟨_, cap, by rw [htl], by omega, hm, fun _ => ⟨rfl, ?_⟩⟩, hcell⟩, by omega, fun t ht => ?_⟩
      · exact World.block_lt_of_cell? W _ (hcell 0 (by omega))
      · obtain ⟨i, hi, rfl⟩ := List.getElem_of_mem ht
        exact (hts i hi).1
set_option maxRecDepth 100000 in
theorem texts_stay {H : Type} {enc : TypeId × Value → H} {W W' : World} {v : Value} {d : DataW H} {p : List MemPlace} (h : DataW.Trod enc Tryd.prog W 0 (fun _ => true) true 52 v d p) (hb : Below W.heap.size W W') :
    DataW.Trod enc Tryd.prog W' 0 (fun b => decide (b < W.heap.size)) true 52 v d p :=
  Below.trod laidOut (by kernel_rfl) (of_decide_eq_true (by kernel_rfl)) h hb (by obtain ⟨m, hm⟩ := h; exact DataW.trod_lt m _ _ _ hm)
theorem reachP : reachBytes = 140737488351232 := by decide
theorem string_reachP {H : Type} {ts : List TypeId} {ds : List (DataW H)} {j : Nat} {t : TypeId} {s : ByteArray} (hsz : (DataW.weightsEach Tryd.prog ts ds).all (· ≤ reachBytes) = true) (ht : ts[j]? = some t) (hd : ds[j]? = some (.lit (.string s.data.toList))) : s.size ≤ 140737488351232 := by
  have hin : s.data.toList.length ∈ (DataW.lit (.string s.data.toList) : DataW H).weights Tryd.prog t := by simp [DataW.weights]
  have hq := List.all_eq_true.1 hsz _ (DataW.weights_mem_each ht hd _ hin)
  rw [decide_eq_true_eq, reachP] at hq
  simpa using hq
end Go.Proofs.YtdgcpgbknfojhaaDoor
