/- Mounts and texts as the form reads them. Condition: the form's own bound on what is reached. -/
import Derived.Test.YtnbdjficoficcaaDoorVwAlive
import Derived.Test.YtnbdjficoficcaaDoorTrOpen

namespace Go.Proofs.YtnbdjficoficcaaDoor
set_option linter.unusedVariables false
open Go.ChangeShapes Go.WideShapes Go.ChangeAt Go.RowKit
theorem mntCells : Tryd.prog.cellsOf 35 = 2 := by kernel_rfl
theorem mntBytes : Tryd.prog.bytesOf 35 = 40 := by kernel_rfl
set_option maxRecDepth 20000 in
theorem mnt_trod {H : Type} {enc : TypeId × Value → H} {W : World} (fuel : Nat) (cs : List Value) (x : DataW H × List MemPlace) (h : DataW.trod enc Tryd.prog W 0 (fun _ => true) true fuel 35 cs = some x) :
    ∃ (s : ByteArray) (c : Value), cs = [.string s, c] ∧ s.data.toList.length ∈ x.1.weights Tryd.prog 35 ∧ ∃ fuel' y, DataW.trod enc Tryd.prog W 0 (fun _ => true) true fuel' 25 [c] = some y ∧ ∀ m ∈ y.1.weights Tryd.prog 25, m ∈ x.1.weights Tryd.prog 35 := by
  obtain ⟨xs, m, hfm, rfl, hl, hlen, hf⟩ := DataW.trod_struct Tryd.underlying35 h
  rw [mntCells] at hl
  match cs, hl with
  | [c0, c1], _ =>
    have hl2 : xs.length = 2 := hlen
    match xs, hl2 with
    | [y0, y1], _ =>
      have h0 : DataW.trod enc Tryd.prog W 0 (fun _ => true) true m 9 (([c0, c1].drop 0).take (Tryd.prog.cellsOf 9)) = some y0 := hf 0 _ rfl
      have h1 : DataW.trod enc Tryd.prog W 0 (fun _ => true) true m 27 (([c0, c1].drop 1).take (Tryd.prog.cellsOf 27)) = some y1 := hf 1 _ rfl
      rw [strCells] at h0
      rw [treeCells] at h1
      have h0 : DataW.trod enc Tryd.prog W 0 (fun _ => true) true m 9 [c0] = some y0 := h0
      have h1 : DataW.trod enc Tryd.prog W 0 (fun _ => true) true m 27 [c1] = some y1 := h1
      obtain ⟨s, e0, hy0, _⟩ := DataW.trod_string Tryd.underlying9 h0
      obtain ⟨c, e1, fuel', y, hy, hm⟩ := tree_trod _ _ _ h1
      simp only [List.cons.injEq, and_true] at e0 e1
      subst e0 e1
      subst hy0
      refine ⟨s, c1, rfl, ?_, fuel', y, hy, fun k hk => ?_⟩
      · simp only [List.map_cons, List.map_nil, DataW.weights, Tryd.underlying35, DataW.weightsEach, List.mem_append]
        left
        exact List.mem_singleton.2 rfl
      · have := hm k hk
        simp only [List.map_cons, List.map_nil, DataW.weights, Tryd.underlying35, DataW.weightsEach, List.mem_append] at this ⊢
        right
        left
        exact this
set_option maxRecDepth 100000 in
theorem open_mnts {H : Type} {enc : TypeId × Value → H} {W : World} {fuel : Nat} {c5 : Value} {d : DataW H} {p : List MemPlace} (hf : DataW.trod enc Tryd.prog W 0 (fun _ => true) true fuel 22 [c5] = some (d, p))
    (hwt : ∀ m ∈ d.weights Tryd.prog 22, m ≤ reachBytes) : ∃ ms kb ko, MntS W (OldB W) c5 ms kb ko ∧ ReachM ms := by
  rcases DataW.trod_slice Tryd.underlying22 hf with ⟨e, _⟩ | ⟨a, len, cap, elems, rest, n, hfn, e, hx, _, hl, hm, hlen, hel, _, _⟩
  · simp only [List.cons.injEq, and_true] at e
    rw [e]
    exact ⟨[], 0, 0, MntS.nil _ _, Nat.zero_le _, fun m hm => nomatch hm⟩
  · simp only [List.cons.injEq, and_true] at e
    rw [e]
    have hrb : reachBytes = 140737488351232 := by decide
    have hd : d = .slice (elems.map (·.1)) (rest.map (·.1)) := congrArg Prod.fst hx
    have hin0 : (elems.length + rest.length) * 40 ∈ d.weights Tryd.prog 22 := by
      rw [hd]
      simp only [DataW.weights, Tryd.underlying22, List.length_map, mntBytes]
      exact List.mem_cons_self
    have hlb := hwt _ hin0
    have hins : ∀ i, i < len → ∃ x : MntL, (x.1.length ≤ 140737488351232 ∧ Reach x.2) ∧ ∃ (u : Value) (jb jo : Nat), InpS W (OldB W) u x.2 jb jo ∧ W.cells? 0 (a.add (i * 2)) 2 = some [.string (tx x.1), u] := by
      intro i hi
      have h1 := hel i hi
      rw [mntCells, List.getElem?_eq_getElem (by omega)] at h1
      cases hc : W.cells? 0 (a.add (i * 2)) 2 with
      | none => rw [hc] at h1; simp at h1
      | some cs' =>
        rw [hc] at h1
        simp only [Option.bind_some] at h1
        obtain ⟨s, u, rfl, w1, fuel', y, hy, w2⟩ := mnt_trod n cs' _ h1
        have hmem : ∀ m, m ∈ (elems[i]'(by omega)).1.weights Tryd.prog 35 → m ∈ d.weights Tryd.prog 22 := fun m hm => by
          rw [hd]
          simp only [DataW.weights, Tryd.underlying22]
          exact List.mem_cons_of_mem _ (List.mem_append_left _ (inp_weightsAll_mem _ _ _ _ _ (List.mem_map.2 ⟨_, List.getElem_mem (by omega), rfl⟩) hm))
        have hle1 := hwt _ (hmem _ w1)
        obtain ⟨ps, jb, jo, hps, hpl, hpe⟩ := open_inps hy fun m hmm => hwt m (hmem m (w2 m hmm))
        refine ⟨⟨s.data.toList, ps⟩, ⟨by show s.data.toList.length ≤ _; omega, hpl, hpe⟩, u, jb, jo, hps, ?_⟩
        show _ = some [Value.string (tx s.data.toList), u]
        rw [tx_back]
    obtain ⟨ms, hml, hms⟩ := choose_list len hins
    by_cases h0 : len = 0
    · have : ms = [] := List.eq_nil_of_length_eq_zero (by omega)
      subst this
      exact ⟨[], 0, 0, ⟨⟨some a, cap, by rw [h0]; rfl, by simp, hm, fun h => absurd rfl h⟩, fun i hi => by simp at hi⟩, Nat.zero_le _, fun m hm => nomatch hm⟩
    · have ha : ∃ b off, a = ⟨b, off, none⟩ := by
        obtain ⟨_, _, _, _, _, h1⟩ := hms 0 (by omega)
        obtain ⟨_, _, h2⟩ := World.cells?_some h1
        have h3 := World.cell?_spot (h2 0 (by decide))
        obtain ⟨b, off, spot⟩ := a
        refine ⟨b, off, ?_⟩
        have : spot = none := by simpa [Addr.add] using h3
        rw [this]
      obtain ⟨b, off, rfl⟩ := ha
      have hcell : ∀ i (hi : i < ms.length), W.cell? ⟨b, off + i * 2, none⟩ = some (.string (tx ms[i].1)) ∧ ∃ q n c jb jo, n = ms[i].2.length ∧ W.cell? ⟨b, off + i * 2 + 1, none⟩ = some (.slice q n c) ∧ InpS W (OldB W) (.slice q n c) ms[i].2 jb jo := by
        intro i hi
        obtain ⟨hw, u, jb, jo, hps, h1⟩ := hms i hi
        obtain ⟨_, _, h2⟩ := World.cells?_some h1
        have e0 := h2 0 (by decide)
        have e1 := h2 1 (by decide)
        rw [Go.WideShapes.add_plain, Go.WideShapes.add_plain] at e0 e1
        obtain ⟨q, c, hu, -⟩ := hps.sh
        subst hu
        exact ⟨e0, q, _, c, jb, jo, rfl, e1, hps⟩
      refine ⟨ms, b, off, ⟨⟨_, cap, by rw [hml], by omega, hm, fun _ => ⟨rfl, ?_⟩⟩, hcell⟩, by omega, fun m hm => ?_⟩
      · exact World.block_lt_of_cell? W _ (hcell 0 (by omega)).1
      · obtain ⟨i, hi, rfl⟩ := List.getElem_of_mem hm
        exact (hms i hi).1
set_option maxRecDepth 100000 in
theorem open_mounts {H : Type} {enc : TypeId × Value → H} {W : World} {base : Nat} {v : Value} {d : DataW H} {p : List MemPlace} (hv : Value.okWide Tryd.prog W .any base 22 v) (h : DataW.Trod enc Tryd.prog W 0 (fun _ => true) true 22 v d p)
    (hwt : ∀ m ∈ d.weights Tryd.prog 22, m ≤ reachBytes) : ∃ ms kb ko, MntS W (OldB W) v ms kb ko ∧ ReachM ms := by
  obtain ⟨a0, len0, cap0, rfl⟩ := okWide_slice Tryd.underlying22 hv
  obtain ⟨fuel, hf⟩ := h
  have hf : DataW.trod enc Tryd.prog W 0 (fun _ => true) true fuel 22 [.slice a0 len0 cap0] = some (d, p) := by simpa [Value.cells] using hf
  exact open_mnts hf hwt
set_option maxRecDepth 100000 in
theorem mounts_stay {H : Type} {enc : TypeId × Value → H} {W W' : World} {v : Value} {d : DataW H} {p : List MemPlace} (h : DataW.Trod enc Tryd.prog W 0 (fun _ => true) true 22 v d p) (hb : Below W.heap.size W W') :
    DataW.Trod enc Tryd.prog W' 0 (fun b => decide (b < W.heap.size)) true 22 v d p :=
  Below.trod laidOut (by kernel_rfl) (of_decide_eq_true (by kernel_rfl)) h hb (by obtain ⟨m, hm⟩ := h; exact DataW.trod_lt m _ _ _ hm)
set_option maxRecDepth 100000 in
theorem open_mount {H : Type} {enc : TypeId × Value → H} {W : World} {base : Nat} {v : Value} {d : DataW H} {p : List MemPlace} (hv : Value.okWide Tryd.prog W .any base 35 v) (h : DataW.Trod enc Tryd.prog W 0 (fun _ => true) true 35 v d p)
    (hwt : ∀ m ∈ d.weights Tryd.prog 35, m ≤ reachBytes) : ∃ (m : MntL) (c : Value) (kb ko : Nat), v = .agg #[.string (tx m.1), c] ∧ InpS W (OldB W) c m.2 kb ko ∧ m.1.length ≤ 140737488351232 ∧ Reach m.2 := by
  obtain ⟨cs, rfl, hsz⟩ := okWide_struct Tryd.underlying35 hv
  obtain ⟨fuel, hf⟩ := h
  obtain ⟨s, c, hcs, w1, fuel', y, hy, w2⟩ := mnt_trod fuel _ _ hf
  have hrb : reachBytes = 140737488351232 := by decide
  have h1 := hwt _ w1
  obtain ⟨ps, kb, ko, hps, hl, hlens⟩ := open_inps hy fun m hmm => hwt m (w2 m hmm)
  refine ⟨⟨s.data.toList, ps⟩, c, kb, ko, ?_, hps, by show s.data.toList.length ≤ _; omega, hl, hlens⟩
  show _ = Value.agg #[.string (tx s.data.toList), c]
  rw [tx_back]
  congr 1
  apply Array.ext'
  simpa [Value.cells] using hcs
set_option maxRecDepth 100000 in
theorem mount_stays {H : Type} {enc : TypeId × Value → H} {W W' : World} {v : Value} {d : DataW H} {p : List MemPlace} (h : DataW.Trod enc Tryd.prog W 0 (fun _ => true) true 35 v d p) (hb : Below W.heap.size W W') :
    DataW.Trod enc Tryd.prog W' 0 (fun b => decide (b < W.heap.size)) true 35 v d p :=
  Below.trod laidOut (by kernel_rfl) (of_decide_eq_true (by kernel_rfl)) h hb (by obtain ⟨m, hm⟩ := h; exact DataW.trod_lt m _ _ _ hm)
theorem strBytes : Tryd.prog.bytesOf 9 = 16 := by kernel_rfl
set_option maxRecDepth 100000 in
theorem open_texts {H : Type} {enc : TypeId × Value → H} {W : World} {base : Nat} {v : Value} {d : DataW H} {p : List MemPlace} (hv : Value.okWide Tryd.prog W .any base 33 v) (h : DataW.Trod enc Tryd.prog W 0 (fun _ => true) true 33 v d p)
    (hwt : ∀ m ∈ d.weights Tryd.prog 33, m ≤ reachBytes) : ∃ ts kb ko, TxtS W (OldB W) v ts kb ko ∧ ts.length ≤ 140737488351232 ∧ ∀ t ∈ ts, t.length ≤ 140737488351232 := by
  obtain ⟨a0, len0, cap0, rfl⟩ := okWide_slice Tryd.underlying33 hv
  obtain ⟨fuel, hf⟩ := h
  have hf : DataW.trod enc Tryd.prog W 0 (fun _ => true) true fuel 33 [.slice a0 len0 cap0] = some (d, p) := by simpa [Value.cells] using hf
  rcases DataW.trod_slice Tryd.underlying33 hf with ⟨e, _⟩ | ⟨a, len, cap, elems, rest, n, hfn, e, hx, _, hl, hm, hlen, hel, _, _⟩
  · simp only [List.cons.injEq, and_true] at e
    rw [e]
    exact ⟨[], 0, 0, TxtS.nil _ _, Nat.zero_le _, fun m hm => nomatch hm⟩
  · simp only [List.cons.injEq, and_true] at e
    rw [e]
    have hrb : reachBytes = 140737488351232 := by decide
    have hd : d = .slice (elems.map (·.1)) (rest.map (·.1)) := congrArg Prod.fst hx
    have hin0 : (elems.length + rest.length) * 16 ∈ d.weights Tryd.prog 33 := by
      rw [hd]
      simp only [DataW.weights, Tryd.underlying33, List.length_map, strBytes]
      exact List.mem_cons_self
    have hlb := hwt _ hin0
    have hins : ∀ i, i < len → ∃ x : List UInt8, x.length ≤ 140737488351232 ∧ W.cells? 0 (a.add (i * 1)) 1 = some [.string (tx x)] := by
      intro i hi
      have h1 := hel i hi
      rw [strCells, List.getElem?_eq_getElem (by omega)] at h1
      cases hc : W.cells? 0 (a.add (i * 1)) 1 with
      | none => rw [hc] at h1; simp at h1
      | some cs' =>
        rw [hc] at h1
        simp only [Option.bind_some] at h1
        obtain ⟨s, e0, hy0, _⟩ := DataW.trod_string Tryd.underlying9 h1
        have hmem : ∀ m, m ∈ (elems[i]'(by omega)).1.weights Tryd.prog 9 → m ∈ d.weights Tryd.prog 33 := fun m hm => by
          rw [hd]
          simp only [DataW.weights, Tryd.underlying33]
          exact List.mem_cons_of_mem _ (List.mem_append_left _ (inp_weightsAll_mem _ _ _ _ _ (List.mem_map.2 ⟨_, List.getElem_mem (by omega), rfl⟩) hm))
        have hw : s.data.toList.length ∈ (elems[i]'(by omega)).1.weights Tryd.prog 9 := by
          rw [hy0]
          exact List.mem_singleton.2 rfl
        have hle1 := hwt _ (hmem _ hw)
        refine ⟨s.data.toList, by omega, ?_⟩
        rw [tx_back, e0]
    obtain ⟨ts, htl, hts⟩ := choose_list len hins
    by_cases h0 : len = 0
    · have : ts = [] := List.eq_nil_of_length_eq_zero (by omega)
      subst this
      exact ⟨[], 0, 0, ⟨⟨some a, cap, by rw [h0]; rfl, by simp, hm, fun h => absurd rfl h⟩, fun i hi => by simp at hi⟩, Nat.zero_le _, fun m hm => nomatch hm⟩
    · have ha : ∃ b off, a = ⟨b, off, none⟩ := by
        obtain ⟨_, h1⟩ := hts 0 (by omega)
        obtain ⟨_, _, h2⟩ := World.cells?_some h1
        have h3 := World.cell?_spot (h2 0 (by decide))
        obtain ⟨b, off, spot⟩ := a
        refine ⟨b, off, ?_⟩
        have : spot = none := by simpa [Addr.add] using h3
        rw [this]
      obtain ⟨b, off, rfl⟩ := ha
      have hcell : ∀ i (hi : i < ts.length), W.cell? ⟨b, off + i, none⟩ = some (.string (tx ts[i])) := by
        intro i hi
        obtain ⟨_, h1⟩ := hts i hi
        obtain ⟨_, _, h2⟩ := World.cells?_some h1
        have e0 := h2 0 (by decide)
        rw [Go.WideShapes.add_plain, Go.WideShapes.add_plain, Nat.mul_one] at e0
        exact e0
      refine ⟨ts, b, off, ⟨⟨_, cap, by rw [htl], by omega, hm, fun _ => ⟨rfl, ?_⟩⟩, hcell⟩, by omega, fun t ht => ?_⟩
      · exact World.block_lt_of_cell? W _ (hcell 0 (by omega))
      · obtain ⟨i, hi, rfl⟩ := List.getElem_of_mem ht
        exact (hts i hi).1
set_option maxRecDepth 100000 in
theorem texts_stay {H : Type} {enc : TypeId × Value → H} {W W' : World} {v : Value} {d : DataW H} {p : List MemPlace} (h : DataW.Trod enc Tryd.prog W 0 (fun _ => true) true 33 v d p) (hb : Below W.heap.size W W') :
    DataW.Trod enc Tryd.prog W' 0 (fun b => decide (b < W.heap.size)) true 33 v d p :=
  Below.trod laidOut (by kernel_rfl) (of_decide_eq_true (by kernel_rfl)) h hb (by obtain ⟨m, hm⟩ := h; exact DataW.trod_lt m _ _ _ hm)
end Go.Proofs.YtnbdjficoficcaaDoor
