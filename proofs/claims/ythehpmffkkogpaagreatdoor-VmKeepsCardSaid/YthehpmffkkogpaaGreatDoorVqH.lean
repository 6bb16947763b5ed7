/- What comes in: the list of words, instructions, numbers. Condition: the form's own bound on what is reached. -/
import Derived.Test.YthehpmffkkogpaaGreatDoorVqF
import Derived.Test.YthehpmffkkogpaaGreatDoorVqA
import Derived.Test.YthehpmffkkogpaaGreatDoorVqG
import Derived.Test.YthehpmffkkogpaaGreatDoorVqB
import Derived.IntWalk
namespace Go.Proofs.YthehpmffkkogpaaGreatDoor
set_option linter.unusedVariables false
open Go.ChangeShapes Go.WideShapes Go.ChangeAt Go.RowKit
theorem gWords : Tryz.prog.globalNamed "sapling/code.words" = some 0 := by kernel_rfl
theorem laid_words : (Rows.laid_sapling_code_words : DataW Unit) = .slice (wordsB.map fun l => .lit (.string l)) [] := rfl
theorem wd_of {l : List (String × DataW Unit)} {W : World} (h : laidMet Tryz.prog l W) (hm : ("sapling/code.words", Rows.laid_sapling_code_words) ∈ l) : Wd W.heap.size W := by
  obtain ⟨g, t, cs, fuel, p, hg, ht, hv, hd⟩ := Lib.laidMet.reads h hm
  obtain rfl := Option.some.inj (gWords.symm.trans hg)
  obtain rfl := Option.some.inj ((show (Tryz.prog.globals[0]?).map (·.type) = some 99 by kernel_rfl).symm.trans ht)
  rw [laid_words] at hd
  rcases DataW.trod_slice Tryz.underlying99 hd with ⟨e, hx⟩ | ⟨a, len, cap, elems, rest, n, hfn, e, hx, _, hl, hm', hlen, hel, _, _⟩
  · simp at hx
  · simp only [Prod.mk.injEq, DataW.slice.injEq] at hx
    obtain ⟨⟨hx1, _⟩, _⟩ := hx
    have hl31 : len = 31 := by
      have := congrArg List.length hx1
      rw [List.length_map, List.length_map, wordsB_len, hlen] at this
      exact this.symm
    subst hl31
    have k1 : Tryz.prog.cellsOf 9 = 1 := by kernel_rfl
    have hcell : ∀ i, i < 31 → W.cell? (a.add i) = some (.string (tx (wordsB.getD i []))) := by
      intro i hi
      have h1 := hel i hi
      rw [k1, Nat.mul_one, List.getElem?_eq_getElem (by omega)] at h1
      cases hc : W.cells? 0 (a.add i) 1 with
      | none => rw [hc] at h1; simp at h1
      | some cs' =>
        rw [hc] at h1
        simp only [Option.bind_some] at h1
        obtain ⟨s, rfl, h2, _⟩ := DataW.trod_string Tryz.underlying9 h1
        obtain ⟨_, _, h3⟩ := World.cells?_some hc
        have h4 := h3 0 (by decide)
        have h5 : (elems.map (·.1))[i]? = some (.lit (.string s.data.toList)) := by rw [List.getElem?_map, List.getElem?_eq_getElem (by omega), h2]; rfl
        rw [← hx1, List.getElem?_map, List.getElem?_eq_getElem (by rw [wordsB_len]; exact hi)] at h5
        simp only [Option.map_some, Option.some.injEq, DataW.lit.injEq, Lit.string.injEq] at h5
        have h6 : wordsB.getD i [] = s.data.toList := by rw [List.getD_eq_getElem?_getD, List.getElem?_eq_getElem (by rw [wordsB_len]; exact hi)]; exact h5
        rw [h6, tx_back]
        have h7 : ∀ x : Addr, x.add 0 = x := fun x => by simp [Addr.add]
        rw [h7] at h4
        exact h4
    have ha : ∃ b off, a = ⟨b, off, none⟩ := by
      have h2 := World.cell?_spot (hcell 0 (by decide))
      obtain ⟨b, off, spot⟩ := a
      refine ⟨b, off, ?_⟩
      have : spot = none := by simpa [Addr.add] using h2
      rw [this]
    obtain ⟨b, off, rfl⟩ := ha
    have hglob : W.cell? ⟨0, 0, none⟩ = some (.slice (some ⟨b, off, none⟩) 31 cap) := by
      unfold World.var? at hv
      rw [gWords] at hv
      simp only [Option.bind_some] at hv
      unfold World.cell?
      split at hv
      · rename_i c t f hh
        simp only [Option.some.injEq] at hv
        subst hv
        rw [hh]
        have : c[0]? = some (.slice (some ⟨b, off, none⟩) 31 cap) := by rw [← Array.getElem?_toList, e]; rfl
        simpa using this
      · cases hv
    refine ⟨Nat.le_refl _, b, off, cap, hl, hm', fun w' hb => ⟨?_, fun i hi => ?_⟩⟩
    · rw [← hglob]; exact World.cell?_of_block (hb.block _ (World.block_lt_of_cell? W _ hglob))
    · have h1 := hcell i hi
      rw [Go.WideShapes.add_plain] at h1
      rw [← h1]; exact World.cell?_of_block (hb.block _ (World.block_lt_of_cell? W _ h1))
theorem insCells : Tryz.prog.cellsOf 46 = 3 := by kernel_rfl
theorem ins_weightsAll_mem {H : Type} (P : Program) (e : TypeId) (n : Nat) : ∀ (l : List (DataW H)) (d : DataW H), d ∈ l → n ∈ d.weights P e → n ∈ DataW.weightsAll P e l
  | [], d, h, _ => by simp at h
  | x :: r, d, h, hn => by
    rw [DataW.weightsAll, List.mem_append]
    rcases List.mem_cons.1 h with rfl | h
    · exact .inl hn
    · exact .inr (ins_weightsAll_mem P e n r d h hn)
set_option maxRecDepth 20000 in
theorem ins_trod {H : Type} {enc : TypeId × Value → H} {W : World} (fuel : Nat) (cs : List Value) (x : DataW H × List MemPlace) (h : DataW.trod enc Tryz.prog W 0 (fun _ => true) true fuel 46 cs = some x) :
    ∃ (op n : Int) (s : ByteArray), cs = [.int .i64 op, .int .i64 n, .string s] ∧ (Lit.int .i64 op).wf = true ∧ (Lit.int .i64 n).wf = true ∧ s.data.toList.length ∈ x.1.weights Tryz.prog 46 := by
  obtain ⟨xs, m, hfm, rfl, hl, hlen, hf⟩ := DataW.trod_struct Tryz.underlying46 h
  rw [insCells] at hl
  match cs, hl with
  | [c0, c1, c2], _ =>
    have hl3 : xs.length = 3 := hlen
    match xs, hl3 with
    | [y0, y1, y2], _ =>
      have k3 : Tryz.prog.cellsOf 3 = 1 := by kernel_rfl
      have k9 : Tryz.prog.cellsOf 9 = 1 := by kernel_rfl
      have h0 : DataW.trod enc Tryz.prog W 0 (fun _ => true) true m 3 (([c0, c1, c2].drop 0).take (Tryz.prog.cellsOf 3)) = some y0 := hf 0 _ rfl
      have h1 : DataW.trod enc Tryz.prog W 0 (fun _ => true) true m 3 (([c0, c1, c2].drop 1).take (Tryz.prog.cellsOf 3)) = some y1 := hf 1 _ rfl
      have h2 : DataW.trod enc Tryz.prog W 0 (fun _ => true) true m 9 (([c0, c1, c2].drop 2).take (Tryz.prog.cellsOf 9)) = some y2 := hf 2 _ rfl
      rw [k3] at h0 h1
      rw [k9] at h2
      have h0 : DataW.trod enc Tryz.prog W 0 (fun _ => true) true m 3 [c0] = some y0 := h0
      have h1 : DataW.trod enc Tryz.prog W 0 (fun _ => true) true m 3 [c1] = some y1 := h1
      have h2 : DataW.trod enc Tryz.prog W 0 (fun _ => true) true m 9 [c2] = some y2 := h2
      obtain ⟨op, e0, _, w0⟩ := DataW.trod_int Tryz.underlying3 h0
      obtain ⟨n, e1, _, w1⟩ := DataW.trod_int Tryz.underlying3 h1
      obtain ⟨s, e2, hy2, _⟩ := DataW.trod_string Tryz.underlying9 h2
      simp only [List.cons.injEq, and_true] at e0 e1 e2
      subst e0 e1 e2
      refine ⟨op, n, s, rfl, w0, w1, ?_⟩
      subst hy2
      simp only [List.map_cons, List.map_nil, DataW.weights, Tryz.underlying46, DataW.weightsEach, List.mem_append]
      right
      right
      left
      exact List.mem_singleton.2 rfl
set_option maxRecDepth 100000 in
theorem open_inss {H : Type} {enc : TypeId × Value → H} {W : World} {base : Nat} {v : Value} {d : DataW H} {p : List MemPlace} (hv : Value.okWide Tryz.prog W .any base 22 v) (h : DataW.Trod enc Tryz.prog W 0 (fun _ => true) true 22 v d p)
    (hwt : ∀ m ∈ d.weights Tryz.prog 22, m ≤ reachBytes) : ∃ ps kb ko, InsS W (OldB W) v ps kb ko := by
  obtain ⟨a0, len0, cap0, rfl⟩ := okWide_slice Tryz.underlying22 hv
  obtain ⟨fuel, hf⟩ := h
  have hf : DataW.trod enc Tryz.prog W 0 (fun _ => true) true fuel 22 [.slice a0 len0 cap0] = some (d, p) := by simpa [Value.cells] using hf
  rcases DataW.trod_slice Tryz.underlying22 hf with ⟨e, _⟩ | ⟨a, len, cap, elems, rest, n, hfn, e, hx, _, hl, hm, hlen, hel, _, _⟩
  · simp only [List.cons.injEq, and_true] at e
    rw [e]
    exact ⟨[], 0, 0, ⟨⟨none, 0, rfl, Nat.le_refl _, Nat.zero_le _, fun h => absurd rfl h⟩, fun i hi => by simp at hi⟩⟩
  · simp only [List.cons.injEq, and_true] at e
    rw [e]
    have hrb : reachBytes = 140737488351232 := by decide
    have hd : d = .slice (elems.map (·.1)) (rest.map (·.1)) := congrArg Prod.fst hx
    have hins : ∀ i, i < len → ∃ x : InsL, x.wf ∧ W.cells? 0 (a.add (i * 3)) 3 = some [.int .i64 x.op, .int .i64 x.n, .string (tx x.s)] := by
      intro i hi
      have h1 := hel i hi
      rw [insCells, List.getElem?_eq_getElem (by omega)] at h1
      cases hc : W.cells? 0 (a.add (i * 3)) 3 with
      | none => rw [hc] at h1; simp at h1
      | some cs' =>
        rw [hc] at h1
        simp only [Option.bind_some] at h1
        obtain ⟨op, nn, s, rfl, w0, w1, w2⟩ := ins_trod n cs' _ h1
        have hin : s.data.toList.length ∈ d.weights Tryz.prog 22 := by
          rw [hd]
          simp only [DataW.weights, Tryz.underlying22]
          exact List.mem_cons_of_mem _ (List.mem_append_left _ (ins_weightsAll_mem _ _ _ _ _ (List.mem_map.2 ⟨_, List.getElem_mem (by omega), rfl⟩) w2))
        have hle := hwt _ hin
        refine ⟨⟨op, nn, s.data.toList⟩, ⟨bounds_i64 w0, bounds_i64 w1, by show s.data.toList.length ≤ _; omega⟩, ?_⟩
        show _ = some [Value.int .i64 op, Value.int .i64 nn, .string (tx s.data.toList)]
        rw [tx_back]
    obtain ⟨ps, hpl, hps⟩ := choose_list len hins
    by_cases h0 : len = 0
    · have : ps = [] := List.eq_nil_of_length_eq_zero (by omega)
      subst this
      exact ⟨[], 0, 0, ⟨⟨some a, cap, by rw [h0]; rfl, by simp, hm, fun h => absurd rfl h⟩, fun i hi => by simp at hi⟩⟩
    · have ha : ∃ b off, a = ⟨b, off, none⟩ := by
        obtain ⟨_, h1⟩ := hps 0 (by omega)
        obtain ⟨_, _, h2⟩ := World.cells?_some h1
        have h3 := World.cell?_spot (h2 0 (by decide))
        obtain ⟨b, off, spot⟩ := a
        refine ⟨b, off, ?_⟩
        have : spot = none := by simpa [Addr.add] using h3
        rw [this]
      obtain ⟨b, off, rfl⟩ := ha
      have hcell : ∀ i (hi : i < ps.length), ps[i].wf ∧ W.cell? ⟨b, off + i * 3, none⟩ = some (.int .i64 ps[i].op) ∧ W.cell? ⟨b, off + i * 3 + 1, none⟩ = some (.int .i64 ps[i].n) ∧ W.cell? ⟨b, off + i * 3 + 2, none⟩ = some (.string (tx ps[i].s)) := by
        intro i hi
        obtain ⟨hw, h1⟩ := hps i hi
        obtain ⟨_, _, h2⟩ := World.cells?_some h1
        have e0 := h2 0 (by decide)
        have e1 := h2 1 (by decide)
        have e2 := h2 2 (by decide)
        rw [Go.WideShapes.add_plain, Go.WideShapes.add_plain] at e0 e1 e2
        exact ⟨hw, e0, e1, e2⟩
      refine ⟨ps, b, off, ⟨⟨_, cap, by rw [hpl], by omega, hm, fun _ => ⟨rfl, ?_⟩⟩, hcell⟩⟩
      exact World.block_lt_of_cell? W _ (hcell 0 (by omega)).2.1
theorem inss_stay {H : Type} {enc : TypeId × Value → H} {W W' : World} {v : Value} {d : DataW H} {p : List MemPlace} (h : DataW.Trod enc Tryz.prog W 0 (fun _ => true) true 22 v d p) (hb : Below W.heap.size W W') :
    DataW.Trod enc Tryz.prog W' 0 (fun b => decide (b < W.heap.size)) true 22 v d p :=
  Below.trod laidOut (by kernel_rfl) (of_decide_eq_true (by kernel_rfl)) h hb (by obtain ⟨m, hm⟩ := h; exact DataW.trod_lt m _ _ _ hm)

theorem insBytes : Tryz.prog.bytesOf 46 = 32 := by kernel_rfl
structure NumS (w : World) (S : Nat → Prop) (v : Value) (l : List Int) (kb ko : Nat) : Prop where
  sh : ∃ q c, v = .slice q l.length c ∧ l.length ≤ c ∧ c ≤ maxLen ∧ (l ≠ [] → q = some ⟨kb, ko, none⟩ ∧ S kb)
  at' : ∀ i (hi : i < l.length), w.cell? ⟨kb, ko + i, none⟩ = some (.int .i64 l[i]) ∧ -9223372036854775808 ≤ l[i] ∧ l[i] ≤ 9223372036854775807
theorem NumS.keep {w w' : World} {S T : Nat → Prop} (hc : Chg T w w') (hST : ∀ k, S k → ¬ T k) {v : Value} {l : List Int} {kb ko : Nat} (h : NumS w S v l kb ko) : NumS w' S v l kb ko := by
  obtain ⟨hsh, hat⟩ := h
  refine ⟨hsh, fun i hi => ?_⟩
  obtain ⟨q, c, _, _, _, hq⟩ := hsh
  have hne : l ≠ [] := by rintro rfl; simp at hi
  have hS := hST kb (hq hne).2
  exact ⟨hc.cell (hat i hi).1 hS, (hat i hi).2⟩
set_option maxRecDepth 100000 in
theorem open_ints {H : Type} {enc : TypeId × Value → H} {W : World} {base : Nat} {v : Value} {d : DataW H} {p : List MemPlace} (hv : Value.okWide Tryz.prog W .any base 32 v) (h : DataW.Trod enc Tryz.prog W 0 (fun _ => true) true 32 v d p)
    (hwt : ∀ m ∈ d.weights Tryz.prog 32, m ≤ reachBytes) : ∃ ts kb ko, NumS W (OldB W) v ts kb ko := by
  obtain ⟨a0, len0, cap0, rfl⟩ := okWide_slice Tryz.underlying32 hv
  obtain ⟨fuel, hf⟩ := h
  have hf : DataW.trod enc Tryz.prog W 0 (fun _ => true) true fuel 32 [.slice a0 len0 cap0] = some (d, p) := by simpa [Value.cells] using hf
  have intCells : Tryz.prog.cellsOf 3 = 1 := by kernel_rfl
  rcases DataW.trod_slice Tryz.underlying32 hf with ⟨e, _⟩ | ⟨a, len, cap, elems, rest, n, hfn, e, hx, _, hl, hm, hlen, hel, _, _⟩
  · simp only [List.cons.injEq, and_true] at e
    rw [e]
    exact ⟨[], 0, 0, ⟨⟨none, 0, rfl, Nat.le_refl _, Nat.zero_le _, fun h => absurd rfl h⟩, fun i hi => by simp at hi⟩⟩
  · simp only [List.cons.injEq, and_true] at e
    rw [e]
    have hins : ∀ i, i < len → ∃ x : Int, (-9223372036854775808 ≤ x ∧ x ≤ 9223372036854775807) ∧ W.cells? 0 (a.add (i * 1)) 1 = some [.int .i64 x] := by
      intro i hi
      have h1 := hel i hi
      rw [intCells, List.getElem?_eq_getElem (by omega)] at h1
      cases hc : W.cells? 0 (a.add (i * 1)) 1 with
      | none => rw [hc] at h1; simp at h1
      | some cs' =>
        rw [hc] at h1
        simp only [Option.bind_some] at h1
        obtain ⟨x, e0, _, w0⟩ := DataW.trod_int Tryz.underlying3 h1
        exact ⟨x, bounds_i64 w0, by rw [e0]⟩
    obtain ⟨ts, htl, hts⟩ := choose_list len hins
    by_cases h0 : len = 0
    · have : ts = [] := List.eq_nil_of_length_eq_zero (by omega)
      subst this
      exact ⟨[], 0, 0, ⟨⟨some a, cap, by rw [h0]; rfl, by simp, hm, fun h => absurd rfl h⟩, fun i hi => by simp at hi⟩⟩
    · have ha : ∃ b off, a = ⟨b, off, none⟩ := by
        obtain ⟨_, h1⟩ := hts 0 (by omega)
        obtain ⟨_, _, h2⟩ := World.cells?_some h1
        have h3 := World.cell?_spot (h2 0 (by decide))
        obtain ⟨b, off, spot⟩ := a
        refine ⟨b, off, ?_⟩
        have : spot = none := by simpa [Addr.add] using h3
        rw [this]
      obtain ⟨b, off, rfl⟩ := ha
      have hcell : ∀ i (hi : i < ts.length), W.cell? ⟨b, off + i, none⟩ = some (.int .i64 ts[i]) ∧ -9223372036854775808 ≤ ts[i] ∧ ts[i] ≤ 9223372036854775807 := by
        intro i hi
        obtain ⟨hb, h1⟩ := hts i hi
        obtain ⟨_, _, h2⟩ := World.cells?_some h1
        have e0 := h2 0 (by decide)
        rw [Go.WideShapes.add_plain, Go.WideShapes.add_plain, Nat.mul_one] at e0
        exact ⟨e0, hb⟩
      refine ⟨ts, b, off, ⟨⟨_, cap, by rw [htl], by omega, hm, fun _ => ⟨rfl, ?_⟩⟩, hcell⟩⟩
      exact World.block_lt_of_cell? W _ (hcell 0 (by omega)).1
set_option maxRecDepth 100000 in
theorem ints_stay {H : Type} {enc : TypeId × Value → H} {W W' : World} {v : Value} {d : DataW H} {p : List MemPlace} (h : DataW.Trod enc Tryz.prog W 0 (fun _ => true) true 32 v d p) (hb : Below W.heap.size W W') :
    DataW.Trod enc Tryz.prog W' 0 (fun b => decide (b < W.heap.size)) true 32 v d p :=
  Below.trod laidOut (by kernel_rfl) (of_decide_eq_true (by kernel_rfl)) h hb (by obtain ⟨m, hm⟩ := h; exact DataW.trod_lt m _ _ _ hm)
theorem lb8_of {W : World} (h : laidMet Tryz.prog [("math/bits.deBruijn32tab", Rows.laid_math_bits_deBruijn32tab), ("math/bits.deBruijn64tab", Rows.laid_math_bits_deBruijn64tab), ("internal/strconv.uint64pow10", Rows.laid_internal_strconv_uint64pow10), ("unicode/utf8.acceptRanges", Rows.laid_unicode_utf8_acceptRanges), ("strconv.ErrRange", Rows.laid_strconv_ErrRange), ("strconv.ErrSyntax", Rows.laid_strconv_ErrSyntax), ("sapling/code.words", Rows.laid_sapling_code_words), ("unicode/utf8.first", Rows.laid_unicode_utf8_first)] W) (hs : W.ShapedOpen Tryz.prog) : Lb W.heap.size W ∧ Wd W.heap.size W := by
  obtain ⟨tp, p, h1⟩ := syn_of h.tail.tail.tail.tail.tail
  obtain ⟨tq, q, h2⟩ := rng_of h.tail.tail.tail.tail
  obtain ⟨m, h3⟩ := ml_of W hs
  refine ⟨⟨Nat.le_refl _, Lib.tabBelow_of_tabIs (tb_of h (.tail _ (.tail _ (.head _)))), ⟨tp, p, fun w' hb => Joins.var_stays gSyn h1 hb (Nat.le_refl _)⟩, ⟨tq, q, fun w' hb => Joins.var_stays gRng h2 hb (Nat.le_refl _)⟩, ⟨m, fun w' hb => ?_⟩⟩, wd_of h (.tail _ (.tail _ (.tail _ (.tail _ (.tail _ (.tail _ (.head _)))))))⟩
  rw [← h3]
  exact World.cell?_of_block (hb.block _ (World.block_lt_of_cell? W _ h3))
theorem pairCells : Tryz.prog.cellsOf 57 = 2 := by kernel_rfl
set_option maxRecDepth 100000 in
theorem open_pair {H : Type} {enc : TypeId × Value → H} {W : World} {base : Nat} {v : Value} {d : DataW H} {p : List MemPlace} (hv : Value.okWide Tryz.prog W .any base 57 v) (h : DataW.Trod enc Tryz.prog W 0 (fun _ => true) true 57 v d p) :
    ∃ x y : Int, v = .agg #[.int .i64 x, .int .i64 y] ∧ (-9223372036854775808 ≤ x ∧ x ≤ 9223372036854775807) ∧ (-9223372036854775808 ≤ y ∧ y ≤ 9223372036854775807) := by
  have hv2 : ∃ cs, v = .agg cs := by
    simp only [Value.okWide, Tryz.underlying57] at hv
    obtain ⟨cs, h1, -⟩ := hv
    exact ⟨cs, h1⟩
  obtain ⟨cs, rfl⟩ := hv2
  obtain ⟨fuel, hf⟩ := h
  obtain ⟨xs, m, hfm, hx, hl, hlen, hel⟩ := DataW.trod_array Tryz.underlying57 hf
  rw [pairCells] at hl
  have intCells : Tryz.prog.cellsOf 3 = 1 := by kernel_rfl
  have hcs : (Value.agg cs).cells.toList = cs.toList := rfl
  rw [hcs] at hl hel
  match xs, hlen with
  | [y0, y1], _ =>
    obtain ⟨c0, c1, hc⟩ : ∃ c0 c1, cs.toList = [c0, c1] := by
      match hc : cs.toList, hl with
      | [c0, c1], _ => exact ⟨c0, c1, rfl⟩
    rw [hc] at hel
    have h0 : DataW.trod enc Tryz.prog W 0 (fun _ => true) true m 3 (([c0, c1].drop (0 * Tryz.prog.cellsOf 3)).take (Tryz.prog.cellsOf 3)) = some y0 := hel 0 (by decide)
    have h1 : DataW.trod enc Tryz.prog W 0 (fun _ => true) true m 3 (([c0, c1].drop (1 * Tryz.prog.cellsOf 3)).take (Tryz.prog.cellsOf 3)) = some y1 := hel 1 (by decide)
    rw [intCells] at h0 h1
    have h0 : DataW.trod enc Tryz.prog W 0 (fun _ => true) true m 3 [c0] = some y0 := h0
    have h1 : DataW.trod enc Tryz.prog W 0 (fun _ => true) true m 3 [c1] = some y1 := h1
    obtain ⟨x, e0, _, w0⟩ := DataW.trod_int Tryz.underlying3 h0
    obtain ⟨y, e1, _, w1⟩ := DataW.trod_int Tryz.underlying3 h1
    simp only [List.cons.injEq, and_true] at e0 e1
    subst e0 e1
    refine ⟨x, y, ?_, bounds_i64 w0, bounds_i64 w1⟩
    congr 1
    apply Array.ext'
    exact hc
set_option maxRecDepth 100000 in
theorem pair_stays {H : Type} {enc : TypeId × Value → H} {W W' : World} {v : Value} {d : DataW H} {p : List MemPlace} (h : DataW.Trod enc Tryz.prog W 0 (fun _ => true) true 57 v d p) (hb : Below W.heap.size W W') :
    DataW.Trod enc Tryz.prog W' 0 (fun b => decide (b < W.heap.size)) true 57 v d p :=
  Below.trod laidOut (by kernel_rfl) (of_decide_eq_true (by kernel_rfl)) h hb (by obtain ⟨m, hm⟩ := h; exact DataW.trod_lt m _ _ _ hm)
end Go.Proofs.YthehpmffkkogpaaGreatDoor
namespace Go.Proofs.YthehpmffkkogpaaGreatDoor
set_option linter.unusedVariables false
open Go.ChangeShapes Go.WideShapes Go.ChangeAt Go.RowKit
def insC : List InsL → List Value
  | [] => []
  | x :: r => .int .i64 x.op :: .int .i64 x.n :: .string (tx x.s) :: insC r
theorem insC_at : ∀ (l : List InsL) (i : Nat) (h : i < l.length), (insC l)[i * 3]? = some (.int .i64 l[i].op) ∧ (insC l)[i * 3 + 1]? = some (.int .i64 l[i].n) ∧ (insC l)[i * 3 + 2]? = some (.string (tx l[i].s))
  | x :: r, 0, _ => ⟨rfl, rfl, rfl⟩
  | x :: r, i + 1, h => by
    have := insC_at r i (by simpa using h)
    have e : (i + 1) * 3 = i * 3 + 3 := by omega
    rw [e]
    exact this
theorem insS_new {w : World} {b : Nat} {ps : List InsL} {cs : Array Value} (hw : ∀ x ∈ ps, x.wf) (hl : ps.length ≤ maxLen) (h : w.heap[b]? = some (.cells cs 46 (0, 0))) (hc : cs = (insC ps).toArray) {k : Nat} (hk : k = ps.length) : InsS w (fun x => x = b) (.slice (some ⟨b, 0, none⟩) k k) ps b 0 := by
  subst hk
  subst hc
  have c := fun i => cell_of_row w b i _ _ (0, 0) h
  refine ⟨⟨_, _, rfl, Nat.le_refl _, hl, fun _ => ⟨rfl, rfl⟩⟩, fun i hi => ?_⟩
  obtain ⟨a1, a2, a3⟩ := insC_at ps i hi
  refine ⟨hw _ (List.getElem_mem hi), ?_, ?_, ?_⟩
  · rw [c, Nat.zero_add]; simpa using a1
  · rw [c, Nat.zero_add]; simpa using a2
  · rw [c, Nat.zero_add]; simpa using a3
theorem pA_wf : ∀ x ∈ pA, x.wf := by
  intro x hx
  simp only [pA, List.mem_cons, List.not_mem_nil, or_false] at hx
  rcases hx with rfl | rfl | rfl <;> exact ⟨by decide, by decide, by decide⟩
theorem pB_wf : ∀ x ∈ pB, x.wf := by
  intro x hx
  simp only [pB, List.mem_cons, List.not_mem_nil, or_false] at hx
  rcases hx with rfl <;> exact ⟨by decide, by decide, by decide⟩
set_option maxHeartbeats 2000000 in
set_option maxRecDepth 20000 in
theorem malive_any (base : Nat) (w : World) (hwd : Wd base w) (hlb : Lb base w) (hml : Pth.Ml w) : Calls Tryz.prog 13 #[] w (SayB true w) := by
  have hal_ := (Chg.refl NoB w).alloc (.cells #[.int .i64 3, .int .i64 0, .string ⟨#[97]⟩, .int .i64 3, .int .i64 0, .string ⟨#[120]⟩, .int .i64 29, .int .i64 0, .string ⟨#[]⟩] 46)
  have hb_ := heap_alloc_new w (.cells #[.int .i64 3, .int .i64 0, .string ⟨#[97]⟩, .int .i64 3, .int .i64 0, .string ⟨#[120]⟩, .int .i64 29, .int .i64 0, .string ⟨#[]⟩] 46)
  obtain ⟨b1, hxb_⟩ : ∃ b, b = w.heap.size := ⟨_, rfl⟩
  obtain ⟨w1, hw_⟩ : ∃ w_, w.alloc (.cells #[.int .i64 3, .int .i64 0, .string ⟨#[97]⟩, .int .i64 3, .int .i64 0, .string ⟨#[120]⟩, .int .i64 29, .int .i64 0, .string ⟨#[]⟩] 46) = w_ := ⟨_, rfl⟩
  have hz_ : w1.heap.size = b1 + 1 := by rw [← hw_, hxb_]; exact alloc_size _ _
  rw [hw_] at hal_ hb_
  rw [← hxb_] at hb_
  have Hw1 := Lib.hid hw_
  have Hx1 := Lib.hid hxb_
  have Ha1 := Lib.hid hal_
  have Hb1 := Lib.hid hb_
  have Hz1 := Lib.hid hz_
  clear hal_ hb_ hxb_ hw_ hz_
  have Hc1 := Lib.hid Ha1.out
  have HA := Lib.hid (run_any pA [] _ NoB _ (.slice none 0 0) b1 0 0 0 base w1 (hwd.keep Hc1.out) (hlb.keep Hc1.out) (ml_keep hml Hc1.out) (by decide) (by decide) (fun x hx => nomatch hx) (insS_new pA_wf (by decide) Hb1.out rfl (k := 3) rfl) (InpS.nil _ _))
  have HB := Lib.hid (fun (w' : World) (h : Chg NoB w w') (b : Nat) (hb : w'.heap[b]? = some (.cells #[.int .i64 17, .int .i64 0, .string ⟨#[]⟩] 46 (0, 0))) => run_any pB [] _ NoB _ (.slice none 0 0) b 0 0 0 base w' (hwd.keep h) (hlb.keep h) (ml_keep hml h) (by decide) (by decide) (fun x hx => nomatch hx) (insS_new pB_wf (by decide) hb rfl (k := 1) rfl) (InpS.nil _ _))
  clear hwd hlb hml
  go_enter Tryz.func13, Tryz.ntmps13
  go_wp2_with fail
  rw [← Hx1.out, Hw1.out]
  refine HA.out.mono ?_
  intro e w2 hr
  unfold RunP at hr
  rw [pA_run.1, pA_run.2.1, pA_run.2.2] at hr
  obtain ⟨hc2, q2, k2, c2, kb2, ko2, hk2, rfl, hs2⟩ := hr
  change k2 = 1 at hk2
  subst hk2
  have Hs2 := Lib.hid hs2
  have Hc2 := Lib.hid (Hc1.out.trans hc2)
  clear hc2 hs2 HA
  have hal_ := (Chg.refl NoB w2).alloc (.cells #[.slice q2 1 c2] 25)
  have hb_ := heap_alloc_new w2 (.cells #[.slice q2 1 c2] 25)
  obtain ⟨b3, hxb_⟩ : ∃ b, b = w2.heap.size := ⟨_, rfl⟩
  obtain ⟨w3, hw_⟩ : ∃ w_, w2.alloc (.cells #[.slice q2 1 c2] 25) = w_ := ⟨_, rfl⟩
  have hz_ : w3.heap.size = b3 + 1 := by rw [← hw_, hxb_]; exact alloc_size _ _
  rw [hw_] at hal_ hb_
  rw [← hxb_] at hb_
  have Hw3 := Lib.hid hw_
  have Hx3 := Lib.hid hxb_
  have Ha3 := Lib.hid hal_
  have Hb3 := Lib.hid hb_
  have Hz3 := Lib.hid hz_
  clear hal_ hb_ hxb_ hw_ hz_
  have hal_ := (Chg.refl NoB w3).alloc (.cells #[.int .i64 17, .int .i64 0, .string ⟨#[]⟩] 46)
  have hb_ := heap_alloc_new w3 (.cells #[.int .i64 17, .int .i64 0, .string ⟨#[]⟩] 46)
  obtain ⟨b4, hxb_⟩ : ∃ b, b = w3.heap.size := ⟨_, rfl⟩
  obtain ⟨w4, hw_⟩ : ∃ w_, w3.alloc (.cells #[.int .i64 17, .int .i64 0, .string ⟨#[]⟩] 46) = w_ := ⟨_, rfl⟩
  have hz_ : w4.heap.size = b4 + 1 := by rw [← hw_, hxb_]; exact alloc_size _ _
  rw [hw_] at hal_ hb_
  rw [← hxb_] at hb_
  have Hw4 := Lib.hid hw_
  have Hx4 := Lib.hid hxb_
  have Ha4 := Lib.hid hal_
  have Hb4 := Lib.hid hb_
  have Hz4 := Lib.hid hz_
  clear hal_ hb_ hxb_ hw_ hz_
  have Hc4 := Lib.hid (Hc2.out.trans (Ha3.out.trans Ha4.out))
  have HB4 := Lib.hid (HB.out w4 Hc4.out b4 Hb4.out)
  have hx34 : b3 + 1 = b4 := by rw [Hx4.out, Hz3.out]
  have Hx34 := Lib.hid hx34
  clear hx34
  go_upto_region 2 with fail
  rw [Hw3.out, ← Hx3.out]
  go_wp2_with fail
  rw [← Hx4.out, Hw4.out]
  refine HB4.out.mono ?_
  intro e w5 hr
  unfold RunP at hr
  rw [pB_run.1, pB_run.2] at hr
  obtain ⟨hc5, q5, k5, c5, kb5, ko5, hk5, rfl, hs5⟩ := hr
  have Hc5 := Lib.hid hc5
  clear hc5 hs5 hk5 HB4 HB
  have hal_ := (Chg.refl NoB w5).alloc (.cells #[.slice q5 k5 c5] 25)
  have hb_ := heap_alloc_new w5 (.cells #[.slice q5 k5 c5] 25)
  obtain ⟨b6, hxb_⟩ : ∃ b, b = w5.heap.size := ⟨_, rfl⟩
  obtain ⟨w6, hw_⟩ : ∃ w_, w5.alloc (.cells #[.slice q5 k5 c5] 25) = w_ := ⟨_, rfl⟩
  have hz_ : w6.heap.size = b6 + 1 := by rw [← hw_, hxb_]; exact alloc_size _ _
  rw [hw_] at hal_ hb_
  rw [← hxb_] at hb_
  have Hw6 := Lib.hid hw_
  have Hx6 := Lib.hid hxb_
  have Ha6 := Lib.hid hal_
  have Hb6 := Lib.hid hb_
  have Hz6 := Lib.hid hz_
  clear hal_ hb_ hxb_ hw_ hz_
  have hk := Ha4.out.trans (Hc5.out.trans Ha6.out)
  have t0 := var1 (row_kept hk Hb3.out id)
  obtain ⟨⟨q', c', he, -, -, hq⟩, hat⟩ := Hs2.out.keep (Ha3.out.trans hk) fun _ _ => id
  cases he
  obtain ⟨rfl, -⟩ := hq (by decide)
  have d1 := (hat 0 (by decide)).2
  change _ = some (Value.string ⟨#[120]⟩) at d1
  rw [Nat.zero_mul, Nat.add_zero] at d1
  have Hc6 := Lib.hid (Hc4.out.trans (Hc5.out.trans Ha6.out))
  clear hk hq hat
  go_upto_region 3 with fail
  rw [Hw6.out, ← Hx6.out]
  go_wp2_with fail
  go_ret
  exact ⟨rfl, Hc6.out⟩
structure SmallG (ps : List InsL) (view : List FileL) : Prop where
  plen : ps.length ≤ 400
  vlen : view.length ≤ 100
  files : ∀ x ∈ view, x.1.length ≤ 262144 ∧ x.2.length ≤ 262144
def GreatP (ps : List InsL) (view : List FileL) (w : World) (e : Ending) (w' : World) : Prop := Chg NoB w w' ∧ ∃ g : Bool, e = .returned (.bool g) ∧ (g = false → SmallG ps view)
set_option maxHeartbeats 4000000 in
set_option maxRecDepth 20000 in
theorem mgreat_any (ps : List InsL) (view : List FileL) (hr : Reach view) (S T : Nat → Prop) (v u : Value) (pb po kb ko : Nat) (w : World) (hp : InsS w S v ps pb po) (hv : InpS w T u view kb ko) :
    Calls Tryz.prog 14 #[v, .agg #[u]] w (GreatP ps view w) := by
  obtain ⟨⟨q, c, rfl, h1, h2, h3⟩, hat⟩ := hp
  obtain ⟨⟨r, d, rfl, g1, g2, g3⟩, gat⟩ := hv
  obtain ⟨n, hn⟩ : ∃ n, n = ps.length := ⟨_, rfl⟩
  obtain ⟨m, hm⟩ : ∃ m, m = view.length := ⟨_, rfl⟩
  rw [← hn] at h1 ⊢
  rw [← hm] at g1 ⊢
  have H3 := Lib.hid h3
  have Hat := Lib.hid hat
  have Hn := Lib.hid hn
  have G3 := Lib.hid g3
  have Gat := Lib.hid gat
  have Hm := Lib.hid hm
  have Hr := Lib.hid hr.2
  have hal_ := (Chg.refl NoB w).alloc (.cells #[.slice r m d] 25)
  have hb_ := heap_alloc_new w (.cells #[.slice r m d] 25)
  obtain ⟨vb, hxb_⟩ : ∃ b, b = w.heap.size := ⟨_, rfl⟩
  obtain ⟨w1, hw_⟩ : ∃ w_, w.alloc (.cells #[.slice r m d] 25) = w_ := ⟨_, rfl⟩
  have hz_ : w1.heap.size = vb + 1 := by rw [← hw_, hxb_]; exact alloc_size _ _
  rw [hw_] at hal_ hb_
  rw [← hxb_] at hb_
  have Hw1 := Lib.hid hw_
  have Hx1 := Lib.hid hxb_
  have Ha1 := Lib.hid hal_
  have Hb1 := Lib.hid hb_
  have Hz1 := Lib.hid hz_
  clear hal_ hb_ hxb_ hw_ hz_
  have v0 := var1 Hb1.out
  unfold maxLen at h2 g2
  clear hn hm h3 hat g3 gat hr
  go_enter Tryz.func14, Tryz.ntmps14
  go_upto_region 1 with fail
  rw [Hw1.out, ← Hx1.out]
  go_wp2_with fail
  go_loopw [5, 12] (fun sv i wr => ∃ k x : Nat, k ≤ n ∧ x ≤ 131072 ∧ sv = .int .i64 x ∧ i = .int .i64 k ∧ Chg NoB w1 wr) (fun _ i _ => n - (intOf i).toNat)
  case atStart => exact ⟨0, 0, Nat.zero_le _, Nat.zero_le _, rfl, rfl, Chg.refl _ _⟩
  case round =>
    obtain ⟨k, x, hk, hx, rfl, rfl, hch⟩ := hrel
    have Hch := Lib.hid hch
    have v1 := hch.keep v0
    clear hch
    by_cases hlt : k < n
    · have hlt' : k < ps.length := by rw [← Hn.out]; exact hlt
      obtain ⟨rfl, -⟩ := H3.out (by intro e; rw [e] at hlt'; simp at hlt')
      obtain ⟨⟨-, -, hsl⟩, c0, c1, c2⟩ := Hat.out k hlt'
      have c0 := (Ha1.out.trans Hch.out).keep c0
      have c1 := (Ha1.out.trans Hch.out).keep c1
      have c2 := (Ha1.out.trans Hch.out).keep c2
      generalize ps[k] = z at *
      obtain ⟨sl, hslen⟩ : ∃ sl, sl = z.s.length := ⟨_, rfl⟩
      have hsz : (tx z.s).size = sl := by rw [tx_size, hslen]
      rw [← hslen] at hsl
      have hal := (Chg.refl NoB wr).alloc (.cells #[.int .i64 z.op, .int .i64 z.n, .string (tx z.s)] 46)
      obtain ⟨e0, e1, e2⟩ := var3 (heap_alloc_new wr (.cells #[.int .i64 z.op, .int .i64 z.n, .string (tx z.s)] 46))
      have Hal := Lib.hid (Hch.out.trans hal)
      clear hslen hal v1
      by_cases hbig : 131072 < x + sl
      · go_wp2_with fail
        go_ret
        exact ⟨Ha1.out.trans Hal.out, true, rfl, fun h => by cases h⟩
      · go_wp2_with fail
        go_roundw
        case rel => exact ⟨k + 1, x + sl, by omega, by omega, by go_num, by go_num, Hal.out⟩
        case measure => simp [intOf]; omega
    · obtain rfl : k = n := by omega
      clear hlt
      obtain ⟨wo, rfl⟩ : ∃ wo, wo = wr := ⟨_, rfl⟩
      go_wp2_with fail
      go_loopw [5, 27] (fun sv i wr => ∃ j y : Nat, j ≤ m ∧ y ≤ 262144 ∧ (∀ t (ht : t < view.length), t < j → view[t].1.length ≤ 262144 ∧ view[t].2.length ≤ 262144) ∧ sv = .int .i64 y ∧ i = .int .i64 j ∧ Chg NoB w1 wr) (fun _ i _ => m - (intOf i).toNat)
      case atStart => exact ⟨0, x, Nat.zero_le _, by omega, (fun t ht h => absurd h (Nat.not_lt_zero _)), rfl, rfl, Hch.out⟩
      case round =>
        obtain ⟨j, y, hj, hy, hall, rfl, rfl, hch⟩ := hrel
        have Hch2 := Lib.hid hch
        have Hall := Lib.hid hall
        have v2 := hch.keep v0
        clear hch hall v1
        by_cases hjl : j < m
        · have hjl' : j < view.length := by rw [← Hm.out]; exact hjl
          obtain ⟨rfl, -⟩ := G3.out (by intro e; rw [e] at hjl'; simp at hjl')
          have d0 := (Ha1.out.trans Hch2.out).keep (Gat.out j hjl').1
          have d1 := (Ha1.out.trans Hch2.out).keep (Gat.out j hjl').2
          obtain ⟨hy1, hy2⟩ := Hr.out j hjl'
          have Hat2 := Lib.hid (show ∀ z : FileL, z = view[j] → z.1.length ≤ 262144 → z.2.length ≤ 262144 → ∀ t (ht : t < view.length), t < j + 1 → view[t].1.length ≤ 262144 ∧ view[t].2.length ≤ 262144 from fun z hz a b t ht htj => by
            by_cases e : t = j
            · subst e; rw [← hz]; exact ⟨a, b⟩
            · exact Hall.out t ht (by omega))
          obtain ⟨f, hf⟩ : ∃ f, f = view[j] := ⟨_, rfl⟩
          rw [← hf] at d0 d1 hy1 hy2
          have Hf := Lib.hid hf
          obtain ⟨y1, y2⟩ := f
          simp only at d0 d1 hy1 hy2
          obtain ⟨yl, hyl⟩ : ∃ n, n = y1.length := ⟨_, rfl⟩
          obtain ⟨zl, hzl⟩ : ∃ n, n = y2.length := ⟨_, rfl⟩
          have hsy : (tx y1).size = yl := by rw [tx_size, hyl]
          have hsz : (tx y2).size = zl := by rw [tx_size, hzl]
          rw [← hyl] at hy1
          rw [← hzl] at hy2
          have hal := (Chg.refl NoB wr).alloc (.cells #[.string (tx y1), .string (tx y2)] 43)
          obtain ⟨e0, e1⟩ := var2 (heap_alloc_new wr (.cells #[.string (tx y1), .string (tx y2)] 43))
          have Hal := Lib.hid (Hch2.out.trans hal)
          have Hyl := Lib.hid hyl
          have Hzl := Lib.hid hzl
          clear hal hyl hzl hf v2
          by_cases hbig : 262144 < y + (yl + zl)
          · go_wp2_with fail
            go_ret
            exact ⟨Ha1.out.trans Hal.out, true, rfl, fun h => by cases h⟩
          · go_wp2_with fail
            go_roundw
            case rel => exact ⟨j + 1, y + (yl + zl), by omega, by omega, Hat2.out _ Hf.out (by show y1.length ≤ _; rw [← Hyl.out]; omega) (by show y2.length ≤ _; rw [← Hzl.out]; omega), by go_num, by go_num, Hal.out⟩
            case measure => simp [intOf]; omega
        · obtain rfl : j = m := by omega
          have Hsm : Hid (k ≤ 400 → j ≤ 100 → SmallG ps view) := Lib.hid fun a b => ⟨by rw [← Hn.out]; exact a, by rw [← Hm.out]; exact b, fun x hx => by
            obtain ⟨t, ht, rfl⟩ := List.getElem_of_mem hx
            exact Hall.out t ht (by rw [Hm.out]; exact ht)⟩
          clear hjl
          go_wp2_with fail
          · go_ret
            refine ⟨Ha1.out.trans Hch2.out, _, rfl, fun h => ?_⟩
            have h' : (decide (400 < (k : Int)) || decide (100 < (j : Int))) = false := h
            rw [Bool.or_eq_false_iff] at h'
            have h4 := of_decide_eq_false h'.1
            have h5 := of_decide_eq_false h'.2
            exact Hsm.out (by omega) (by omega)
          · go_ret
            exact ⟨Ha1.out.trans Hch2.out, true, rfl, fun h => by cases h⟩
end Go.Proofs.YthehpmffkkogpaaGreatDoor
