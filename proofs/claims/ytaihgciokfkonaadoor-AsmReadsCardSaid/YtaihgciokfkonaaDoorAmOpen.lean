/- What comes in at this layer: the list of words, the library's variables, instructions. Condition: the form's own bound on what is reached. -/
import Derived.Test.YtaihgciokfkonaaDoorBaseF
import Derived.Stop.LaidErr
import Derived.Test.YtaihgciokfkonaaDoorCdIns
import Derived.Test.YtaihgciokfkonaaDoorNdLib
namespace Go.Proofs.YtaihgciokfkonaaDoor
set_option linter.unusedVariables false
open Go.ChangeShapes Go.WideShapes Go.ChangeAt Go.RowKit
theorem gPow : Tryd.prog.globalNamed "internal/strconv.uint64pow10" = some 6 := by kernel_rfl
theorem gWords : Tryd.prog.globalNamed "sapling/code.words" = some 0 := by kernel_rfl
theorem tb_of {l : List (String × DataW Unit)} {W : World} (h : laidMet Tryd.prog l W) (hm : ("internal/strconv.uint64pow10", Rows.laid_internal_strconv_uint64pow10) ∈ l) : Lib.TabIs Tryd.prog W "internal/strconv.uint64pow10" .u64 Lib.pow10Tab := by
  obtain ⟨g, t, cs, fuel, p, hg, ht, hv, hd⟩ := Lib.laidMet.reads h hm
  obtain rfl := Option.some.inj (gPow.symm.trans hg)
  obtain rfl := Option.some.inj ((show (Tryd.prog.globals[6]?).map (·.type) = some 131 by kernel_rfl).symm.trans ht)
  have e : (Rows.laid_internal_strconv_uint64pow10 : DataW Unit) = Lib.tabData .u64 Lib.pow10Tab := rfl
  rw [e] at hd
  unfold Lib.TabIs
  rw [hv, ← Lib.cells_of_tab (n := 20) Tryd.underlying131 Tryd.underlying112 (by kernel_rfl) (by kernel_rfl) hd]
theorem laid_words : (Rows.laid_sapling_code_words : DataW Unit) = .slice (wordsB.map fun l => .lit (.string l)) [] := rfl
theorem wd_of {l : List (String × DataW Unit)} {W : World} (h : laidMet Tryd.prog l W) (hm : ("sapling/code.words", Rows.laid_sapling_code_words) ∈ l) : Wd W.heap.size W := by
  obtain ⟨g, t, cs, fuel, p, hg, ht, hv, hd⟩ := Lib.laidMet.reads h hm
  obtain rfl := Option.some.inj (gWords.symm.trans hg)
  obtain rfl := Option.some.inj ((show (Tryd.prog.globals[0]?).map (·.type) = some 32 by kernel_rfl).symm.trans ht)
  rw [laid_words] at hd
  rcases DataW.trod_slice Tryd.underlying32 hd with ⟨e, hx⟩ | ⟨a, len, cap, elems, rest, n, hfn, e, hx, _, hl, hm', hlen, hel, _, _⟩
  · simp at hx
  · simp only [Prod.mk.injEq, DataW.slice.injEq] at hx
    obtain ⟨⟨hx1, _⟩, _⟩ := hx
    have hl31 : len = 31 := by
      have := congrArg List.length hx1
      rw [List.length_map, List.length_map, wordsB_len, hlen] at this
      exact this.symm
    subst hl31
    have k1 : Tryd.prog.cellsOf 9 = 1 := by kernel_rfl
    have hcell : ∀ i, i < 31 → W.cell? (a.add i) = some (.string (tx (wordsB.getD i []))) := by
      intro i hi
      have h1 := hel i hi
      rw [k1, Nat.mul_one, List.getElem?_eq_getElem (by omega)] at h1
      cases hc : W.cells? 0 (a.add i) 1 with
      | none => rw [hc] at h1; simp at h1
      | some cs' =>
        rw [hc] at h1
        simp only [Option.bind_some] at h1
        obtain ⟨s, rfl, h2, _⟩ := DataW.trod_string Tryd.underlying9 h1
        obtain ⟨_, _, h3⟩ := World.cells?_some hc
        have h4 := h3 0 (by decide)
        have h5 : (elems.map (·.1))[i]? = some (.lit (.string s.data.toList)) := by rw [List.getElem?_map, List.getElem?_eq_getElem (by omega), h2]; rfl
        rw [← hx1, List.getElem?_map, List.getElem?_eq_getElem (by rw [wordsB_len]; exact hi)] at h5
        simp only [Option.map_some, Option.some.injEq, DataW.lit.injEq, Lit.string.injEq] at h5
        have h6 : wordsB.getD i [] = s.data.toList := by rw [List.getD_eq_getElem?_getD, List.getElem?_eq_getElem (by rw [wordsB_len]; exact hi)]; exact h5
        rw [h6, tx_back]
        have h7 : ∀ x : Addr, x.add 0 = x := fun x => by simp [Addr.add]
        rw [h7] at h4
        exact h4
    have ha : ∃ b off, a = ⟨b, off, none⟩ := by
      have h2 := World.cell?_spot (hcell 0 (by decide))
      obtain ⟨b, off, spot⟩ := a
      refine ⟨b, off, ?_⟩
      have : spot = none := by simpa [Addr.add] using h2
      rw [this]
    obtain ⟨b, off, rfl⟩ := ha
    have hglob : W.cell? ⟨0, 0, none⟩ = some (.slice (some ⟨b, off, none⟩) 31 cap) := by
      unfold World.var? at hv
      rw [gWords] at hv
      simp only [Option.bind_some] at hv
      unfold World.cell?
      split at hv
      · rename_i c t f hh
        simp only [Option.some.injEq] at hv
        subst hv
        rw [hh]
        have : c[0]? = some (.slice (some ⟨b, off, none⟩) 31 cap) := by rw [← Array.getElem?_toList, e]; rfl
        simpa using this
      · cases hv
    refine ⟨Nat.le_refl _, b, off, cap, hl, hm', fun w' hb => ⟨?_, fun i hi => ?_⟩⟩
    · rw [← hglob]; exact World.cell?_of_block (hb.block _ (World.block_lt_of_cell? W _ hglob))
    · have h1 := hcell i hi
      rw [Go.WideShapes.add_plain] at h1
      rw [← h1]; exact World.cell?_of_block (hb.block _ (World.block_lt_of_cell? W _ h1))
theorem gSyn : Tryd.prog.globalNamed "strconv.ErrSyntax" = some 4 := by kernel_rfl
theorem gRng : Tryd.prog.globalNamed "strconv.ErrRange" = some 5 := by kernel_rfl
theorem ml_of (W : World) (h : W.ShapedOpen Tryd.prog) : ∃ m, W.cell? ⟨3, 0, none⟩ = some (.int .i64 m) :=
  cell_of_shapedOpen_int (k := .i64) h (of_decide_eq_true (by kernel_rfl)) (t := 3) (zero := #[.int .i64 0]) (by kernel_rfl) rfl (by kernel_rfl) (by kernel_rfl) (by kernel_rfl)
theorem star_es : "*" ++ "errors.errorString" = "*errors.errorString" := by decide
theorem row_es (u : TypeId) (h : Tryd.prog.typeName? 3 u = some "*errors.errorString") : u = 139 :=
  typeName_ptr_named (nm := "errors.errorString") (by rw [star_es]; kernel_rfl) (by kernel_rfl) (by decide) u (by rw [star_es]; exact h)
theorem syn_of {r : List (String × DataW Unit)} {W : World} (h : laidMet Tryd.prog (("strconv.ErrSyntax", Rows.laid_strconv_ErrSyntax) :: r) W) : ∃ tp p, W.var? Tryd.prog "strconv.ErrSyntax" = some #[.iface tp p] := by
  obtain ⟨a, s, hv, _⟩ := laid_sentinel h gSyn (ti := 63) (by kernel_rfl) Tryd.underlying63 row_es Tryd.underlying139 Tryd.underlying141 rfl rfl Tryd.underlying9 (by kernel_rfl) (by kernel_rfl)
  exact ⟨_, _, hv⟩
theorem rng_of {r : List (String × DataW Unit)} {W : World} (h : laidMet Tryd.prog (("strconv.ErrRange", Rows.laid_strconv_ErrRange) :: r) W) : ∃ tp p, W.var? Tryd.prog "strconv.ErrRange" = some #[.iface tp p] := by
  obtain ⟨a, s, hv, _⟩ := laid_sentinel h gRng (ti := 63) (by kernel_rfl) Tryd.underlying63 row_es Tryd.underlying139 Tryd.underlying141 rfl rfl Tryd.underlying9 (by kernel_rfl) (by kernel_rfl)
  exact ⟨_, _, hv⟩
theorem insCells : Tryd.prog.cellsOf 38 = 3 := by kernel_rfl
theorem ins_weightsAll_mem {H : Type} (P : Program) (e : TypeId) (n : Nat) : ∀ (l : List (DataW H)) (d : DataW H), d ∈ l → n ∈ d.weights P e → n ∈ DataW.weightsAll P e l
  | [], d, h, _ => by simp at h
  | x :: r, d, h, hn => by
    rw [DataW.weightsAll, List.mem_append]
    rcases List.mem_cons.1 h with rfl | h
    · exact .inl hn
    · exact .inr (ins_weightsAll_mem P e n r d h hn)
set_option maxRecDepth 20000 in
theorem ins_trod {H : Type} {enc : TypeId × Value → H} {W : World} (fuel : Nat) (cs : List Value) (x : DataW H × List MemPlace) (h : DataW.trod enc Tryd.prog W 0 (fun _ => true) true fuel 38 cs = some x) :
    ∃ (op n : Int) (s : ByteArray), cs = [.int .i64 op, .int .i64 n, .string s] ∧ (Lit.int .i64 op).wf = true ∧ (Lit.int .i64 n).wf = true ∧ s.data.toList.length ∈ x.1.weights Tryd.prog 38 := by
  obtain ⟨xs, m, hfm, rfl, hl, hlen, hf⟩ := DataW.trod_struct Tryd.underlying38 h
  rw [insCells] at hl
  match cs, hl with
  | [c0, c1, c2], _ =>
    have hl3 : xs.length = 3 := hlen
    match xs, hl3 with
    | [y0, y1, y2], _ =>
      have k3 : Tryd.prog.cellsOf 3 = 1 := by kernel_rfl
      have k9 : Tryd.prog.cellsOf 9 = 1 := by kernel_rfl
      have h0 : DataW.trod enc Tryd.prog W 0 (fun _ => true) true m 3 (([c0, c1, c2].drop 0).take (Tryd.prog.cellsOf 3)) = some y0 := hf 0 _ rfl
      have h1 : DataW.trod enc Tryd.prog W 0 (fun _ => true) true m 3 (([c0, c1, c2].drop 1).take (Tryd.prog.cellsOf 3)) = some y1 := hf 1 _ rfl
      have h2 : DataW.trod enc Tryd.prog W 0 (fun _ => true) true m 9 (([c0, c1, c2].drop 2).take (Tryd.prog.cellsOf 9)) = some y2 := hf 2 _ rfl
      rw [k3] at h0 h1
      rw [k9] at h2
      have h0 : DataW.trod enc Tryd.prog W 0 (fun _ => true) true m 3 [c0] = some y0 := h0
      have h1 : DataW.trod enc Tryd.prog W 0 (fun _ => true) true m 3 [c1] = some y1 := h1
      have h2 : DataW.trod enc Tryd.prog W 0 (fun _ => true) true m 9 [c2] = some y2 := h2
      obtain ⟨op, e0, _, w0⟩ := DataW.trod_int Tryd.underlying3 h0
      obtain ⟨n, e1, _, w1⟩ := DataW.trod_int Tryd.underlying3 h1
      obtain ⟨s, e2, hy2, _⟩ := DataW.trod_string Tryd.underlying9 h2
      simp only [List.cons.injEq, and_true] at e0 e1 e2
      subst e0 e1 e2
      refine ⟨op, n, s, rfl, w0, w1, ?_⟩
      subst hy2
      simp only [List.map_cons, List.map_nil, DataW.weights, Tryd.underlying38, DataW.weightsEach, List.mem_append]
      right
      right
      left
      exact List.mem_singleton.2 rfl
set_option maxRecDepth 100000 in
theorem open_inss {H : Type} {enc : TypeId × Value → H} {W : World} {base : Nat} {v : Value} {d : DataW H} {p : List MemPlace} (hv : Value.okWide Tryd.prog W .any base 23 v) (h : DataW.Trod enc Tryd.prog W 0 (fun _ => true) true 23 v d p)
    (hwt : ∀ m ∈ d.weights Tryd.prog 23, m ≤ reachBytes) : ∃ ps kb ko, InsS W (OldB W) v ps kb ko := by
  obtain ⟨a0, len0, cap0, rfl⟩ := okWide_slice Tryd.underlying23 hv
  obtain ⟨fuel, hf⟩ := h
  have hf : DataW.trod enc Tryd.prog W 0 (fun _ => true) true fuel 23 [.slice a0 len0 cap0] = some (d, p) := by simpa [Value.cells] using hf
  rcases DataW.trod_slice Tryd.underlying23 hf with ⟨e, _⟩ | ⟨a, len, cap, elems, rest, n, hfn, e, hx, _, hl, hm, hlen, hel, _, _⟩
  · simp only [List.cons.injEq, and_true] at e
    rw [e]
    exact ⟨[], 0, 0, ⟨⟨none, 0, rfl, Nat.le_refl _, Nat.zero_le _, fun h => absurd rfl h⟩, fun i hi => by simp at hi⟩⟩
  · simp only [List.cons.injEq, and_true] at e
    rw [e]
    have hrb : reachBytes = 140737488351232 := by decide
    have hd : d = .slice (elems.map (·.1)) (rest.map (·.1)) := congrArg Prod.fst hx
    have hins : ∀ i, i < len → ∃ x : InsL, x.wf ∧ W.cells? 0 (a.add (i * 3)) 3 = some [.int .i64 x.op, .int .i64 x.n, .string (tx x.s)] := by
      intro i hi
      have h1 := hel i hi
      rw [insCells, List.getElem?_eq_getElem (by omega)] at h1
      cases hc : W.cells? 0 (a.add (i * 3)) 3 with
      | none => rw [hc] at h1; simp at h1
      | some cs' =>
        rw [hc] at h1
        simp only [Option.bind_some] at h1
        obtain ⟨op, nn, s, rfl, w0, w1, w2⟩ := ins_trod n cs' _ h1
        have hin : s.data.toList.length ∈ d.weights Tryd.prog 23 := by
          rw [hd]
          simp only [DataW.weights, Tryd.underlying23]
          exact List.mem_cons_of_mem _ (List.mem_append_left _ (ins_weightsAll_mem _ _ _ _ _ (List.mem_map.2 ⟨_, List.getElem_mem (by omega), rfl⟩) w2))
        have hle := hwt _ hin
        refine ⟨⟨op, nn, s.data.toList⟩, ⟨bounds_i64 w0, bounds_i64 w1, by show s.data.toList.length ≤ _; omega⟩, ?_⟩
        show _ = some [Value.int .i64 op, Value.int .i64 nn, .string (tx s.data.toList)]
        rw [tx_back]
    obtain ⟨ps, hpl, hps⟩ := choose_list len hins
    by_cases h0 : len = 0
    · have : ps = [] := List.eq_nil_of_length_eq_zero (by omega)
      subst this
      exact ⟨[], 0, 0, ⟨⟨some a, cap, by rw [h0]; rfl, by simp, hm, fun h => absurd rfl h⟩, fun i hi => by simp at hi⟩⟩
    · have ha : ∃ b off, a = ⟨b, off, none⟩ := by
        obtain ⟨_, h1⟩ := hps 0 (by omega)
        obtain ⟨_, _, h2⟩ := World.cells?_some h1
        have h3 := World.cell?_spot (h2 0 (by decide))
        obtain ⟨b, off, spot⟩ := a
        refine ⟨b, off, ?_⟩
        have : spot = none := by simpa [Addr.add] using h3
        rw [this]
      obtain ⟨b, off, rfl⟩ := ha
      have hcell : ∀ i (hi : i < ps.length), ps[i].wf ∧ W.cell? ⟨b, off + i * 3, none⟩ = some (.int .i64 ps[i].op) ∧ W.cell? ⟨b, off + i * 3 + 1, none⟩ = some (.int .i64 ps[i].n) ∧ W.cell? ⟨b, off + i * 3 + 2, none⟩ = some (.string (tx ps[i].s)) := by
        intro i hi
        obtain ⟨hw, h1⟩ := hps i hi
        obtain ⟨_, _, h2⟩ := World.cells?_some h1
        have e0 := h2 0 (by decide)
        have e1 := h2 1 (by decide)
        have e2 := h2 2 (by decide)
        rw [Go.WideShapes.add_plain, Go.WideShapes.add_plain] at e0 e1 e2
        exact ⟨hw, e0, e1, e2⟩
      refine ⟨ps, b, off, ⟨⟨_, cap, by rw [hpl], by omega, hm, fun _ => ⟨rfl, ?_⟩⟩, hcell⟩⟩
      exact World.block_lt_of_cell? W _ (hcell 0 (by omega)).2.1
theorem inss_stay {H : Type} {enc : TypeId × Value → H} {W W' : World} {v : Value} {d : DataW H} {p : List MemPlace} (h : DataW.Trod enc Tryd.prog W 0 (fun _ => true) true 23 v d p) (hb : Below W.heap.size W W') :
    DataW.Trod enc Tryd.prog W' 0 (fun b => decide (b < W.heap.size)) true 23 v d p :=
  Below.trod laidOut (by kernel_rfl) (of_decide_eq_true (by kernel_rfl)) h hb (by obtain ⟨m, hm⟩ := h; exact DataW.trod_lt m _ _ _ hm)
set_option maxRecDepth 100000 in
theorem open_ins {H : Type} {enc : TypeId × Value → H} {W : World} {base : Nat} {v : Value} {d : DataW H} {p : List MemPlace} (hv : Value.okWide Tryd.prog W .any base 38 v) (h : DataW.Trod enc Tryd.prog W 0 (fun _ => true) true 38 v d p)
    (hwt : ∀ m ∈ d.weights Tryd.prog 38, m ≤ reachBytes) : ∃ x : InsL, v = x.val ∧ x.wf := by
  obtain ⟨cs, rfl, hsz⟩ := okWide_struct Tryd.underlying38 hv
  rw [insCells] at hsz
  obtain ⟨fuel, hf⟩ := h
  obtain ⟨op, n, s, hcs, w0, w1, w2⟩ := ins_trod fuel _ _ hf
  have hle := hwt _ w2
  have hrb : reachBytes = 140737488351232 := by decide
  refine ⟨⟨op, n, s.data.toList⟩, ?_, bounds_i64 w0, bounds_i64 w1, by show s.data.toList.length ≤ _; omega⟩
  unfold InsL.val
  rw [tx_back]
  congr 1
  apply Array.ext'
  simpa [Value.cells] using hcs
theorem ins_stays {H : Type} {enc : TypeId × Value → H} {W W' : World} {v : Value} {d : DataW H} {p : List MemPlace} (h : DataW.Trod enc Tryd.prog W 0 (fun _ => true) true 38 v d p) (hb : Below W.heap.size W W') :
    DataW.Trod enc Tryd.prog W' 0 (fun b => decide (b < W.heap.size)) true 38 v d p :=
  Below.trod laidOut (by kernel_rfl) (of_decide_eq_true (by kernel_rfl)) h hb (by obtain ⟨m, hm⟩ := h; exact DataW.trod_lt m _ _ _ hm)
theorem lb8_of {W : World} (h : laidMet Tryd.prog [("math/bits.deBruijn32tab", Rows.laid_math_bits_deBruijn32tab), ("math/bits.deBruijn64tab", Rows.laid_math_bits_deBruijn64tab), ("internal/strconv.uint64pow10", Rows.laid_internal_strconv_uint64pow10), ("unicode/utf8.acceptRanges", Rows.laid_unicode_utf8_acceptRanges), ("strconv.ErrRange", Rows.laid_strconv_ErrRange), ("strconv.ErrSyntax", Rows.laid_strconv_ErrSyntax), ("sapling/code.words", Rows.laid_sapling_code_words), ("unicode/utf8.first", Rows.laid_unicode_utf8_first)] W) (hs : W.ShapedOpen Tryd.prog) : Lb W.heap.size W ∧ Wd W.heap.size W := by
  obtain ⟨tp, p, h1⟩ := syn_of h.tail.tail.tail.tail.tail
  obtain ⟨tq, q, h2⟩ := rng_of h.tail.tail.tail.tail
  obtain ⟨m, h3⟩ := ml_of W hs
  refine ⟨⟨Nat.le_refl _, Lib.tabBelow_of_tabIs (tb_of h (.tail _ (.tail _ (.head _)))), ⟨tp, p, fun w' hb => Joins.var_stays gSyn h1 hb (Nat.le_refl _)⟩, ⟨tq, q, fun w' hb => Joins.var_stays gRng h2 hb (Nat.le_refl _)⟩, ⟨m, fun w' hb => ?_⟩⟩, wd_of h (.tail _ (.tail _ (.tail _ (.tail _ (.tail _ (.tail _ (.head _)))))))⟩
  rw [← h3]
  exact World.cell?_of_block (hb.block _ (World.block_lt_of_cell? W _ h3))
theorem ml_lt {W : World} (h : W.ShapedOpen Tryd.prog) : 3 < W.heap.size := by
  obtain ⟨m, hm⟩ := ml_of W h
  exact World.block_lt_of_cell? W _ hm
end Go.Proofs.YtaihgciokfkonaaDoor
