/- What the document tells of trees, as the statements ask ahead of all: it is so. Conditions: the list of powers reads as the program's text lays it; the library's own variable holds some number. -/
import Derived.Test.YthehpmffkkogpaaGreatDoorTrEnc
import Derived.Laws.EntriesVeiled
import Derived.Test.YthehpmffkkogpaaGreatDoorTrRef
import Derived.Test.YthehpmffkkogpaaGreatDoorNdMem
import Derived.Deep.Strs
import Derived.Deep.Slices
import Derived.Test.YthehpmffkkogpaaGreatDoorTie
import Derived.Test.YthehpmffkkogpaaGreatDoorCards
import Derived.Handed
import Derived.HandedShaped
import Derived.Shelf.Vars
import Derived.Lay
import Derived.Carry
import Derived.LaidOnce
import Derived.LaidLaws
import Derived.SevenTiedAt
import Derived.OpenShut
import Derived.Lib.LaidU8
import Derived.Stop.LaidErr
namespace Go.Proofs.YthehpmffkkogpaaGreatDoor
set_option linter.unusedVariables false
open Go.ChangeShapes Go.WideShapes Go.ChangeAt Go.RowKit
/- what Names answers: a closure over a box that holds a closure over the copied files and the place -/
theorem inpS_two (w : World) (a b c d : List UInt8) : InpS (w.alloc (.cells #[.string (tx a), .string (tx b), .string (tx c), .string (tx d)] 43)) (fun y => y = w.heap.size) (.slice (some ⟨w.heap.size, 0, none⟩) 2 2) [(a, b), (c, d)] w.heap.size 0 := by
  obtain ⟨h0, h1, h2, h3⟩ := var4 (heap_alloc_new w (.cells #[.string (tx a), .string (tx b), .string (tx c), .string (tx d)] 43))
  refine ⟨⟨_, 2, rfl, Nat.le_refl _, by decide, fun _ => ⟨rfl, rfl⟩⟩, fun i hi => ?_⟩
  match i, hi with
  | 0, _ => exact ⟨h0, h1⟩
  | 1, _ => exact ⟨h2, h3⟩
def fA : List FileL := [([98], [120]), ([97, 47, 99], [])]
def gA : List FileL := [([97, 47, 99], []), ([98], [120])]
def fB : List FileL := [([97], []), ([97, 47, 98], [])]
theorem fA_make : makeF fA = .ok gA := by kernel_rfl
theorem fB_make : makeF fB = .error 12 := by kernel_rfl
theorem gA_enc : encT gA = (tx [40, 40, 51, 58, 97, 47, 99, 48, 58, 41, 40, 49, 58, 98, 49, 58, 120, 41, 41], 0) := by kernel_rfl
theorem fA_w : ∀ x ∈ fA, x.1.length ≤ 1048576 ∧ x.2.length ≤ 1048576 := by decide
theorem fB_w : ∀ x ∈ fB, x.1.length ≤ 1048576 ∧ x.2.length ≤ 1048576 := by decide
theorem gA_w : ∀ x ∈ gA, x.1.length ≤ 131072 ∧ x.2.length ≤ 131072 := by decide
end Go.Proofs.YthehpmffkkogpaaGreatDoor
namespace Go.Proofs.YthehpmffkkogpaaGreatDoor
set_option linter.unusedVariables false
open Go.ChangeShapes Go.WideShapes Go.ChangeAt Go.RowKit
set_option maxHeartbeats 2000000 in
set_option maxRecDepth 20000 in
theorem rgood_any (l : List FileL) (hl : l.length ≤ 1048576) (hw : ∀ x ∈ l, x.1.length ≤ 1048576 ∧ x.2.length ≤ 1048576) (S : Nat → Prop) (v : Value) (kb ko : Nat) (w : World) (hs : InpS w S v l kb ko) :
    Calls Tryz.prog 26 #[.agg #[v]] w (SayB (goodF l) w) := by
  have Hs := Lib.hid hs
  obtain ⟨⟨q, c, rfl, h1, h2, h3⟩, hat⟩ := hs
  obtain ⟨n, hn⟩ : ∃ n, n = l.length := ⟨_, rfl⟩
  rw [← hn] at Hs hl ⊢
  have hal := (Chg.refl NoB w).alloc (.cells #[.slice q n c] 25)
  have hb := heap_alloc_new w (.cells #[.slice q n c] 25)
  obtain ⟨tb, htb⟩ : ∃ b, b = w.heap.size := ⟨_, rfl⟩
  obtain ⟨w1, hw1⟩ : ∃ w1, w.alloc (.cells #[.slice q n c] 25) = w1 := ⟨_, rfl⟩
  rw [hw1] at hal hb
  rw [← htb] at hb
  have hmk := rmake_any l (by rw [← hn]; exact hl) hw S _ kb ko w1 (Hs.out.keep hal fun _ _ => id)
  have Hmk := Lib.hid hmk
  have Hn := Lib.hid hn
  have Hw1 := Lib.hid hw1
  have Htb := Lib.hid htb
  have Hal := Lib.hid hal
  have Hb := Lib.hid hb
  obtain ⟨g, hg⟩ : ∃ g, g = goodF l := ⟨_, rfl⟩
  rw [← hg]
  have Hg := Lib.hid hg
  clear hmk hn hw1 htb hal hb h1 h2 h3 hat hg
  go_enter Tryz.func26, Tryz.ntmps26
  go_upto_region 1 with fail
  rw [Hw1.out, ← Htb.out]
  have f0 := var1 Hb.out
  cases hmf : makeF l with
  | error y =>
    have hyb : (y == 0) = false := by rw [beq_eq_false_iff_ne]; exact make_err hmf
    have Hgf : Hid (g = false) := Lib.hid (by rw [Hg.out]; unfold goodF; rw [hmf])
    rw [hmf] at Hmk
    unfold MakeP at Hmk
    clear hmf
    go_wp2_with fail
    refine Hmk.out.mono ?_
    rintro e w2 ⟨hc2, rfl⟩
    have Hc2 := Lib.hid (Hal.out.trans (hc2.alloc (.cells #[.slice none 0 0] 25)))
    clear hc2 f0 Hmk
    go_wp2_with fail
    go_ret
    exact ⟨retB Hgf.out.symm, Hc2.out⟩
  | ok d =>
    obtain ⟨hdl, hdp⟩ := make_len hmf
    have Hgf : Hid (g = decide (l = d)) := Lib.hid (by rw [Hg.out]; unfold goodF; rw [hmf]; exact decide_eq_decide.2 ⟨Eq.symm, Eq.symm⟩)
    rw [hmf] at Hmk
    have Hdl := Lib.hid hdl
    clear hmf hdl hdp
    go_wp2_with fail
    refine Hmk.out.mono ?_
    rintro e w2 ⟨hc2, v2, rfl, hrow2⟩
    obtain ⟨vq, vc, hv2, -, -⟩ := row_shape hrow2
    obtain ⟨nb, hns⟩ := InpS.of_row hrow2
    obtain ⟨dl, hdl⟩ : ∃ m, m = d.length := ⟨_, rfl⟩
    rw [← hdl] at hv2
    subst hv2
    have hal3 := (Chg.refl NoB w2).alloc (.cells #[.slice vq dl vc] 25)
    have hb3 := heap_alloc_new w2 (.cells #[.slice vq dl vc] 25)
    have hc3 := hc2.trans hal3
    have Hc3 := Lib.hid (Hal.out.trans hc3)
    have Hb13 := Lib.hid (row_kept hc3 Hb.out id)
    have Hns3 := Lib.hid (hns.keep hal3 fun _ _ => id)
    have Hs3 := Lib.hid (Hs.out.keep Hc3.out fun _ _ => id)
    have Hb3 := Lib.hid hb3
    clear hc2 hrow2 hns hdl hal3 hb3 hc3 f0 Hmk
    go_upto_region 2 with fail
    obtain ⟨mb, hmb⟩ : ∃ b, b = w2.heap.size := ⟨_, rfl⟩
    rw [← hmb] at Hb3 ⊢
    clear hmb
    generalize w2.alloc (.cells #[.slice vq dl vc] 25) = w3 at *
    have Heq := Lib.hid (rsame_any l d S _ _ _ kb ko nb 0 w3 (by rw [← Hn.out]; exact hl) (by rw [Hdl.out, ← Hn.out]; exact hl) Hs3.out Hns3.out)
    rw [← Hgf.out] at Heq
    have f0 := var1 Hb13.out
    have g0 := var1 Hb3.out
    go_wp2_with fail
    refine Heq.out.mono ?_
    rintro e w4 ⟨rfl, hc4⟩
    have Hc4 := Lib.hid (Hc3.out.trans hc4)
    clear hc4 f0 g0 Heq
    go_wp2_with fail
    go_ret
    exact ⟨rfl, Hc4.out⟩
end Go.Proofs.YthehpmffkkogpaaGreatDoor
namespace Go.Proofs.YthehpmffkkogpaaGreatDoor
set_option linter.unusedVariables false
open Go.ChangeShapes Go.WideShapes Go.ChangeAt Go.RowKit
/- the blocks that are there -/
def OldB (w : World) : Nat → Prop := fun k => k < w.heap.size
theorem choose_list {α : Type} {P : Nat → α → Prop} : ∀ (n : Nat), (∀ i, i < n → ∃ x, P i x) → ∃ l : List α, l.length = n ∧ ∀ i (h : i < l.length), P i l[i]
  | 0, _ => ⟨[], rfl, fun i h => by simp at h⟩
  | n + 1, h => by
    obtain ⟨l, hl, hp⟩ := choose_list n fun i hi => h i (by omega)
    obtain ⟨x, hx⟩ := h n (by omega)
    refine ⟨l ++ [x], by simp [hl], fun i hi => ?_⟩
    by_cases hin : i < l.length
    · rw [List.getElem_append_left hin]; exact hp i hin
    · have : i = l.length := by simp at hi; omega
      subst this
      rw [List.getElem_append_right (Nat.le_refl _)]
      simp only [Nat.sub_self, List.getElem_cons_zero]
      rw [hl]; exact hx
theorem cells3 {w : World} {base : Nat} {a : Addr} {c0 c1 c2 : Value} (h : w.cells? base a 3 = some [c0, c1, c2]) : w.cell? (a.add 0) = some c0 ∧ w.cell? (a.add 1) = some c1 ∧ w.cell? (a.add 2) = some c2 := by
  obtain ⟨_, _, h⟩ := World.cells?_some h
  exact ⟨h 0 (by decide), h 1 (by decide), h 2 (by decide)⟩
end Go.Proofs.YthehpmffkkogpaaGreatDoor
namespace Go.Proofs.YthehpmffkkogpaaGreatDoor
set_option linter.unusedVariables false
open Go.ChangeShapes Go.WideShapes Go.ChangeAt Go.RowKit
theorem Tryz.own : ownKnob Tryz.prog.godebug = none := by kernel_rfl
theorem laidOut : laidOutB Tryz.prog = true := by kernel_rfl
/-- The builder with a condition on the world and with the shape of the package's variables. -/
theorem returns_both {H : Type} {enc : TypeId × Value → H} {a : Assume} {C : Checked} {os : Os} {f : FuncId} {fn : Func} {s : ChangeSpec} {conds : List PathCond} {apart fresh handsOn again : Bool} {X : World → Array Value → Prop}
    (hX : ∀ (w w' : World) (args : Array Value), w.heap = w'.heap → X w args → X w' args)
    (own : ownKnob C.prog.godebug = none) (started : os.Started) (noInit : C.prog.inits.idxOf? f = none) (hfn : C.prog.funcs[f]? = some fn)
    (witness : ∃ (w : World) (tape : Tape) (i : Input), w.os = os ∧ (w.forCall tape i).Shaped C.prog ∧ i.vars = [] ∧ Input.okWide C.prog (w.forCall tape i) .any w.heap.size f i ∧
      ((s.pre enc C.prog fn conds apart (w.forCall tape i).memory i.args ∧ X (w.forCall tape i).memory i.args) ∧ sizedMet enc C.prog fn (OpenSpec.ofChange s) apart (w.forCall tape i).memory i.args) ∧ a.holds C.prog (lone (Frame.enter C.prog f i.args .normal) [] (w.forCall tape i)))
    (contract : ∀ (W : World) (base : Nat) (args : Array Value) (ds gs : List (DataW H)) (before : List MemPlace),
      (∀ (j : Nat) t v, fn.params[j]? = some t → args[j]? = some v → Value.okWide C.prog W .any base t v) →
      DataW.Whole enc C.prog fn.params.toList s.vars apart W args.toList ds gs before →
      conds.all (PathCond.test C.prog ⟨fn.params.toList, ds, s.plain.varTypes C.prog, gs⟩) = true →
      (DataW.weightsEach C.prog (fn.params.toList ++ s.plain.varTypes C.prog) (ds ++ gs)).all (· ≤ reachBytes) = true → X W args → W.ShapedOpen C.prog →
      a.holds C.prog (lone (Frame.enter C.prog f args .normal) [] W) →
      Calls C.prog f args W fun e W' => ∃ v, e = .returned v ∧ s.post enc C.prog fn apart fresh handsOn again W args v W') :
    ReturnsInHanded a C os f .any (fun w args => (s.pre enc C.prog fn conds apart w args ∧ X w args) ∧ sizedMet enc C.prog fn (OpenSpec.ofChange s) apart w args) (s.post enc C.prog fn apart fresh handsOn again) := by
  refine returnsInHanded_of_calls own started noInit witness ?_
  intro w tape i _ hsh _ hok hpre hholds
  obtain ⟨_, _, _, fn', hfn', _, _, _, _, hval⟩ := hok
  have e : fn' = fn := Option.some.inj (hfn'.symm.trans hfn)
  subst e
  obtain ⟨⟨⟨ds, gs, before, hw, hc⟩, hx⟩, hz⟩ := hpre
  have hw' := DataW.Whole.of_heap (w' := w.forCall tape i) (by rfl) hw
  refine (contract (w.forCall tape i) w.heap.size i.args ds gs before hval hw' hc (hz.weights hw) (hX _ _ _ (by rfl) hx) hsh hholds).mono fun e W' ⟨v, he, hp⟩ => ?_
  subst he
  exact ChangeSpec.post_blind hp
theorem gPow : Tryz.prog.globalNamed "internal/strconv.uint64pow10" = some 2 := by kernel_rfl
theorem tb_of {l : List (String × DataW Unit)} {W : World} (h : laidMet Tryz.prog l W) (hm : ("internal/strconv.uint64pow10", Rows.laid_internal_strconv_uint64pow10) ∈ l) : Lib.TabIs Tryz.prog W "internal/strconv.uint64pow10" .u64 Lib.pow10Tab := by
  obtain ⟨g, t, cs, fuel, p, hg, ht, hv, hd⟩ := Lib.laidMet.reads h hm
  obtain rfl := Option.some.inj (gPow.symm.trans hg)
  obtain rfl := Option.some.inj ((show (Tryz.prog.globals[2]?).map (·.type) = some 139 by kernel_rfl).symm.trans ht)
  have e : (Rows.laid_internal_strconv_uint64pow10 : DataW Unit) = Lib.tabData .u64 Lib.pow10Tab := rfl
  rw [e] at hd
  unfold Lib.TabIs
  rw [hv, ← Lib.cells_of_tab (n := 20) Tryz.underlying139 Tryz.underlying117 (by kernel_rfl) (by kernel_rfl) hd]
theorem lw_of {l : List (String × DataW Unit)} {W : World} (h : laidMet Tryz.prog l W) (hp : ("internal/strconv.uint64pow10", Rows.laid_internal_strconv_uint64pow10) ∈ l) : Lw W.heap.size W :=
  ⟨Nat.le_refl _, Lib.tabBelow_of_tabIs (tb_of h hp)⟩
theorem inpCells : Tryz.prog.cellsOf 43 = 2 := by kernel_rfl
theorem inpBytes : Tryz.prog.bytesOf 43 = 32 := by kernel_rfl
theorem insCells1 : Tryz.prog.cellsOf 23 = 1 := by kernel_rfl
theorem strCells : Tryz.prog.cellsOf 9 = 1 := by kernel_rfl
theorem inp_weightsAll_mem {H : Type} (P : Program) (e : TypeId) (n : Nat) : ∀ (l : List (DataW H)) (d : DataW H), d ∈ l → n ∈ d.weights P e → n ∈ DataW.weightsAll P e l
  | [], d, h, _ => by simp at h
  | x :: r, d, h, hn => by
    rw [DataW.weightsAll, List.mem_append]
    rcases List.mem_cons.1 h with rfl | h
    · exact .inl hn
    · exact .inr (inp_weightsAll_mem P e n r d h hn)
set_option maxRecDepth 20000 in
theorem inp_trod {H : Type} {enc : TypeId × Value → H} {W : World} (fuel : Nat) (cs : List Value) (x : DataW H × List MemPlace) (h : DataW.trod enc Tryz.prog W 0 (fun _ => true) true fuel 43 cs = some x) :
    ∃ (s u : ByteArray), cs = [.string s, .string u] ∧ s.data.toList.length ∈ x.1.weights Tryz.prog 43 ∧ u.data.toList.length ∈ x.1.weights Tryz.prog 43 := by
  obtain ⟨xs, m, hfm, rfl, hl, hlen, hf⟩ := DataW.trod_struct Tryz.underlying43 h
  rw [inpCells] at hl
  match cs, hl with
  | [c0, c1], _ =>
    have hl2 : xs.length = 2 := hlen
    match xs, hl2 with
    | [y0, y1], _ =>
      have h0 : DataW.trod enc Tryz.prog W 0 (fun _ => true) true m 9 (([c0, c1].drop 0).take (Tryz.prog.cellsOf 9)) = some y0 := hf 0 _ rfl
      have h1 : DataW.trod enc Tryz.prog W 0 (fun _ => true) true m 9 (([c0, c1].drop 1).take (Tryz.prog.cellsOf 9)) = some y1 := hf 1 _ rfl
      rw [strCells] at h0 h1
      have h0 : DataW.trod enc Tryz.prog W 0 (fun _ => true) true m 9 [c0] = some y0 := h0
      have h1 : DataW.trod enc Tryz.prog W 0 (fun _ => true) true m 9 [c1] = some y1 := h1
      obtain ⟨s, e0, hy0, _⟩ := DataW.trod_string Tryz.underlying9 h0
      obtain ⟨u, e1, hy1, _⟩ := DataW.trod_string Tryz.underlying9 h1
      simp only [List.cons.injEq, and_true] at e0 e1
      subst e0 e1
      subst hy0 hy1
      refine ⟨s, u, rfl, ?_, ?_⟩
      · simp only [List.map_cons, List.map_nil, DataW.weights, Tryz.underlying43, DataW.weightsEach, List.mem_append]
        left
        exact List.mem_singleton.2 rfl
      · simp only [List.map_cons, List.map_nil, DataW.weights, Tryz.underlying43, DataW.weightsEach, List.mem_append]
        right
        left
        exact List.mem_singleton.2 rfl
set_option maxRecDepth 100000 in
theorem open_inps {H : Type} {enc : TypeId × Value → H} {W : World} {fuel : Nat} {c5 : Value} {d : DataW H} {p : List MemPlace} (hf : DataW.trod enc Tryz.prog W 0 (fun _ => true) true fuel 23 [c5] = some (d, p))
    (hwt : ∀ m ∈ d.weights Tryz.prog 23, m ≤ reachBytes) : ∃ ps kb ko, InpS W (OldB W) c5 ps kb ko ∧ ps.length ≤ 140737488351232 ∧ ∀ i (hi : i < ps.length), ps[i].1.length ≤ 140737488351232 ∧ ps[i].2.length ≤ 140737488351232 := by
  rcases DataW.trod_slice Tryz.underlying23 hf with ⟨e, _⟩ | ⟨a, len, cap, elems, rest, n, hfn, e, hx, _, hl, hm, hlen, hel, _, _⟩
  · simp only [List.cons.injEq, and_true] at e
    rw [e]
    exact ⟨[], 0, 0, ⟨⟨none, 0, rfl, Nat.le_refl _, Nat.zero_le _, fun h => absurd rfl h⟩, fun i hi => by simp at hi⟩, Nat.zero_le _, fun i hi => by simp at hi⟩
  · simp only [List.cons.injEq, and_true] at e
    rw [e]
    have hrb : reachBytes = 140737488351232 := by decide
    have hd : d = .slice (elems.map (·.1)) (rest.map (·.1)) := congrArg Prod.fst hx
    have hin0 : (elems.length + rest.length) * 32 ∈ d.weights Tryz.prog 23 := by
      rw [hd]
      simp only [DataW.weights, Tryz.underlying23, List.length_map, inpBytes]
      exact List.mem_cons_self
    have hlb := hwt _ hin0
    have hins : ∀ i, i < len → ∃ x : InL, (x.1.length ≤ 140737488351232 ∧ x.2.length ≤ 140737488351232) ∧ W.cells? 0 (a.add (i * 2)) 2 = some [.string (tx x.1), .string (tx x.2)] := by
      intro i hi
      have h1 := hel i hi
      rw [inpCells, List.getElem?_eq_getElem (by omega)] at h1
      cases hc : W.cells? 0 (a.add (i * 2)) 2 with
      | none => rw [hc] at h1; simp at h1
      | some cs' =>
        rw [hc] at h1
        simp only [Option.bind_some] at h1
        obtain ⟨s, u, rfl, w1, w2⟩ := inp_trod n cs' _ h1
        have hmem : ∀ m, m ∈ (elems[i]'(by omega)).1.weights Tryz.prog 43 → m ∈ d.weights Tryz.prog 23 := fun m hm => by
          rw [hd]
          simp only [DataW.weights, Tryz.underlying23]
          exact List.mem_cons_of_mem _ (List.mem_append_left _ (inp_weightsAll_mem _ _ _ _ _ (List.mem_map.2 ⟨_, List.getElem_mem (by omega), rfl⟩) hm))
        have hle1 := hwt _ (hmem _ w1)
        have hle2 := hwt _ (hmem _ w2)
        refine ⟨⟨s.data.toList, u.data.toList⟩, ⟨by show s.data.toList.length ≤ _; omega, by show u.data.toList.length ≤ _; omega⟩, ?_⟩
        show _ = some [Value.string (tx s.data.toList), .string (tx u.data.toList)]
        rw [tx_back, tx_back]
    obtain ⟨ps, hpl, hps⟩ := choose_list len hins
    by_cases h0 : len = 0
    · have : ps = [] := List.eq_nil_of_length_eq_zero (by omega)
      subst this
      exact ⟨[], 0, 0, ⟨⟨some a, cap, by rw [h0]; rfl, by simp, hm, fun h => absurd rfl h⟩, fun i hi => by simp at hi⟩, Nat.zero_le _, fun i hi => by simp at hi⟩
    · have ha : ∃ b off, a = ⟨b, off, none⟩ := by
        obtain ⟨_, h1⟩ := hps 0 (by omega)
        obtain ⟨_, _, h2⟩ := World.cells?_some h1
        have h3 := World.cell?_spot (h2 0 (by decide))
        obtain ⟨b, off, spot⟩ := a
        refine ⟨b, off, ?_⟩
        have : spot = none := by simpa [Addr.add] using h3
        rw [this]
      obtain ⟨b, off, rfl⟩ := ha
      have hcell : ∀ i (hi : i < ps.length), W.cell? ⟨b, off + i * 2, none⟩ = some (.string (tx ps[i].1)) ∧ W.cell? ⟨b, off + i * 2 + 1, none⟩ = some (.string (tx ps[i].2)) := by
        intro i hi
        obtain ⟨hw, h1⟩ := hps i hi
        obtain ⟨_, _, h2⟩ := World.cells?_some h1
        have e0 := h2 0 (by decide)
        have e1 := h2 1 (by decide)
        rw [Go.WideShapes.add_plain, Go.WideShapes.add_plain] at e0 e1
        exact ⟨e0, e1⟩
      refine ⟨ps, b, off, ⟨⟨_, cap, by rw [hpl], by omega, hm, fun _ => ⟨rfl, ?_⟩⟩, hcell⟩, by omega, fun i hi => (hps i hi).1⟩
      exact World.block_lt_of_cell? W _ (hcell 0 (by omega)).1
theorem ml_of (W : World) (h : W.ShapedOpen Tryz.prog) : ∃ m, W.cell? ⟨1, 0, none⟩ = some (.int .i64 m) :=
  cell_of_shapedOpen_int (k := .i64) h (of_decide_eq_true (by kernel_rfl)) (t := 3) (zero := #[.int .i64 0]) (by kernel_rfl) rfl (by kernel_rfl) (by kernel_rfl) (by kernel_rfl)
theorem wml_of {W : World} (h : W.ShapedOpen Tryz.prog) : Pth.Ml W := by
  obtain ⟨m, h⟩ := ml_of W h
  exact ⟨m, h⟩
def Reach (ps : List FileL) : Prop := ps.length ≤ 140737488351232 ∧ ∀ i (hi : i < ps.length), ps[i].1.length ≤ 140737488351232 ∧ ps[i].2.length ≤ 140737488351232
set_option maxRecDepth 100000 in
theorem open_files {H : Type} {enc : TypeId × Value → H} {W : World} {base : Nat} {v : Value} {d : DataW H} {p : List MemPlace} (hv : Value.okWide Tryz.prog W .any base 23 v) (h : DataW.Trod enc Tryz.prog W 0 (fun _ => true) true 23 v d p)
    (hwt : ∀ m ∈ d.weights Tryz.prog 23, m ≤ reachBytes) : ∃ ps kb ko, InpS W (OldB W) v ps kb ko ∧ Reach ps := by
  obtain ⟨a0, len0, cap0, rfl⟩ := okWide_slice Tryz.underlying23 hv
  obtain ⟨fuel, hf⟩ := h
  have hf : DataW.trod enc Tryz.prog W 0 (fun _ => true) true fuel 23 [.slice a0 len0 cap0] = some (d, p) := by simpa [Value.cells] using hf
  exact open_inps hf hwt
set_option maxRecDepth 100000 in
theorem files_stay {H : Type} {enc : TypeId × Value → H} {W W' : World} {v : Value} {d : DataW H} {p : List MemPlace} (h : DataW.Trod enc Tryz.prog W 0 (fun _ => true) true 23 v d p) (hb : Below W.heap.size W W') :
    DataW.Trod enc Tryz.prog W' 0 (fun b => decide (b < W.heap.size)) true 23 v d p :=
  Below.trod laidOut (by kernel_rfl) (of_decide_eq_true (by kernel_rfl)) h hb (by obtain ⟨m, hm⟩ := h; exact DataW.trod_lt m _ _ _ hm)
end Go.Proofs.YthehpmffkkogpaaGreatDoor
namespace Go.Proofs.YthehpmffkkogpaaGreatDoor
set_option linter.unusedVariables false
open Go.ChangeShapes Go.WideShapes Go.ChangeAt Go.RowKit
open Go.ChangeMaps (open_string shut_string)
theorem perm_mem {l d : List FileL} (h : makeF l = .ok d) {P : FileL → Prop} (hp : ∀ x ∈ l, P x) : ∀ x ∈ d, P x := fun x hx => hp x ((make_len h).2.mem_iff.1 hx)
theorem sortF_sorted {l : List FileL} (h : Asc l) : sortF l = l := asc_perm (sortF_asc l) h (sortF_perm (asc_nodup h))
theorem make_good {l d : List FileL} (h : makeF l = .ok d) : goodF d = true := by
  obtain ⟨h1, h2, h3, h4, h5⟩ := make_parts h
  obtain ⟨h6, h7⟩ := make_len h
  have hasc : Asc d := by rw [h5]; exact sortF_asc l
  refine good_iff.2 ?_
  have hb : badF d = none := badF_none.2 (perm_mem h h2)
  have hc : clashF d = false := by rw [clashF_perm h7]; exact h4
  have := make_ok (l := d) (by omega) hb (asc_nodup hasc) hc
  rw [this, sortF_sorted hasc]
/-FRAME-/
end Go.Proofs.YthehpmffkkogpaaGreatDoor
namespace Go.Proofs.YthehpmffkkogpaaGreatDoor
set_option linter.unusedVariables false
open Go.ChangeShapes Go.WideShapes Go.ChangeAt Go.RowKit
theorem treeCells : Tryz.prog.cellsOf 25 = 1 := by kernel_rfl
set_option maxRecDepth 20000 in
theorem tree_trod {H : Type} {enc : TypeId × Value → H} {W : World} (fuel : Nat) (cs : List Value) (x : DataW H × List MemPlace) (h : DataW.trod enc Tryz.prog W 0 (fun _ => true) true fuel 25 cs = some x) :
    ∃ c : Value, cs = [c] ∧ ∃ fuel' y, DataW.trod enc Tryz.prog W 0 (fun _ => true) true fuel' 23 [c] = some y ∧ ∀ m ∈ y.1.weights Tryz.prog 23, m ∈ x.1.weights Tryz.prog 25 := by
  obtain ⟨xs, m, hfm, rfl, hl, hlen, hf⟩ := DataW.trod_struct Tryz.underlying25 h
  rw [treeCells] at hl
  match cs, hl with
  | [c0], _ =>
    have hl1 : xs.length = 1 := hlen
    match xs, hl1 with
    | [y0], _ =>
      have h0 : DataW.trod enc Tryz.prog W 0 (fun _ => true) true m 23 (([c0].drop 0).take (Tryz.prog.cellsOf 23)) = some y0 := hf 0 _ rfl
      rw [insCells1] at h0
      have h0 : DataW.trod enc Tryz.prog W 0 (fun _ => true) true m 23 [c0] = some y0 := h0
      refine ⟨c0, rfl, m, y0, h0, fun k hk => ?_⟩
      simp only [List.map_cons, List.map_nil, DataW.weights, Tryz.underlying25, DataW.weightsEach, List.mem_append]
      exact .inl hk
set_option maxRecDepth 100000 in
theorem open_tree {H : Type} {enc : TypeId × Value → H} {W : World} {base : Nat} {v : Value} {d : DataW H} {p : List MemPlace} (hv : Value.okWide Tryz.prog W .any base 25 v) (h : DataW.Trod enc Tryz.prog W 0 (fun _ => true) true 25 v d p)
    (hwt : ∀ m ∈ d.weights Tryz.prog 25, m ≤ reachBytes) : ∃ (ps : List FileL) (c : Value) (kb ko : Nat), v = .agg #[c] ∧ InpS W (OldB W) c ps kb ko ∧ Reach ps := by
  obtain ⟨cs, rfl, hsz⟩ := okWide_struct Tryz.underlying25 hv
  obtain ⟨fuel, hf⟩ := h
  obtain ⟨c, hcs, fuel', y, hy, hm⟩ := tree_trod fuel _ _ hf
  obtain ⟨ps, kb, ko, hps, hl, hlens⟩ := open_inps hy fun m hmm => hwt m (hm m hmm)
  refine ⟨ps, c, kb, ko, ?_, hps, hl, hlens⟩
  congr 1
  apply Array.ext'
  simpa [Value.cells] using hcs
set_option maxRecDepth 100000 in
theorem tree_stays {H : Type} {enc : TypeId × Value → H} {W W' : World} {v : Value} {d : DataW H} {p : List MemPlace} (h : DataW.Trod enc Tryz.prog W 0 (fun _ => true) true 25 v d p) (hb : Below W.heap.size W W') :
    DataW.Trod enc Tryz.prog W' 0 (fun b => decide (b < W.heap.size)) true 25 v d p :=
  Below.trod laidOut (by kernel_rfl) (of_decide_eq_true (by kernel_rfl)) h hb (by obtain ⟨m, hm⟩ := h; exact DataW.trod_lt m _ _ _ hm)
def ReachF (f : FileL) : Prop := f.1.length ≤ 140737488351232 ∧ f.2.length ≤ 140737488351232
set_option maxRecDepth 100000 in
theorem open_file {H : Type} {enc : TypeId × Value → H} {W : World} {base : Nat} {v : Value} {d : DataW H} {p : List MemPlace} (hv : Value.okWide Tryz.prog W .any base 43 v) (h : DataW.Trod enc Tryz.prog W 0 (fun _ => true) true 43 v d p)
    (hwt : ∀ m ∈ d.weights Tryz.prog 43, m ≤ reachBytes) : ∃ f : FileL, v = .agg #[.string (tx f.1), .string (tx f.2)] ∧ ReachF f := by
  obtain ⟨cs, rfl, hsz⟩ := okWide_struct Tryz.underlying43 hv
  obtain ⟨fuel, hf⟩ := h
  obtain ⟨s, u, hcs, w1, w2⟩ := inp_trod fuel _ _ hf
  have hrb : reachBytes = 140737488351232 := by decide
  have h1 := hwt _ w1
  have h2 := hwt _ w2
  refine ⟨⟨s.data.toList, u.data.toList⟩, ?_, by show s.data.toList.length ≤ _; omega, by show u.data.toList.length ≤ _; omega⟩
  rw [tx_back, tx_back]
  congr 1
  apply Array.ext'
  simpa [Value.cells] using hcs
set_option maxRecDepth 100000 in
theorem file_stays {H : Type} {enc : TypeId × Value → H} {W W' : World} {v : Value} {d : DataW H} {p : List MemPlace} (h : DataW.Trod enc Tryz.prog W 0 (fun _ => true) true 43 v d p) (hb : Below W.heap.size W W') :
    DataW.Trod enc Tryz.prog W' 0 (fun b => decide (b < W.heap.size)) true 43 v d p :=
  Below.trod laidOut (by kernel_rfl) (of_decide_eq_true (by kernel_rfl)) h hb (by obtain ⟨m, hm⟩ := h; exact DataW.trod_lt m _ _ _ hm)
theorem gSyn : Tryz.prog.globalNamed "strconv.ErrSyntax" = some 3 := by kernel_rfl
theorem gRng : Tryz.prog.globalNamed "strconv.ErrRange" = some 4 := by kernel_rfl
theorem star_es : "*" ++ "errors.errorString" = "*errors.errorString" := by decide
theorem row_es (u : TypeId) (h : Tryz.prog.typeName? 3 u = some "*errors.errorString") : u = 174 :=
  typeName_ptr_named (nm := "errors.errorString") (by rw [star_es]; kernel_rfl) (by kernel_rfl) (by decide) u (by rw [star_es]; exact h)
theorem syn_of {r : List (String × DataW Unit)} {W : World} (h : laidMet Tryz.prog (("strconv.ErrSyntax", Rows.laid_strconv_ErrSyntax) :: r) W) : ∃ tp p, W.var? Tryz.prog "strconv.ErrSyntax" = some #[.iface tp p] := by
  obtain ⟨a, s, hv, _⟩ := laid_sentinel h gSyn (ti := 102) (by kernel_rfl) Tryz.underlying102 row_es Tryz.underlying174 Tryz.underlying176 rfl rfl Tryz.underlying9 (by kernel_rfl) (by kernel_rfl)
  exact ⟨_, _, hv⟩
theorem rng_of {r : List (String × DataW Unit)} {W : World} (h : laidMet Tryz.prog (("strconv.ErrRange", Rows.laid_strconv_ErrRange) :: r) W) : ∃ tp p, W.var? Tryz.prog "strconv.ErrRange" = some #[.iface tp p] := by
  obtain ⟨a, s, hv, _⟩ := laid_sentinel h gRng (ti := 102) (by kernel_rfl) Tryz.underlying102 row_es Tryz.underlying174 Tryz.underlying176 rfl rfl Tryz.underlying9 (by kernel_rfl) (by kernel_rfl)
  exact ⟨_, _, hv⟩
set_option maxRecDepth 100000 in
theorem lb_of {W : World} (h : laidMet Tryz.prog [("math/bits.deBruijn32tab", Rows.laid_math_bits_deBruijn32tab), ("math/bits.deBruijn64tab", Rows.laid_math_bits_deBruijn64tab), ("internal/strconv.uint64pow10", Rows.laid_internal_strconv_uint64pow10), ("unicode/utf8.acceptRanges", Rows.laid_unicode_utf8_acceptRanges), ("strconv.ErrRange", Rows.laid_strconv_ErrRange), ("strconv.ErrSyntax", Rows.laid_strconv_ErrSyntax), ("unicode/utf8.first", Rows.laid_unicode_utf8_first)] W) (hs : W.ShapedOpen Tryz.prog) : Lb W.heap.size W := by
  obtain ⟨tp, p, h1⟩ := syn_of h.tail.tail.tail.tail.tail
  obtain ⟨tq, q, h2⟩ := rng_of h.tail.tail.tail.tail
  obtain ⟨m, h3⟩ := ml_of W hs
  refine ⟨Nat.le_refl _, Lib.tabBelow_of_tabIs (tb_of h (.tail _ (.tail _ (.head _)))), ⟨tp, p, fun w' hb => Joins.var_stays gSyn h1 hb (Nat.le_refl _)⟩, ⟨tq, q, fun w' hb => Joins.var_stays gRng h2 hb (Nat.le_refl _)⟩, ⟨m, fun w' hb => ?_⟩⟩
  rw [← h3]
  exact World.cell?_of_block (hb.block _ (World.block_lt_of_cell? W _ h3))


end Go.Proofs.YthehpmffkkogpaaGreatDoor
