/- The contract of term: what all comparisons of a term have. Condition: the version's tables lie below (Pw). -/
import Derived.Test.YtaijhebjjbcdfaaGreatDoorSpComp
import Derived.Test.YtaijhebjjbcdfaaGreatDoorSpOver

namespace Go.Proofs.YtaijhebjjbcdfaaGreatDoor
set_option linter.unusedVariables false
open Go.ChangeShapes Go.WideShapes Go.ChangeAt Go.RowKit
attribute [local go_sem] Oper.semAt_some
/- what the version's texts want of the library's variables, below g -/
structure Pw (g : Nat) (w : World) : Prop where
  le : 2 < g ∧ g ≤ w.heap.size
  ex : ∃ W0 : World, W0.heap.size = g ∧ Ver.Er W0 ∧ Ver.Tb W0 ∧ (∃ m, W0.cell? ⟨2, 0, none⟩ = some (.int .i64 m)) ∧ Below g W0 w
theorem Pw.keep {g : Nat} {S : Nat → Prop} {w w' : World} (h : Pw g w) (hc : Chg S w w') (hS : ∀ k, S k → g ≤ k) : Pw g w' := by
  obtain ⟨W0, h0, h1, h2, h3, h4⟩ := h.ex
  refine ⟨⟨h.le.1, Nat.le_trans h.le.2 hc.size⟩, W0, h0, h1, h2, h3, ⟨hc.os.trans h4.os, hc.tape.trans h4.tape, hc.output.trans h4.output, Nat.le_trans h4.size hc.size, fun k hk => (hc.block k (Nat.lt_of_lt_of_le hk h.le.2) fun x => ?_).trans (h4.block k hk)⟩⟩
  have := hS k x
  omega
theorem Pw.er {g : Nat} {w : World} (h : Pw g w) : Ver.Er w := by
  obtain ⟨W0, h0, h1, -, -, h4⟩ := h.ex
  subst h0
  exact h1.keep h4
theorem Pw.tb {g : Nat} {w : World} (h : Pw g w) : Ver.Tb w := by
  obtain ⟨W0, h0, -, h1, -, h4⟩ := h.ex
  subst h0
  exact h1.keep h4
theorem Pw.ml {g : Nat} {w : World} (h : Pw g w) : ∃ m, w.cell? ⟨2, 0, none⟩ = some (.int .i64 m) := by
  obtain ⟨W0, h0, -, -, ⟨m, h1⟩, h4⟩ := h.ex
  subst h0
  exact ⟨m, (h4.cell (cell_lt h1)).trans h1⟩
theorem Pw.of {w : World} (h1 : Ver.Er w) (h2 : Ver.Tb w) (h3 : ∃ m, w.cell? ⟨2, 0, none⟩ = some (.int .i64 m)) : Pw w.heap.size w :=
  ⟨⟨by obtain ⟨m, h⟩ := h3; exact cell_lt h, Nat.le_refl _⟩, w, rfl, h1, h2, h3, Below.refl _ _⟩
theorem comp_pw {g : Nat} {w : World} (hp : Pw g w) (s : List UInt8) (hl : s.length ≤ 65536) : Calls Tryz.prog 45 #[.string (tx s)] w (CompP (compL s) w) :=
  comp_any s w hl fun W t hc ht => by
    have hW := hp.keep hc fun k h => h.elim
    obtain ⟨m, hm⟩ := hW.ml
    have h := Ver.parse_any m (tx t) W hm hW.er hW.tb (by rw [tx_size]; exact ht)
    rw [tx_list] at h
    exact h
def stepT (o : Option GapL) (t : List UInt8) : Option GapL := o.bind fun g => (compL t).map (commonG g)
def termL (s : List UInt8) : Option GapL := (Lib.split s [32]).foldl stepT (some (0, allG))
def foldT (l : List B20) : Option GapL := (l.map fun x => x.1).foldl stepT (some (0, allG))
theorem foldT_snoc (l : List B20) (x : B20) : foldT (l ++ [x]) = stepT (foldT l) x.1 := by
  unfold foldT
  rw [List.map_append, List.foldl_append]
  rfl
theorem stepT_none (l : List (List UInt8)) : l.foldl stepT none = none := by
  induction l with
  | nil => rfl
  | cons a r ih => exact ih
theorem clip_all {l : List (List UInt8)} (h : ∀ x ∈ l, x.length ≤ 65536) : (l.map clip).map (fun x => x.1) = l := by
  rw [List.map_map]
  conv => rhs; rw [← List.map_id l]
  exact List.map_congr_left fun x hx => clip_val (h x hx)
theorem term_pieces {s : List UInt8} (hs : s.length ≤ 65536) : foldT ((Lib.split s [32]).map clip) = termL s := by
  unfold foldT termL
  rw [clip_all fun x hx => Nat.le_trans ((spl_len (by simp) s.length s (Nat.le_refl _)).1 x hx) hs]
theorem foldT_prefix {a b : List B20} (h : a <+: b) (hn : foldT a = none) : foldT b = none := by
  obtain ⟨r, rfl⟩ := h
  unfold foldT at hn ⊢
  rw [List.map_append, List.foldl_append, hn]
  exact stepT_none _
theorem results_cells {fn : Func} {p t : Tmp} {ty ty' : TypeId} (h : fn.results = #[.cell p ty, .cell t ty']) (tmps : Array Value) {P : Program} {w : World} {a b : Addr} {v u : Value} (hp : tmps.getD p undef = .pointer (some a)) (hl : (loadVar ty a).run P w = .ok v w) (ht : tmps.getD t undef = .pointer (some b)) (hl' : (loadVar ty' b).run P w = .ok u w) : (results fn tmps).run P w = .ok (.tuple #[v, u]) w := by
  rw [Array.getD_eq_getD_getElem?] at hp ht
  simp only [results, h]
  simp [Result.andThen, hp, asAddr, hl, ht, hl']
def TB (b2 b3 b4 sb : Nat) (k : Nat) : Prop := k = b2 ∨ k = b3 ∨ k = b4 ∨ k = sb
structure TermI (w5 V : World) (b2 b3 b4 sb : Nat) (g : GapL) : Prop where
  chg : Chg (TB b2 b3 b4 sb) w5 V
  r2 : V.heap[b2]? = some (.cells #[.int .i64 0, .int .i64 0] 37 (0, 0))
  r3 : V.heap[b3]? = some (.cells #[.bool false] 4 (0, 0))
  r4 : V.heap[b4]? = some (.cells #[.int .i64 g.1, .int .i64 g.2] 37 (0, 0))
theorem TermI.grown {w5 A B : World} {b2 b3 b4 sb : Nat} {g : GapL} {row : Option Nat} (h : TermI w5 A b2 b3 b4 sb g) (hg : A.grownBy B row) (hr : ∀ r, row = some r → w5.heap.size ≤ r ∨ r = sb) (hlt : b2 < w5.heap.size ∧ b3 < w5.heap.size ∧ b4 < w5.heap.size) (hne : b2 ≠ sb ∧ b3 ≠ sb ∧ b4 ≠ sb) : TermI w5 B b2 b3 b4 sb g := by
  have hk : ∀ b o, b < w5.heap.size → b ≠ sb → A.heap[b]? = some o → B.heap[b]? = some o := fun b o h1 h2 h3 => (hg.block b (Array.getElem?_eq_some_iff.1 h3).1 fun e => by rcases hr b e.symm with x | x <;> omega).trans h3
  exact ⟨h.chg.grown hg fun k e => (hr k e).symm.imp (fun x => .inr (.inr (.inr x))) id, hk _ _ hlt.1 hne.1 h.r2, hk _ _ hlt.2.1 hne.2.1 h.r3, hk _ _ hlt.2.2 hne.2.2 h.r4⟩
theorem TermI.keep {w5 A B : World} {b2 b3 b4 sb : Nat} {g : GapL} (h : TermI w5 A b2 b3 b4 sb g) (hc : Chg NoB A B) : TermI w5 B b2 b3 b4 sb g :=
  ⟨h.chg.trans (hc.mono fun _ _ x => x.elim), row_kept hc h.r2 id, row_kept hc h.r3 id, row_kept hc h.r4 id⟩
theorem Chg.othersN {A B : World} (hc : Chg NoB A B) : KeepsOthers A B := ⟨hc.size, fun k o hk _ => (hc.block k (Array.getElem?_eq_some_iff.1 hk).1 id).trans hk⟩
/- the gap so far turned -/
theorem TermI.put {w5 A : World} {b2 b3 b4 sb : Nat} {g g' : GapL} (h : TermI w5 A b2 b3 b4 sb g) (h24 : b2 ≠ b4) (h34 : b3 ≠ b4) : TermI w5 ((A.setCell ⟨b4, 0, none⟩ (.int .i64 g'.1)).setCell ⟨b4, 1, none⟩ (.int .i64 g'.2)) b2 b3 b4 sb g' ∧ KeepT (fun k => k = b2 ∨ k = b3 ∨ k = b4) A ((A.setCell ⟨b4, 0, none⟩ (.int .i64 g'.1)).setCell ⟨b4, 1, none⟩ (.int .i64 g'.2)) ∧ KeepsOthers A ((A.setCell ⟨b4, 0, none⟩ (.int .i64 g'.1)).setCell ⟨b4, 1, none⟩ (.int .i64 g'.2)) := by
  have hc : Chg (fun k => k = b4) A ((A.setCell ⟨b4, 0, none⟩ (.int .i64 g'.1)).setCell ⟨b4, 1, none⟩ (.int .i64 g'.2)) := ((Chg.refl (fun k => k = b4) A).setCell (p := ⟨b4, 0, none⟩) (.inl rfl) _).setCell (p := ⟨b4, 1, none⟩) (.inl rfl) _
  exact ⟨⟨h.chg.trans (hc.mono fun _ _ x => .inr (.inr (.inl x))), row_kept hc h.r2 h24, row_kept hc h.r3 h34, heap_set (heap_set h.r4 (i := 0) (.int .i64 g'.1)) (i := 1) (.int .i64 g'.2)⟩, hc.keepT fun k x => .inr (.inr x), (KeepsOthers.setCell _ _ _).trans (KeepsOthers.setCell _ _ _)⟩
theorem TermI.zero {w5 A : World} {b2 b3 b4 sb : Nat} {g : GapL} (h : TermI w5 A b2 b3 b4 sb g) (h23 : b2 ≠ b3) (h24 : b2 ≠ b4) (h34 : b3 ≠ b4) : TermI w5 (((A.setCell ⟨b2, 0, none⟩ (.int .i64 0)).setCell ⟨b2, 1, none⟩ (.int .i64 0)).setCell ⟨b3, 0, none⟩ (.bool false)) b2 b3 b4 sb g ∧ KeepsOthers A (((A.setCell ⟨b2, 0, none⟩ (.int .i64 0)).setCell ⟨b2, 1, none⟩ (.int .i64 0)).setCell ⟨b3, 0, none⟩ (.bool false)) := by
  have c2 : Chg (fun k => k = b2) A ((A.setCell ⟨b2, 0, none⟩ (.int .i64 0)).setCell ⟨b2, 1, none⟩ (.int .i64 0)) := ((Chg.refl (fun k => k = b2) A).setCell (p := ⟨b2, 0, none⟩) (.inl rfl) _).setCell (p := ⟨b2, 1, none⟩) (.inl rfl) _
  have r2 := heap_set (heap_set h.r2 (i := 0) (.int .i64 0)) (i := 1) (.int .i64 0)
  have r3 := row_kept c2 h.r3 (fun e => h23 e.symm)
  have r4 := row_kept c2 h.r4 (fun e => h24 e.symm)
  have ko : KeepsOthers A ((A.setCell ⟨b2, 0, none⟩ (.int .i64 0)).setCell ⟨b2, 1, none⟩ (.int .i64 0)) := (KeepsOthers.setCell _ _ _).trans (KeepsOthers.setCell _ _ _)
  generalize (A.setCell ⟨b2, 0, none⟩ (.int .i64 0)).setCell ⟨b2, 1, none⟩ (.int .i64 0) = V2 at *
  have c3 : Chg (fun k => k = b3) V2 (V2.setCell ⟨b3, 0, none⟩ (.bool false)) := (Chg.refl (fun k => k = b3) V2).setCell (p := ⟨b3, 0, none⟩) (.inl rfl) _
  exact ⟨⟨(h.chg.trans (c2.mono fun _ _ x => .inl x)).trans (c3.mono fun _ _ x => .inr (.inl x)), row_kept c3 r2 h23, heap_set r3 (i := 0) (.bool false), row_kept c3 r4 (fun e => h34 e.symm)⟩, ko.trans (KeepsOthers.setCell _ _ _)⟩
/- results laid, the call ends -/
theorem term_fin {w w5 V : World} {b2 b3 b4 sb D : Nat} {g : GapL} (h : TermI w5 V b2 b3 b4 sb g) (hc : Chg NoB w w5) (hb : w.heap.size ≤ b2 ∧ w.heap.size ≤ b3 ∧ w.heap.size ≤ b4 ∧ w.heap.size ≤ sb) (h23 : b2 ≠ b3) (hK : V.heap[D]? = some (.deferred (some []))) (hD : w5.heap.size ≤ D) (x y : Int) (b : Bool) :
    (((V.setCell ⟨b2, 0, none⟩ (.int .i64 x)).setCell ⟨b2, 1, none⟩ (.int .i64 y)).setCell ⟨b3, 0, none⟩ (.bool b)).heap[D]? = some (.deferred (some [])) ∧
    ((((V.setCell ⟨b2, 0, none⟩ (.int .i64 x)).setCell ⟨b2, 1, none⟩ (.int .i64 y)).setCell ⟨b3, 0, none⟩ (.bool b)).putObj D (.deferred none)).heap[b2]? = some (.cells #[.int .i64 x, .int .i64 y] 37 (0, 0)) ∧
    ((((V.setCell ⟨b2, 0, none⟩ (.int .i64 x)).setCell ⟨b2, 1, none⟩ (.int .i64 y)).setCell ⟨b3, 0, none⟩ (.bool b)).putObj D (.deferred none)).heap[b3]? = some (.cells #[.bool b] 4 (0, 0)) ∧
    Chg NoB w ((((V.setCell ⟨b2, 0, none⟩ (.int .i64 x)).setCell ⟨b2, 1, none⟩ (.int .i64 y)).setCell ⟨b3, 0, none⟩ (.bool b)).putObj D (.deferred none)) := by
  have hS : ∀ k, TB b2 b3 b4 sb k → w.heap.size ≤ k := fun k hk => by rcases hk with rfl | rfl | rfl | rfl <;> omega
  have hV : Chg NoB w V := hc.above h.chg hS
  have c2 : Chg (fun k => k = b2) V ((V.setCell ⟨b2, 0, none⟩ (.int .i64 x)).setCell ⟨b2, 1, none⟩ (.int .i64 y)) := ((Chg.refl (fun k => k = b2) V).setCell (p := ⟨b2, 0, none⟩) (.inl rfl) _).setCell (p := ⟨b2, 1, none⟩) (.inl rfl) _
  have r2 := heap_set (heap_set h.r2 (i := 0) (.int .i64 x)) (i := 1) (.int .i64 y)
  have r3 := row_kept c2 h.r3 (fun e => h23 e.symm)
  have k2 := c2
  generalize (V.setCell ⟨b2, 0, none⟩ (.int .i64 x)).setCell ⟨b2, 1, none⟩ (.int .i64 y) = V2 at *
  have c3 : Chg (fun k => k = b3) V2 (V2.setCell ⟨b3, 0, none⟩ (.bool b)) := (Chg.refl (fun k => k = b3) V2).setCell (p := ⟨b3, 0, none⟩) (.inl rfl) _
  have r2' := row_kept c3 r2 h23
  have r3' := heap_set r3 (i := 0) (.bool b)
  have hW : Chg NoB w (V2.setCell ⟨b3, 0, none⟩ (.bool b)) := (hV.above c2 fun k hk => by rw [hk]; exact hb.1).above c3 fun k hk => by rw [hk]; exact hb.2.1
  have kk : V2.heap[D]? = some (.deferred (some [])) := by
    have hd2 : D ≠ b2 := fun e => by rw [e, h.r2] at hK; cases hK
    exact (c2.block D (Array.getElem?_eq_some_iff.1 hK).1 hd2).trans hK
  have hK' := (KeepsOthers.setCell V2 ⟨b3, 0, none⟩ (.bool b)).same D _ kk rfl
  have hg := grownBy_putObj' (V2.setCell ⟨b3, 0, none⟩ (.bool b)) D (.deferred none)
  generalize V2.setCell ⟨b3, 0, none⟩ (.bool b) = V3 at *
  have hnd : ∀ (b' : Nat) (cs : Array Value) (t : TypeId) (f : Nat × Nat), V3.heap[b']? = some (.cells cs t f) → (V3.putObj D (.deferred none)).heap[b']? = some (.cells cs t f) := fun b' cs t f e =>
    (World.putObj_heap_other (fun e2 => by subst e2; rw [hK'] at e; cases e)).trans e
  exact ⟨hK', hnd _ _ _ _ r2', hnd _ _ _ _ r3', hW.grown hg fun k e => .inr (by cases e; have := hc.size; omega)⟩
set_option maxHeartbeats 4000000 in
set_option maxRecDepth 20000 in
theorem term_any (low : Nat) (s : List UInt8) (w : World) (hs : s.length ≤ 65536) (hp : Pw low w) : Calls Tryz.prog 25 #[.string (tx s)] w (CompP (termL s) w) := by
  have hal_ := (Chg.refl NoB w).alloc (.cells #[.int .i64 0, .int .i64 0] 37)
  have hb_ := heap_alloc_new w (.cells #[.int .i64 0, .int .i64 0] 37)
  obtain ⟨b2, hxb_⟩ : ∃ b, b = w.heap.size := ⟨_, rfl⟩
  obtain ⟨w2, hw_⟩ : ∃ w_, w.alloc (.cells #[.int .i64 0, .int .i64 0] 37) = w_ := ⟨_, rfl⟩
  have hz_ : w2.heap.size = b2 + 1 := by rw [← hw_, hxb_]; exact alloc_size _ _
  rw [hw_] at hal_ hb_
  rw [← hxb_] at hb_
  have Hw2 := Lib.hid hw_
  have Hx2 := Lib.hid hxb_
  have Ha2 := Lib.hid hal_
  have Hb2 := Lib.hid hb_
  have Hz2 := Lib.hid hz_
  clear hal_ hb_ hxb_ hw_ hz_
  have hal_ := (Chg.refl NoB w2).alloc (.cells #[.bool false] 4)
  have hb_ := heap_alloc_new w2 (.cells #[.bool false] 4)
  obtain ⟨b3, hxb_⟩ : ∃ b, b = w2.heap.size := ⟨_, rfl⟩
  obtain ⟨w3, hw_⟩ : ∃ w_, w2.alloc (.cells #[.bool false] 4) = w_ := ⟨_, rfl⟩
  have hz_ : w3.heap.size = b3 + 1 := by rw [← hw_, hxb_]; exact alloc_size _ _
  rw [hw_] at hal_ hb_
  rw [← hxb_] at hb_
  have Hw3 := Lib.hid hw_
  have Hx3 := Lib.hid hxb_
  have Ha3 := Lib.hid hal_
  have Hb3 := Lib.hid hb_
  have Hz3 := Lib.hid hz_
  clear hal_ hb_ hxb_ hw_ hz_
  have hal_ := (Chg.refl NoB w3).alloc (.cells #[.int .i64 0, .int .i64 1000000000] 37)
  have hb_ := heap_alloc_new w3 (.cells #[.int .i64 0, .int .i64 1000000000] 37)
  obtain ⟨b4, hxb_⟩ : ∃ b, b = w3.heap.size := ⟨_, rfl⟩
  obtain ⟨w4, hw_⟩ : ∃ w_, w3.alloc (.cells #[.int .i64 0, .int .i64 1000000000] 37) = w_ := ⟨_, rfl⟩
  have hz_ : w4.heap.size = b4 + 1 := by rw [← hw_, hxb_]; exact alloc_size _ _
  rw [hw_] at hal_ hb_
  rw [← hxb_] at hb_
  have Hw4 := Lib.hid hw_
  have Hx4 := Lib.hid hxb_
  have Ha4 := Lib.hid hal_
  have Hb4 := Lib.hid hb_
  have Hz4 := Lib.hid hz_
  clear hal_ hb_ hxb_ hw_ hz_
  have Hp := Lib.hid hp
  have Hs := Lib.hid hs
  have h34 : b2 + 1 = b3 := by rw [Hx3.out, Hz2.out]
  have h44 : b3 + 1 = b4 := by rw [Hx4.out, Hz3.out]
  have H34 := Lib.hid h34
  have H44 := Lib.hid h44
  have HS := Lib.hid (show Calls Tryz.prog 24 #[.string (tx s), .string ⟨#[32]⟩] w4 _ from splitseq_any s [32] w4)
  have Hc4 := Lib.hid (Ha2.out.trans (Ha3.out.trans Ha4.out))
  have Hr2 := Lib.hid (row_kept (Ha3.out.trans Ha4.out) Hb2.out id)
  have Hr3 := Lib.hid (row_kept Ha4.out Hb3.out id)
  clear hp hs h34 h44
  refine (callsIn_wide (n := 4)).1 ?_
  refine callsIn_of_wp_marks Tryz.func25 rfl trivial ?_ rfl
  simp only [Tryz.ntmps25, List.size_toArray, List.length_cons, List.length_nil, Nat.reduceAdd, Nat.reduceSub, Array.replicate_succ, Array.replicate_zero, List.push_toArray, List.append_toArray, List.nil_append, List.cons_append]
  refine wpIn_wide.2 ?_
  go_wp2_with fail
  rw [Hw2.out, Hw3.out, Hw4.out, ← Hx2.out, H34.out, H44.out]
  refine HS.out.mono ?_
  rintro e w5 ⟨pb, sb, zb, rfl, hM, hlo, hc5⟩
  have HM := Lib.hid hM
  have Hlo := Lib.hid hlo
  have Hc5 := Lib.hid hc5
  have Hp5 := Lib.hid (Hp.out.keep (Hc4.out.trans hc5) fun k h => h.elim)
  have Hord := Lib.hid (show b2 < w4.heap.size ∧ b3 < w4.heap.size ∧ b4 < w4.heap.size ∧ w.heap.size ≤ b2 ∧ w.heap.size ≤ b3 ∧ w.heap.size ≤ b4 ∧ 2 < w.heap.size ∧ b2 < b3 ∧ b3 < b4 from by have := Hx2.out; have := Hz4.out; have := H34.out; have := H44.out; have := Hp.out.le; omega)
  obtain ⟨mx, hmx⟩ := Hp5.out.ml
  have Hseq := Lib.hid (seq1_x (4 - 1) sb pb zb (fun k => k = b2 ∨ k = b3 ∨ k = b4) s [32] (by simp) Hs.out (by decide) (by have := Hord.out; have := hlo.2.1; omega) (by have := Hord.out; have := hlo.1; omega) (by have := Hord.out; have := hlo.2.2; omega) (by have := Hord.out; omega) hM.ps hM.zs (by have := Hord.out; have := hlo.2.1; omega) mx w5 hmx hM.s' (var1 hM.p') (var1 hM.z'))
  have HI0 := Lib.hid (show TermI w5 w5 b2 b3 b4 sb (0, allG) from ⟨Chg.refl _ _, row_kept hc5 Hr2.out id, row_kept hc5 Hr3.out id, row_kept hc5 Hb4.out id⟩)
  clear hM hlo hc5 hmx HS
  go_wp2_with fail
  refine (wpIn_wide (n := 4)).1 ?_
  refine wpIn_range_x (α := B20) rfl (by decide) (gf := 59) (lb := #[.pointer (some ⟨pb, 0, none⟩), .pointer (some ⟨sb, 0, none⟩), .pointer (some ⟨zb, 0, none⟩)]) rfl trivial (enters_of Tryz.func59 (by kernel_rfl) rfl)
    (T := fun k => k = sb) (fun k hk => by subst hk; exact (Array.getElem?_eq_some_iff.1 HM.out.s').1) Hseq.out KeepT.trans (fun W l o o' h hc => KeepT.putObj W l o o' h hc) (fun _ => rfl)
    (fun pre V => ∃ g, foldT pre = some g ∧ TermI w5 V b2 b3 b4 sb g)
    (fun co pre V => co = .ret ∧ foldT pre = none ∧ ∃ g, TermI w5 V b2 b3 b4 sb g)
    ?own ?ownx ⟨_, rfl, HI0.out⟩ ?a1 ?assign ?body ?done ?stop
  case own =>
    rintro s' A B row ⟨ag, h1, h2⟩ hg hr
    exact ⟨ag, h1, h2.grown hg (fun r e => (hr r e).imp And.left id) (by have := Hord.out; have := Hc5.out.size; omega) (by have := Hord.out; have := Hlo.out.2.1; omega)⟩
  case ownx =>
    rintro co s' A B row ⟨h0, h1, ag, h2⟩ hg hr
    exact ⟨h0, h1, ag, h2.grown hg (fun r e => (hr r e).imp And.left id) (by have := Hord.out; have := Hc5.out.size; omega) (by have := Hord.out; have := Hlo.out.2.1; omega)⟩
  case assign =>
    intro l' x V K hK
    gi_wp2
    exact hK
  case body =>
    rintro l' pre ⟨t, ht⟩ V ⟨ag, hag, hT⟩ hlen
    have HT := Lib.hid hT
    have Hag := Lib.hid hag
    have hPV := Hp5.out.keep hT.chg (fun k hk => by have := Hord.out; have := Hlo.out.2.1; have := Hp.out.le; rcases hk with rfl | rfl | rfl | rfl <;> omega)
    have HC := Lib.hid (comp_pw hPV t ht)
    have Hsn := Lib.hid (show foldT (pre ++ [⟨t, ht⟩]) = (compL t).map (commonG ag) by rw [foldT_snoc, hag]; rfl)
    generalize compL t = cl at *
    clear hag hT hPV hlen
    cases cl with
    | none =>
      have HC2 := Lib.hid (show Calls Tryz.prog 45 #[.string (tx t)] V (fun e w' => e = .returned (.tuple #[.agg #[.int .i64 0, .int .i64 0], .bool false]) ∧ Chg NoB V w') from HC.out)
      try dsimp only
      gi_wp2
      refine ⟨trivial, ?_⟩
      refine (CallsIn.inRound l' ((callsIn_wide (n := _)).2 HC2.out)).mono ?_
      rintro e V3 ⟨rfl, hc3⟩
      have HT3 := Lib.hid (HT.out.keep hc3)
      have Hc3 := Lib.hid hc3
      clear hc3 HC HC2
      have hal := (Chg.refl NoB V3).alloc (.cells #[.int .i64 0, .int .i64 0] 37)
      have hT4 := HT3.out.keep hal
      have HZ := Lib.hid (hT4.zero (by have := Hord.out; omega) (by have := Hord.out; omega) (by have := Hord.out; omega))
      have HK := Lib.hid ((Hc3.out.trans hal).othersN)
      obtain ⟨r0, r1⟩ := var2 hT4.r2
      have s0 := var1 hT4.r3
      have f2 := row_free hT4.r2
      have f3 := row_free hT4.r3
      have hne : b3 ≠ b2 := by have := Hord.out; omega
      clear hal hT4
      gi_wp2
      exact ⟨HK.out.trans HZ.out.2, rfl, Hsn.out, ag, HZ.out.1⟩
    | some d =>
      obtain ⟨d1, d2⟩ := d
      obtain ⟨a1, a2⟩ := ag
      have HC2 := Lib.hid (show Calls Tryz.prog 45 #[.string (tx t)] V (fun e w' => e = .returned (.tuple #[.agg #[.int .i64 d1, .int .i64 d2], .bool true]) ∧ Chg NoB V w') from HC.out)
      try dsimp only
      gi_wp2
      refine ⟨trivial, ?_⟩
      refine (CallsIn.inRound l' ((callsIn_wide (n := _)).2 HC2.out)).mono ?_
      rintro e V3 ⟨rfl, hc3⟩
      have HT3 := Lib.hid (HT.out.keep hc3)
      have Hc3 := Lib.hid hc3
      clear hc3 HC HC2
      have hal := (Chg.refl NoB V3).alloc (.cells #[.int .i64 d1, .int .i64 d2] 37)
      obtain ⟨e0, e1⟩ := var2 (heap_alloc_new V3 (.cells #[.int .i64 d1, .int .i64 d2] 37))
      have hT4 := HT3.out.keep hal
      have HT4 := Lib.hid hT4
      have Hc4 := Lib.hid (Hc3.out.trans hal)
      obtain ⟨q0, q1⟩ := var2 hT4.r4
      have HM := Lib.hid (show Calls Tryz.prog 39 #[.agg #[.int .i64 a1, .int .i64 a2], .agg #[.int .i64 d1, .int .i64 d2]] (V3.alloc (.cells #[.int .i64 d1, .int .i64 d2] 37)) _ from common_any (a1, a2) (d1, d2) _)
      replace HM := Lib.hid (show Calls Tryz.prog 39 #[.agg #[.int .i64 a1, .int .i64 a2], .agg #[.int .i64 d1, .int .i64 d2]] (V3.alloc (.cells #[.int .i64 d1, .int .i64 d2] 37)) (fun e w' => e = .returned (.agg #[.int .i64 (commonG (a1, a2) (d1, d2)).1, .int .i64 (commonG (a1, a2) (d1, d2)).2]) ∧ Chg NoB _ w') from HM.out)
      have Hsn2 := Lib.hid (show foldT (pre ++ [⟨t, ht⟩]) = some (commonG (a1, a2) (d1, d2)) from Hsn.out)
      generalize commonG (a1, a2) (d1, d2) = cg at *
      obtain ⟨c1, c2⟩ := cg
      clear hal hT4
      gi_wp2
      refine ⟨trivial, ?_⟩
      refine (CallsIn.inRound l' ((callsIn_wide (n := _)).2 HM.out)).mono ?_
      rintro e V5 ⟨rfl, hc5⟩
      have HT5 := Lib.hid (HT4.out.keep hc5)
      have HP := Lib.hid (HT5.out.put (g' := (c1, c2)) (by have := Hord.out; omega) (by have := Hord.out; omega))
      have Hk5 := Lib.hid ((Hc4.out.trans hc5).othersN)
      have Ht5 := Lib.hid ((Hc4.out.trans hc5).keepT (T := fun k => k = b2 ∨ k = b3 ∨ k = b4) fun _ h => h.elim)
      clear q0 q1 e0 e1
      obtain ⟨q0, q1⟩ := var2 HT5.out.r4
      have f4 := row_free HT5.out.r4
      clear hc5 HM
      gi_wp2
      exact ⟨Hk5.out.trans HP.out.2.2, Ht5.out.trans HP.out.2.1, (c1, c2), Hsn2.out, HP.out.1⟩
  case done =>
    rintro D' ys V hD rfl ⟨ag, hag, hT⟩ hK
    rw [term_pieces Hs.out] at hag
    obtain ⟨a1, a2⟩ := ag
    have Hag := Lib.hid hag
    have HF := Lib.hid (term_fin hT (Hc4.out.trans Hc5.out) (by have := Hord.out; have := Hlo.out.2.1; omega) (by have := Hord.out; omega) hK hD a1 a2 true)
    obtain ⟨q0, q1⟩ := var2 hT.r4
    obtain ⟨r0, r1⟩ := var2 hT.r2
    have s0 := var1 hT.r3
    have f2 := row_free hT.r2
    have f3 := row_free hT.r3
    have hne : b3 ≠ b2 := by have := Hord.out; omega
    clear hag hT hK
    go_wp2_with fail
    refine ⟨by simp, .inl ⟨_, _, rfl, run_takeDeferred HF.out.1, ?_⟩⟩
    have z3 := var1 HF.out.2.2.1
    refine ⟨.tuple #[.agg #[.int .i64 a1, .int .i64 a2], .bool true], ?_, ?_, HF.out.2.2.2⟩
    · exact results_cells (p := 2) (t := 3) (ty := 37) (ty' := 4) rfl _ rfl (run_loadVar_row _ _ _ _ _ _ _ HF.out.2.1 (Tryz.underlying37) rfl rfl) rfl (by simp [go_sem, loadVar, z3])
    · rw [Hag.out]; rfl
  case stop =>
    rintro D' co pre V hD hpre ⟨rfl, hn, ag, hT⟩ hK
    have Hn := Lib.hid (show termL s = none by rw [← term_pieces Hs.out]; exact foldT_prefix hpre hn)
    have hg := grownBy_putObj' V D' (.deferred none)
    have HV := Lib.hid (((Hc4.out.trans Hc5.out).above hT.chg (fun k hk => by have := Hord.out; have := Hlo.out.2.1; rcases hk with rfl | rfl | rfl | rfl <;> omega) : Chg NoB w V).grown hg fun k e => .inr (by cases e; have := (Hc4.out.trans Hc5.out).size; omega))
    have HT' := Lib.hid (show TermI w5 (V.putObj D' (.deferred none)) b2 b3 b4 sb ag from hT.grown hg (fun r e => .inl (by cases e; exact hD)) (by have := Hord.out; have := Hc5.out.size; omega) (by have := Hord.out; have := Hlo.out.2.1; omega))
    have HK := Lib.hid hK
    clear hn hT hK hg hpre
    gi_wp2
    refine ⟨by simp, .inl ⟨_, _, rfl, run_takeDeferred HK.out, ?_⟩⟩
    have z3 := var1 HT'.out.r3
    refine ⟨.tuple #[.agg #[.int .i64 0, .int .i64 0], .bool false], ?_, ?_, HV.out⟩
    · exact results_cells (p := 2) (t := 3) (ty := 37) (ty' := 4) rfl _ rfl (run_loadVar_row _ _ _ _ _ _ _ HT'.out.r2 (Tryz.underlying37) rfl rfl) rfl (by simp [go_sem, loadVar, z3])
    · rw [Hn.out]; rfl
end Go.Proofs.YtaijhebjjbcdfaaGreatDoor
