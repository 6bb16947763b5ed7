/- The contracts of a builder's copyCheck and WriteString at this seat (its copyCheck ends in a refusal where the library's panics). Condition: the builder lies in a block of the call's own. -/
import Derived.Test.YtaihgciokfkonaaDoorAmWrit
import Derived.Test.YtaihgciokfkonaaDoorShelf
import Derived.Lib.Builder
import Derived.Lib.AppendStr
import Derived.Laws.Externs
namespace Go.Proofs.YtaihgciokfkonaaDoor
set_option linter.unusedVariables false
open Go.ChangeShapes Go.WideShapes Go.ChangeAt Go.RowKit
theorem bSize : (Tryd.prog.info? 60).map (fun i => i.size) = some 2 := by kernel_rfl
theorem bLies : liesAt Tryd.prog Tryd.prog.depth 60 (2 / Tryd.prog.cellsOf 60) 0 60 1 = true := by kernel_rfl
set_option maxHeartbeats 1000000 in
set_option maxRecDepth 100000 in
theorem cc_used (b : Nat) (w : World) (h0 : w.cell? ⟨b, 0, none⟩ = some (.pointer (some ⟨b, 0, none⟩))) : Calls Tryd.prog 47 #[.pointer (some ⟨b, 0, none⟩)] w fun e w' => e = .returned (.tuple #[]) ∧ w' = w := by
  obtain ⟨j, hj, -⟩ := Option.map_eq_some_iff.1 bSize
  go_enter Tryd.func47, Tryd.ntmps47
  go_wp2
  rw [Lib.run_neq_ptr_same w _ Tryd.underlying58 hj]
  go_wp2
  go_end0
  exact ⟨rfl, rfl⟩
set_option maxHeartbeats 1000000 in
set_option maxRecDepth 100000 in
theorem cc_fresh (b : Nat) (w : World) (h0 : w.cell? ⟨b, 0, none⟩ = some (.pointer none)) (hsh : w.shape? b = some (60, 2)) (hfz : w.frozen? ⟨b, 0, none⟩ = false) :
    Calls Tryd.prog 47 #[.pointer (some ⟨b, 0, none⟩)] w fun e w' => e = .returned (.tuple #[]) ∧ w' = w.setCell ⟨b, 0, none⟩ (.pointer (some ⟨b, 0, none⟩)) := by
  obtain ⟨j, hj, hjs⟩ := Option.map_eq_some_iff.1 bSize
  go_enter Tryd.func47, Tryd.ntmps47
  go_wp2
  rw [Lib.run_to_unsafe w ⟨b, 0, none⟩ Tryd.underlying58 Tryd.underlying97 hj (by rw [hjs]; decide) hsh (Nat.zero_lt_succ 1)]
  simp only [Result.andThen]
  rw [Oper.upon_value]
  go_wp2
  rw [run_callFunc_extern Tryd.func65 (by kernel_rfl) (by kernel_rfl) (by kernel_rfl) (e := Extern.AbiNoEscape.same) (by kernel_rfl)]
  rw [Lib.run_noEscape]
  simp only [Result.andThen]
  rw [Oper.upon_value]
  go_wp2
  rw [Lib.run_from_unsafe w ⟨b, 0, none⟩ Tryd.underlying97 Tryd.underlying58 hj hsh bLies]
  simp only [Result.andThen]
  rw [Oper.upon_value]
  go_wp2
  go_end0
  exact ⟨rfl, rfl⟩
/- all rows that are neither a builder nor bytes stand -/
def KpB (w w' : World) : Prop := ∀ (k : Nat) (cs : Array Value) (t : TypeId), t ≠ 60 → t ≠ 5 → w.heap[k]? = some (.cells cs t (0, 0)) → w'.heap[k]? = some (.cells cs t (0, 0))
theorem KpB.refl (w : World) : KpB w w := fun _ _ _ _ _ h => h
theorem KpB.trans {a b c : World} (h : KpB a b) (g : KpB b c) : KpB a c := fun k cs t h1 h2 hk => g k cs t h1 h2 (h k cs t h1 h2 hk)
theorem KpB.of {w w' : World} (h : Chg NoB w w') : KpB w w' := fun k cs t _ _ hk => row_kept h hk id
theorem row_ne {w : World} {b k : Nat} {cs ds : Array Value} {t u : TypeId} (h : w.heap[b]? = some (.cells cs t (0, 0))) (g : w.heap[k]? = some (.cells ds u (0, 0))) (hne : u ≠ t) : k ≠ b := by
  rintro rfl
  rw [h] at g
  simp only [Option.some.injEq, Obj.cells.injEq] at g
  exact hne g.2.1.symm
theorem KpB.set {w : World} {b : Nat} {cs : Array Value} (h : w.heap[b]? = some (.cells cs 60 (0, 0))) (i : Nat) (u : Value) : KpB w (w.setCell ⟨b, i, none⟩ u) := fun k ds t h1 _ hk =>
  row_kept ((Chg.refl (fun k => k = b) w).setCell (p := ⟨b, i, none⟩) (.inl rfl) u) hk (row_ne h hk h1)
theorem cc_kp (B b : Nat) (bs : List Value) (w : World) (h : Lib.IsBuilder 60 5 B b bs w) : Calls Tryd.prog 47 #[.pointer (some ⟨b, 0, none⟩)] w fun e w' => e = .returned (.tuple #[]) ∧ (Lib.BuilderAt 60 5 B b (.pointer (some ⟨b, 0, none⟩)) bs w' ∧ Below B w w' ∧ KpB w w') := by
  rcases h with h | h
  · refine (cc_fresh b w h.cell0 h.shape h.frozen0).mono ?_
    rintro e w' ⟨rfl, rfl⟩
    obtain ⟨hB, v, hb, hr⟩ := id h
    exact ⟨rfl, h.used _, (Below.refl B w).setCell (p := ⟨b, 0, none⟩) h.1 _, KpB.set hb 0 _⟩
  · refine (cc_used b w h.cell0).mono ?_
    rintro e w' ⟨rfl, rfl⟩
    exact ⟨rfl, h, Below.refl B _, KpB.refl _⟩
def WsP (B b : Nat) (l : List UInt8) (w : World) (e : Ending) (w' : World) : Prop := (∃ v, e = .returned v) ∧ Lib.IsBuilder 60 5 B b (Lib.byteCells l) w' ∧ Below B w w' ∧ KpB w w'
set_option maxHeartbeats 1000000 in
set_option maxRecDepth 100000 in
theorem ws_any (B b : Nat) (l t : List UInt8) (w : World) (h : Lib.IsBuilder 60 5 B b (Lib.byteCells l) w) (hl : l.length + t.length ≤ 1073741824) (hB : B ≤ w.heap.size) : Calls Tryd.prog 28 #[.pointer (some ⟨b, 0, none⟩), .string (tx t)] w (WsP B b (l ++ t) w) := by
  obtain ⟨i0, hi, hz0, hz1, hz2⟩ := info_parts u8_info
  have hz : (tx t).size = t.length := tx_size t
  have HK := Lib.hid (cc_kp B b _ w h)
  go_enter Tryd.func28, Tryd.ntmps28
  go_wp2_with fail
  refine HK.out.mono ?_
  rintro e w1 ⟨rfl, h1, hb1, hk1⟩
  obtain ⟨hBb, v, hbk, hown, hne⟩ := h1
  have hbl : (Lib.byteCells l).length = l.length := by simp [Lib.byteCells]
  obtain ⟨ad, cap, rfl⟩ : ∃ ad cap, v = .slice ad l.length cap := by
    rcases hown.2 with ⟨hv, h0⟩ | ⟨g, cap, cur, hv, _⟩
    · exact ⟨none, 0, by rw [hv, ← hbl, h0]⟩
    · exact ⟨_, _, by rw [hv, hbl]⟩
  rw [hbl] at hown
  obtain ⟨c0, c1⟩ := var2 hbk
  have cf := row_free hbk
  have Hbk := Lib.hid hbk
  have Hown := Lib.hid hown
  have Hb1 := Lib.hid hb1
  have Hk1 := Lib.hid hk1
  have Hne := Lib.hid hne
  have hn1 : l.length + (tx t).size ≤ maxLen := by unfold maxLen; omega
  have hn2 : l.length + (tx t).size ≤ 140737488355328 := by omega
  have Hbase := Lib.hid (Nat.le_trans hB hb1.size)
  clear hbk hown hb1 hk1 HK hne
  have Hin := Lib.hid (And.intro hn1 hn2)
  clear hn1 hn2 hz
  go_wp2_with (at_builtin; go_loud (refine Lib.wpList_append_own_string _ rfl _ _ 34 9 rfl B 5 i0 Tryd.underlying34 Tryd.underlying9 hi hz0 hz1 hz2 (.slice ad l.length cap) l.length (Lib.byteCells l) rfl Hown.out (tx t) rfl Hin.out.1 Hin.out.2 Hbase.out ?_); intro v9 w9 hown9 hg9 hnil9; go_loud (obtain ⟨q9, c9, rfl, -, -⟩ := row_shape hown9); go_loud (have hb9 := (hg9.block b (lt_of_block Hbk.out) (fun e => Hne.out e.symm)).trans Hbk.out); obtain ⟨y0, y1⟩ := var2 hb9; have yf := row_free hb9)
  go_ret2
  have hcells : Lib.byteCells l ++ Lib.strCells (tx t) = Lib.byteCells (l ++ t) := by
    simp [Lib.byteCells, Lib.strCells, tx]
  have hll : (Lib.byteCells (l ++ t)).length = l.length + (tx t).size := by rw [tx_size]; simp [Lib.byteCells]
  rw [hcells] at hown9
  have hput := Lib.BuilderAt.put (p := .pointer (some ⟨b, 0, none⟩)) hBb hb9 (by rw [hll]; exact hown9) (by decide)
  have hblw : Below B w1 w9 := ⟨hg9.os, hg9.tape, hg9.output, hg9.size, fun k hk => hg9.block k (Nat.lt_of_lt_of_le hk Hbase.out) (fun e => by have := (World.ownsRow.lt Hown.out k e.symm).1; omega)⟩
  refine ⟨⟨_, rfl⟩, .inr hput, (Hb1.out.trans hblw).setCell (p := ⟨b, 1, none⟩) hBb _, ?_⟩
  refine (Hk1.out.trans ?_).trans (KpB.set hb9 1 _)
  intro k cs u h1 h2 hk
  refine (hg9.block k (lt_of_block hk) fun e => ?_).trans hk
  rcases Hown.out.2 with ⟨e3, -⟩ | ⟨g', cap', cur, e3, hb, hh, -⟩
  · rw [e3] at e; cases e
  · rw [e3] at e; cases e
    rw [hh] at hk
    simp only [Option.some.injEq, Obj.cells.injEq] at hk
    exact h2 hk.2.1.symm
end Go.Proofs.YtaihgciokfkonaaDoor
