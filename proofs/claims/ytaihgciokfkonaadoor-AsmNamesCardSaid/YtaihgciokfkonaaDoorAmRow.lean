/- Bytes made of a text, stored into one by one, put behind bytes of the call's own. No condition. -/
import Derived.Test.YtaihgciokfkonaaDoorAmQuote
import Derived.Laws.IdiomStrings
namespace Go.Proofs.YtaihgciokfkonaaDoor
set_option linter.unusedVariables false
open Go.ChangeShapes Go.WideShapes Go.ChangeAt Go.RowKit
/- block g begins with these bytes; what is frozen lies behind them -/
def BRow (w : World) (g : Nat) (xs : List UInt8) : Prop := ∃ cs K, w.heap[g]? = some (.cells cs 5 (K, K + 1)) ∧ xs.length ≤ K ∧ ∀ j (hj : j < xs.length), cs[j]? = some (.int .u8 (xs[j].toNat : Int))
theorem BRow.cell {w : World} {g : Nat} {xs : List UInt8} (h : BRow w g xs) (j : Nat) (hj : j < xs.length) : w.cell? ⟨g, j, none⟩ = some (.int .u8 (xs[j].toNat : Int)) := by
  obtain ⟨cs, K, h1, h2, h3⟩ := h
  rw [cell_of_row w g j cs 5 _ h1]
  exact h3 j hj
theorem BRow.free {w : World} {g : Nat} {xs : List UInt8} (h : BRow w g xs) (j : Nat) (hj : j < xs.length) : w.frozen? ⟨g, j, none⟩ = false := by
  obtain ⟨cs, K, h1, h2, h3⟩ := h
  unfold World.frozen?
  simp only [h1]
  have : ¬ K ≤ j := by omega
  simp [this]
theorem BRow.lt {w : World} {g : Nat} {xs : List UInt8} (h : BRow w g xs) : g < w.heap.size := by
  obtain ⟨cs, K, h1, h2, h3⟩ := h
  exact (Array.getElem?_eq_some_iff.1 h1).1
theorem BRow.keep {w w' : World} {S : Nat → Prop} {g : Nat} {xs : List UInt8} (h : BRow w g xs) (hc : Chg S w w') (hg : ¬ S g) : BRow w' g xs := by
  have hl := h.lt
  obtain ⟨cs, K, h1, h2, h3⟩ := h
  exact ⟨cs, K, (hc.block g hl hg).trans h1, h2, h3⟩
theorem BRow.set {w : World} {g : Nat} {xs : List UInt8} (h : BRow w g xs) (i : Nat) (hi : i < xs.length) (c : UInt8) : BRow (w.setCell ⟨g, i, none⟩ (.int .u8 (c.toNat : Int))) g (xs.set i c) := by
  obtain ⟨cs, K, h1, h2, h3⟩ := h
  refine ⟨cs.setIfInBounds i (.int .u8 (c.toNat : Int)), K, ?_, by rw [List.length_set]; exact h2, fun j hj => ?_⟩
  · simp [World.setCell, Array.getElem?_modify, h1]
  · rw [List.length_set] at hj
    rw [Array.getElem?_setIfInBounds, List.getElem_set]
    have hic : i < cs.size := (Array.getElem?_eq_some_iff.1 (h3 i hi)).1
    by_cases e : i = j
    · subst e
      simp [hic]
    · rw [if_neg e, if_neg e]
      exact h3 j hj
theorem bytes_new (t : List UInt8) (w : World) : ∃ w' c, (convert 9 34 (.string (tx t))).run Tryd.prog w = .ok (.slice (some ⟨w.heap.size, 0, none⟩) t.length c) w' ∧ Chg NoB w w' ∧ BRow w' w.heap.size t := by
  have hr := run_bytes_of_string (P := Tryd.prog) w 9 34 5 (tx t) Tryd.underlying9 Tryd.underlying34 Tryd.underlying5
  rw [tx_size] at hr
  refine ⟨_, _, hr, (Chg.refl NoB w).drew.alloc _, _, _, heap_alloc_new w.drew _, ?_, fun j hj => ?_⟩
  · simp [bytesRow, tx]
  · unfold bytesRow
    rw [Array.getElem?_append_left (by simp [tx]; exact hj)]
    simp [tx, List.getElem?_eq_getElem hj]
/- such bytes, put behind bytes of the call's own -/
theorem wpList_brow {w : World} {ops : Array Oper} {rest : List Oper} {o : Oper} {a : Act} {Q : Exit → Act → World → Prop} (hgd : o.guard = none) (s x : Operand)
    (ho : o.op = .call { callee := .builtin .append, args := #[s, x], argTypes := #[34, 34] })
    {base n : Nat} {v : Value} {l ys : List UInt8} {g m c : Nat} (hs : a.eval s = v) (hm : m = ys.length) (hx : a.eval x = .slice (some ⟨g, 0, none⟩) m c) (hn : n = l.length) (hown : w.ownsRow base 5 1 v n (bytesV l)) (hb : BRow w g ys) (hl : n + m ≤ 1073741824) (hbase : base ≤ w.heap.size)
    (h : ∀ v' w', Own w' base v' (l ++ ys) → Chg (fun j => v.ownBlock = some j) w w' → wpList Tryd.prog ops Q rest (a.put o.dst v') w') : wpList Tryd.prog ops Q (o :: rest) a w := by
  obtain ⟨i0, hi, hz0, hz1, hz2⟩ := info_parts u8_info
  refine wpList_append_at w hgd s x 34 ho base 5 i0 (.int .u8 0) 1 1 Tryd.underlying34 hi hz0 hz1 hz2 rfl (by decide) v n (bytesV l) hs hown ⟨g, 0, none⟩ m c (bytesV ys) hx (by rw [bytesV_len, hm]; omega) (fun j u hj => ?_) (bytesV_one ys) (by unfold maxLen; omega) (by omega) hbase ?_
  · obtain ⟨hj', rfl⟩ := bytesV_at ys j u hj
    rw [add_zero_off]
    exact hb.cell j hj'
  · intro v' w' h1 h2 _
    refine h v' w' ?_ ((Chg.refl _ w).grown h2 fun j hj => .inl hj)
    unfold Own
    rw [List.length_append, bytesV_append, ← hm, ← hn]
    exact h1
end Go.Proofs.YtaihgciokfkonaaDoor
