/- One label, one line's number, put behind rows of the call's own. No condition. -/
import Derived.Test.YtaihgciokfkonaaDoorAmRAsmM
import Derived.Laws.IdiomStrings

namespace Go.Proofs.YtaihgciokfkonaaDoor
set_option linter.unusedVariables false
open Go.ChangeShapes Go.WideShapes Go.ChangeAt Go.RowKit
theorem lblInfo : (Tryd.prog.info? 53).map (fun i => (i.zero, i.size, i.bytes)) = some (some (.agg #[.string ⟨#[]⟩, .int .i64 0]), 2, 24) := by kernel_rfl
theorem noInfo : (Tryd.prog.info? 3).map (fun i => (i.zero, i.size, i.bytes)) = some (some (.int .i64 0), 1, 8) := by kernel_rfl
theorem flatL_one (l : List (List UInt8 × Int)) : ∀ u ∈ flatL l, u.oneCell' = true := by
  induction l with
  | nil => intro u hu; cases hu
  | cons x r ih =>
    intro u hu
    rw [flatL] at hu
    rcases List.mem_cons.1 hu with rfl | hu
    · rfl
    · rcases List.mem_cons.1 hu with rfl | hu
      · rfl
      · exact ih u hu
theorem wpList_lbl {w : World} {ops : Array Oper} {rest : List Oper} {o : Oper} {a : Act} {Q : Exit → Act → World → Prop} (hgd : o.guard = none) (s x : Operand)
    (ho : o.op = .call { callee := .builtin .append, args := #[s, x], argTypes := #[51, 51] })
    {base n : Nat} {v : Value} {l : List (List UInt8 × Int)} {y : List UInt8 × Int} {b : Nat} (hs : a.eval s = v) (hx : a.eval x = .slice (some ⟨b, 0, none⟩) 1 1) (hown : w.ownsRow base 53 2 v n (flatL l)) (hb : w.heap[b]? = some (.cells #[.string (tx y.1), .int .i64 y.2] 53 (0, 0))) (hl : n + 1 ≤ 1048576) (hbase : base ≤ w.heap.size)
    (h : ∀ v' w', w'.ownsRow base 53 2 v' (n + 1) (flatL (l ++ [y])) → Chg (fun j => v.ownBlock = some j) w w' → wpList Tryd.prog ops Q rest (a.put o.dst v') w') : wpList Tryd.prog ops Q (o :: rest) a w := by
  obtain ⟨i0, hi, hz0, hz1, hz2⟩ := info_parts lblInfo
  refine wpList_append_own w hgd s x 51 ho base 53 i0 (.agg #[.string ⟨#[]⟩, .int .i64 0]) 2 24 Tryd.underlying51 hi hz0 hz1 hz2 rfl (by decide) v n (flatL l) hs hown ⟨b, 0, none⟩ 1 1 (flatL [y]) hx rfl (fun j u hj => ?_) (flatL_one [y]) (by unfold maxLen; omega) (by omega) hbase ?_
  · rw [add_zero_off, cell_of_row w b j _ _ (0, 0) hb]
    show (flatL [y]).toArray[j]? = some u
    rw [List.getElem?_toArray]
    exact hj
  · intro v' w' h1 h2 _
    refine h v' w' ?_ ((Chg.refl _ w).grown h2 fun j hj => .inl hj)
    rw [flatL_app]
    exact h1
theorem wpList_no {w : World} {ops : Array Oper} {rest : List Oper} {o : Oper} {a : Act} {Q : Exit → Act → World → Prop} (hgd : o.guard = none) (s x : Operand)
    (ho : o.op = .call { callee := .builtin .append, args := #[s, x], argTypes := #[50, 50] })
    {base n : Nat} {v : Value} {l : List LineL} {y : LineL} {b : Nat} (hs : a.eval s = v) (hx : a.eval x = .slice (some ⟨b, 0, none⟩) 1 1) (hown : w.ownsRow base 3 1 v n (l.map fun z => .int .i64 z.no)) (hb : w.heap[b]? = some (.cells #[.int .i64 y.no] 3 (0, 0))) (hl : n + 1 ≤ 1048576) (hbase : base ≤ w.heap.size)
    (h : ∀ v' w', w'.ownsRow base 3 1 v' (n + 1) ((l ++ [y]).map fun z => .int .i64 z.no) → Chg (fun j => v.ownBlock = some j) w w' → wpList Tryd.prog ops Q rest (a.put o.dst v') w') : wpList Tryd.prog ops Q (o :: rest) a w := by
  obtain ⟨i0, hi, hz0, hz1, hz2⟩ := info_parts noInfo
  refine wpList_append_own w hgd s x 50 ho base 3 i0 (.int .i64 0) 1 8 Tryd.underlying50 hi hz0 hz1 hz2 rfl (by decide) v n (l.map fun z => .int .i64 z.no) hs hown ⟨b, 0, none⟩ 1 1 [.int .i64 y.no] hx rfl (fun j u hj => ?_) (fun u hu => by rw [List.mem_singleton.1 hu]; rfl) (by unfold maxLen; omega) (by omega) hbase ?_
  · rw [add_zero_off, cell_of_row w b j _ _ (0, 0) hb]
    rw [show (#[Value.int .i64 y.no] : Array Value) = [Value.int .i64 y.no].toArray from rfl, List.getElem?_toArray]
    exact hj
  · intro v' w' h1 h2 _
    refine h v' w' ?_ ((Chg.refl _ w).grown h2 fun j hj => .inl hj)
    rw [List.map_append]
    exact h1
end Go.Proofs.YtaihgciokfkonaaDoor
