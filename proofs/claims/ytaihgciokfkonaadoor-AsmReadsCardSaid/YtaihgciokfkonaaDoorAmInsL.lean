/- Instructions that came in, put behind instructions of the call's own (also where the operation is guarded); a walk over instructions that looks for a place. No condition. -/
import Derived.Test.YtaihgciokfkonaaDoorAmLaw
import Derived.Test.YtaihgciokfkonaaDoorAmOpen
import Derived.Test.YtaihgciokfkonaaDoorCdSameI

namespace Go.Proofs.YtaihgciokfkonaaDoor
set_option linter.unusedVariables false
open Go.ChangeShapes Go.WideShapes Go.ChangeAt Go.RowKit
theorem InsS.src {w : World} {S : Nat → Prop} {q : Option Addr} {m c : Nat} {l : List InsL} {kb ko : Nat} (h : InsS w S (.slice q m c) l kb ko) : m = l.length ∧ ((∃ ad, q = some ad ∧ ∀ j u, (flatI l)[j]? = some u → w.cell? (ad.add j) = some u) ∨ (q = none ∧ m = 0 ∧ flatI l = [])) := by
  have h' := h
  obtain ⟨⟨q', c', e, h1, h2, h3⟩, hat⟩ := h
  cases e
  refine ⟨rfl, ?_⟩
  by_cases hn : l = []
  · subst hn
    cases q with
    | none => exact .inr ⟨rfl, rfl, rfl⟩
    | some ad => exact .inl ⟨ad, rfl, fun j u hj => by simp [flatI] at hj⟩
  · obtain ⟨rfl, -⟩ := h3 hn
    refine .inl ⟨_, rfl, fun j u hj => ?_⟩
    have := h'.news 0 l.length (by omega) j u (by rw [List.drop_zero, List.take_length]; exact hj)
    simpa using this
theorem wpList_insL {w : World} {ops : Array Oper} {rest : List Oper} {o : Oper} {a : Act} {Q : Exit → Act → World → Prop} (hw : Region.wanted o (yielded ops a.tmps) = true) (s x : Operand)
    (ho : o.op = .call { callee := .builtin .append, args := #[s, x], argTypes := #[23, 23] })
    {base n : Nat} {v : Value} {l us : List InsL} {q : Option Addr} {m c : Nat} {S : Nat → Prop} {kb ko : Nat} (hs : a.eval s = v) (hx : a.eval x = .slice q m c) (hown : w.ownsRow base 38 3 v n (flatI l)) (hin : InsS w S (.slice q m c) us kb ko) (hl : n + m ≤ 1048576) (hbase : base ≤ w.heap.size)
    (h : ∀ v' w', w'.ownsRow base 38 3 v' (n + m) (flatI (l ++ us)) → Chg (fun j => v.ownBlock = some j) w w' → wpList Tryd.prog ops Q rest (a.put o.dst v') w') : wpList Tryd.prog ops Q (o :: rest) a w := by
  obtain ⟨i0, hi, hz0, hz1, hz2⟩ := info_parts insInfo
  obtain ⟨hm, hq⟩ := hin.src
  refine BigFrame.wpList_want hw fun K hK => ?_
  rcases hq with ⟨ad, rfl, hnews⟩ | ⟨rfl, rfl, hnil⟩
  · obtain ⟨v', w', hr, h2, h3, h4⟩ := run_append_own (P := Tryd.prog) w base 23 o.type 38 i0 (.agg #[.int .i64 0, .int .i64 0, .string ⟨#[]⟩]) 3 32 Tryd.underlying23 hi hz0 hz1 hz2 rfl (by decide) v n (flatI l) hown ad m c (flatI us) (by rw [flatI_len, hm]) hnews (flatI_one us) (by unfold maxLen; omega) (by omega) hbase
    unfold Oper.wp execOp
    simp only [ho, resolve, invoke, builtin, Sem.run_bind, Sem.run_pure, Result.andThen_ok, List.map_toArray, List.map_cons, List.map_nil, hs, hx, hr]
    exact hK _ _ (h v' w' (by rw [flatI_app]; exact h2) ((Chg.refl _ w).grown h3 fun j hj => .inl hj))
  · have hrun := run_append_none (P := Tryd.prog) (w := w) base 23 o.type 38 i0 3 c Tryd.underlying23 hi v n (flatI l) hown
    unfold Oper.wp execOp
    simp only [ho, resolve, invoke, builtin, Sem.run_bind, Sem.run_pure, Result.andThen_ok, List.map_toArray, List.map_cons, List.map_nil, hs, hx, hrun]
    exact hK _ _ (h v w (by rw [flatI_app, hnil, List.append_nil]; exact hown) (Chg.refl _ w))
theorem dis_len {p : List InsL} (hw : ∀ x ∈ p, x.wf) : (disF p).1.length ≤ 256000 := by
  by_cases h : (checkF p).2 = 0
  · rw [disF_ok h]
    obtain ⟨-, -, hl, hst⟩ := check_ok h
    have := rows_len (c := 108) (p := p) p 0 (fun x hx => ⟨hw x hx, hst x hx⟩) (by omega)
    simp only
    omega
  · have : disF p = ([], (checkF p).2) := if_pos h
    rw [this]; simp
theorem dis_err (p : List InsL) : (disF p).2 = (checkF p).2 := by
  by_cases h : (checkF p).2 = 0
  · rw [disF_ok h, h]
  · have : disF p = ([], (checkF p).2) := if_pos h
    rw [this]
end Go.Proofs.YtaihgciokfkonaaDoor
