/- Appends to a row of texts of the call's own: one text; a row of texts. A result in a variable. -/
import Derived.Test.YtaihgciokfkonaaDoorBase
namespace Go.Proofs.YtaihgciokfkonaaDoor
set_option linter.unusedVariables false
open Go.ChangeShapes Go.WideShapes Go.ChangeAt Go.RowKit
theorem own_new {w : World} {t : TypeId} {size : Nat} {b : Nat} (hb : w.heap[b]? = some (.cells #[] t (0, 0))) : w.ownsRow b t size (.slice (some ⟨b, 0, none⟩) 0 0) 0 [] := ⟨by simp, .inr ⟨_, 0, #[], rfl, Nat.le_refl _, hb, Nat.le_refl _, Nat.zero_le _, by simp, by simp⟩⟩
theorem wpList_txt {w : World} {ops : Array Oper} {rest : List Oper} {o : Oper} {a : Act} {Q : Exit → Act → World → Prop} (hgd : o.guard = none) (s x : Operand)
    (ho : o.op = .call { callee := .builtin .append, args := #[s, x], argTypes := #[32, 32] })
    {base n m : Nat} {v : Value} {ts us : List (List UInt8)} {q : Option Addr} {c kb ko : Nat} {S : Nat → Prop} (hs : a.eval s = v) (hx : a.eval x = .slice q m c) (hn : n = ts.length) (hm : m = us.length) {k : Nat} (hk : k = n + m) (hown : w.ownsRow base 9 1 v n (txV ts)) (hus : TxtS w S (.slice q m c) us kb ko) (hl : n + m ≤ 1048576) (hbase : base ≤ w.heap.size)
    (h : ∀ v' w', w'.ownsRow base 9 1 v' k (txV (ts ++ us)) → w.grownBy w' v.ownBlock → wpList Tryd.prog ops Q rest (a.put o.dst v') w') : wpList Tryd.prog ops Q (o :: rest) a w := by
  obtain ⟨i0, hi, hz0, hz1, hz2⟩ := info_parts stringInfo
  refine wpList_append_inp w hgd s x 32 ho base 9 i0 (.string ⟨#[]⟩) 1 16 Tryd.underlying32 hi hz0 hz1 hz2 rfl (by decide) v n (txV ts) hs hown q m c (txV us) hx ?_ (by rw [txV_len]; omega) (txV_one us) (by unfold maxLen; omega) (by omega) hbase ?_
  · rcases hus.news with ⟨ad, h1, h2⟩ | ⟨h1, h2⟩
    · exact .inl ⟨ad, h1, h2⟩
    · subst h2; exact .inr ⟨h1, hm, rfl⟩
  · intro v' w' h1 h2
    refine h v' w' ?_ h2
    rw [show txV (ts ++ us) = txV ts ++ txV us by simp [txV], hk]
    exact h1
theorem wpList_txt1 {w : World} {ops : Array Oper} {rest : List Oper} {o : Oper} {a : Act} {Q : Exit → Act → World → Prop} (hgd : o.guard = none) (s x : Operand)
    (ho : o.op = .call { callee := .builtin .append, args := #[s, x], argTypes := #[32, 32] })
    {base n : Nat} {v : Value} {ts : List (List UInt8)} {b : Nat} {y : List UInt8} {f : Nat × Nat} (hs : a.eval s = v) (hx : a.eval x = .slice (some ⟨b, 0, none⟩) 1 1) (hn : n = ts.length) {k : Nat} (hk : k = n + 1) (hown : w.ownsRow base 9 1 v n (txV ts)) (hb : w.heap[b]? = some (.cells #[.string (tx y)] 9 f)) (hl : n + 1 ≤ 1048576) (hbase : base ≤ w.heap.size)
    (h : ∀ v' w', w'.ownsRow base 9 1 v' k (txV (ts ++ [y])) → w.grownBy w' v.ownBlock → wpList Tryd.prog ops Q rest (a.put o.dst v') w') : wpList Tryd.prog ops Q (o :: rest) a w :=
  wpList_txt (us := [y]) (S := fun _ => True) (kb := b) (ko := 0) hgd s x ho hs hx hn rfl hk hown ⟨⟨_, 1, rfl, Nat.le_refl _, by decide, fun _ => ⟨rfl, trivial⟩⟩, fun i hi => by
    match i, hi with
    | 0, _ => rw [cell_of_row w b _ _ _ f hb]; rfl⟩ hl hbase h
theorem results_cell3 {fn : Func} {p t u : Tmp} {ty : TypeId} (h : fn.results = #[.cell p ty, .tmp t, .tmp u]) (tmps : Array Value) {P : Program} {w : World} {a : Addr} {v : Value} (hp : tmps.getD p undef = .pointer (some a)) (hl : (loadVar ty a).run P w = .ok v w) : (results fn tmps).run P w = .ok (.tuple #[v, tmps.getD t undef, tmps.getD u undef]) w := by
  rw [Array.getD_eq_getD_getElem?] at hp
  simp only [results, h]
  simp [Result.andThen, hp, asAddr, hl]
theorem results_cell2 {fn : Func} {p t : Tmp} {ty : TypeId} (h : fn.results = #[.cell p ty, .tmp t]) (tmps : Array Value) {P : Program} {w : World} {a : Addr} {v : Value} (hp : tmps.getD p undef = .pointer (some a)) (hl : (loadVar ty a).run P w = .ok v w) : (results fn tmps).run P w = .ok (.tuple #[v, tmps.getD t undef]) w := by
  rw [Array.getD_eq_getD_getElem?] at hp
  simp only [results, h]
  simp [Result.andThen, hp, asAddr, hl]
end Go.Proofs.YtaihgciokfkonaaDoor
