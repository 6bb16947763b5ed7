/- Steps of a region that draws its order: an append of nothing; an append onto instructions of the call's own. No condition beyond the laws'. -/
import Derived.Test.YtdeikcmkfmnjmaaDoorCdOpenOne
import Derived.Test.YtdeikcmkfmnjmaaDoorCdRef
import Derived.Laws.OwnMore
namespace Go.Proofs.YtdeikcmkfmnjmaaDoor
set_option linter.unusedVariables false
open Go.ChangeShapes Go.WideShapes Go.ChangeAt Go.RowKit
theorem step_append_none {P : Program} {ops : Array Oper} {o : Oper} {a : Act} {K : Act → World → Prop} {Q : Exit → Act → World → Prop} {E : Prop} (hgd : o.guard = none) (w : World) (s x : Operand) (t : TypeId)
    (ho : o.op = .call { callee := .builtin .append, args := #[s, x], argTypes := #[t, t] })
    (base : Nat) (e : TypeId) (i : TypeInfo) (size : Nat) (ht : P.underlying t = some (.slice e)) (hi : P.info? e = some i)
    (v : Value) (n : Nat) (xs : List Value) (hs : a.eval s = v) (hown : w.ownsRow base e size v n xs) (hx : a.eval x = .slice none 0 0)
    (h : K (a.put o.dst v) w) :
    if Region.wanted o (yielded ops a.tmps) = true then Oper.wp P o a w K Q else E := by
  have hw : Region.wanted o (yielded ops a.tmps) = true := by simp [Region.wanted, hgd]
  rw [if_pos hw]
  have hrun := run_append_owned_none (P := P) (w := w) base t o.type e i size ht hi v n xs hown
  unfold Oper.wp
  simp [execOp, ho, resolve, invoke, builtin, hs, hx, hrun, Result.andThen]
  exact h
/- onto instructions of the call's own: what is behind the append -/
theorem own_grow {w w' : World} {lo : Nat} {v v' : Value} {n m : Nat} {ps qs : List InsL} (hn : n = ps.length) (hm : m = qs.length) (h : w'.ownsRow lo 39 3 v' (n + m) (flatI ps ++ flatI qs)) : w'.ownsRow lo 39 3 v' (ps ++ qs).length (flatI (ps ++ qs)) := by
  rw [flatI_app, List.length_append, ← hn, ← hm]
  exact h
/- a slice of what came in: its first so many, or those behind -/
theorem InsS.take' {w : World} {S : Nat → Prop} {q : Option Addr} {len c : Nat} {ps : List InsL} {kb ko : Nat} (h : InsS w S (.slice q len c) ps kb ko) : len = ps.length ∧ len ≤ c ∧ c ≤ maxLen := by
  obtain ⟨⟨q', c', e, h1, h2, _⟩, _⟩ := h
  simp only [Value.slice.injEq] at e
  obtain ⟨_, rfl, rfl⟩ := e
  exact ⟨rfl, h1, h2⟩
/- an empty row of the call's own -/
theorem own_nil (u : World) (base : Nat) (hb : base ≤ u.heap.size) : (u.alloc (.cells #[] 39)).ownsRow base 39 3 (.slice (some ⟨u.heap.size, 0, none⟩) 0 0) 0 [] :=
  World.ownsRow_lit (size := 3) u #[] 0 hb (by decide) rfl
/- behind an append onto a row of the call's own nothing older has changed, nor has another row -/
theorem grow_chg {w0 w1 u : World} {t : TypeId} {size n : Nat} {v : Value} {xs : List Value} (h : Chg NoB w0 w1) (ho : w1.ownsRow w0.heap.size t size v n xs) (hg : w1.grownBy u v.ownBlock) : Chg NoB w0 u :=
  h.grown hg fun k hk => .inr (World.ownsRow.lt ho k hk).1
theorem cells_grown {w u : World} {row : Option Nat} (hg : w.grownBy u row) {b : Nat} (hne : row ≠ some b) {news : List Value} (h : ∀ (j : Nat) (x : Value), news[j]? = some x → w.cell? ((⟨b, 0, none⟩ : Addr).add j) = some x) :
    ∀ (j : Nat) (x : Value), news[j]? = some x → u.cell? ((⟨b, 0, none⟩ : Addr).add j) = some x := fun j x hj =>
  ((Chg.refl (fun k => row = some k) w).grown hg fun k hk => .inl hk).cell (h j x hj) (by rw [Go.WideShapes.add_plain]; exact hne)
theorem InsS.news_take {w : World} {S : Nat → Prop} {v : Value} {ps : List InsL} {kb ko : Nat} (h : InsS w S v ps kb ko) (a : Nat) (ha : a ≤ ps.length) : ∀ j u, (flatI (ps.take a))[j]? = some u → w.cell? ((⟨kb, ko, none⟩ : Addr).add j) = some u := by
  have := h.news 0 a (by omega)
  simpa using this
theorem InsS.news_drop {w : World} {S : Nat → Prop} {v : Value} {ps : List InsL} {kb ko : Nat} (h : InsS w S v ps kb ko) (a : Nat) (ha : a ≤ ps.length) : ∀ j u, (flatI (ps.drop a))[j]? = some u → w.cell? ((⟨kb, ko + a * 3, none⟩ : Addr).add j) = some u := by
  have := h.news a (ps.length - a) (by omega)
  rwa [List.take_of_length_le (by rw [List.length_drop]; omega)] at this
end Go.Proofs.YtdeikcmkfmnjmaaDoor
