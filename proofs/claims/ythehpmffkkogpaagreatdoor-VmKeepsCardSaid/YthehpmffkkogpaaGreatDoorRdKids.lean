/- A row of nodes that is appended to: its cells, node by node, and the rows of their own. No condition. -/
import Derived.Test.YthehpmffkkogpaaGreatDoorRdAtom
namespace Go.Proofs.YthehpmffkkogpaaGreatDoor
set_option linter.unusedVariables false
open Go.ChangeShapes Go.WideShapes Go.ChangeAt Go.RowKit
theorem NdV.mono {w : World} {S T : Nat → Prop} (hST : ∀ k, S k → T k) {v : Value} {n : Nd} (h : NdV w S v n) : NdV w T v n := by
  obtain ⟨ha, s, kb, ko, e, hs⟩ := h
  exact ⟨ha, s, kb, ko, e, hs.mono hST⟩
def Row3 (w : World) (S : Nat → Prop) : List Nd → List Value → Prop
  | [], [] => True
  | n :: ns, a :: b :: c :: vs => (a = .bool n.leaf ∧ b = .string n.atom ∧ n.atom.size ≤ maxLen ∧ ∃ kb ko, NdS w S c n.kids kb ko) ∧ Row3 w S ns vs
  | _, _ => False
theorem Row3.keep {w w' : World} {S S' T : Nat → Prop} (hc : Chg T w w') (hST : ∀ k, S k → ¬ T k) (hS : ∀ k, S k → S' k) : ∀ {ns : List Nd} {vs : List Value}, Row3 w S ns vs → Row3 w' S' ns vs
  | [], [], _ => trivial
  | n :: ns, a :: b :: c :: vs, ⟨⟨h1, h2, h3, kb, ko, h4⟩, h5⟩ => ⟨⟨h1, h2, h3, kb, ko, (h4.keep hc hST).mono hS⟩, Row3.keep hc hST hS h5⟩
  | [], _ :: _, h => h.elim
  | _ :: _, [], h => h.elim
  | _ :: _, [_], h => h.elim
  | _ :: _, [_, _], h => h.elim
theorem Row3.snoc {w : World} {S : Nat → Prop} {n : Nd} {s : Value} (ha : n.atom.size ≤ maxLen) {kb ko : Nat} (hs : NdS w S s n.kids kb ko) : ∀ {ns : List Nd} {vs : List Value}, Row3 w S ns vs → Row3 w S (ns ++ [n]) (vs ++ [.bool n.leaf, .string n.atom, s])
  | [], [], _ => ⟨⟨rfl, rfl, ha, kb, ko, hs⟩, trivial⟩
  | m :: ns, a :: b :: c :: vs, ⟨h1, h5⟩ => ⟨h1, Row3.snoc ha hs h5⟩
  | [], _ :: _, h => h.elim
  | _ :: _, [], h => h.elim
  | _ :: _, [_], h => h.elim
  | _ :: _, [_, _], h => h.elim
theorem Row3.len {w : World} {S : Nat → Prop} : ∀ {ns : List Nd} {vs : List Value}, Row3 w S ns vs → vs.length = ns.length * 3
  | [], [], _ => rfl
  | n :: ns, a :: b :: c :: vs, ⟨_, h5⟩ => by
    have := Row3.len h5
    simp only [List.length_cons]
    omega
  | [], _ :: _, h => h.elim
  | _ :: _, [], h => h.elim
  | _ :: _, [_], h => h.elim
  | _ :: _, [_, _], h => h.elim
theorem Row3.at' {w : World} {S : Nat → Prop} : ∀ {ns : List Nd} {vs : List Value}, Row3 w S ns vs → ∀ (i : Nat) (hi : i < ns.length), ∃ c, vs[i * 3]? = some (.bool ns[i].leaf) ∧ vs[i * 3 + 1]? = some (.string ns[i].atom) ∧ vs[i * 3 + 2]? = some c ∧ ns[i].atom.size ≤ maxLen ∧ ∃ kb ko, NdS w S c ns[i].kids kb ko
  | [], [], _, i, hi => by simp at hi
  | n :: ns, a :: b :: c :: vs, ⟨⟨h1, h2, h3, kb, ko, h4⟩, h5⟩, i, hi => by
    cases i with
    | zero => exact ⟨c, by simp [h1], by simp [h2], by simp, h3, kb, ko, h4⟩
    | succ j =>
      obtain ⟨d, g1, g2, g3, g4⟩ := Row3.at' h5 j (by simpa using hi)
      have e1 : (j + 1) * 3 = j * 3 + 3 := by omega
      refine ⟨d, ?_, ?_, ?_, g4⟩
      · rw [e1]; simpa using g1
      · rw [e1]; simpa using g2
      · rw [e1]; simpa using g3
  | [], _ :: _, h, _, _ => h.elim
  | _ :: _, [], h, _, _ => h.elim
  | _ :: _, [_], h, _, _ => h.elim
  | _ :: _, [_, _], h, _, _ => h.elim
/- what kids there are so far: a row of the call's own from block lo on; their own rows are elsewhere -/
def KdS (lo : Nat) (v : Value) (w : World) : Nat → Prop := fun x => Nw lo w x ∧ v.ownBlock ≠ some x
theorem ownsRow_chg {w w' : World} {S : Nat → Prop} {base : Nat} {e : TypeId} {size : Nat} {v : Value} {n : Nat} {xs : List Value} (h : w.ownsRow base e size v n xs) (hc : Chg S w w') (hS : ∀ k, v.ownBlock = some k → ¬ S k) : w'.ownsRow base e size v n xs := by
  refine ⟨h.1, ?_⟩
  have hl := h.lt
  rcases h.2 with x | ⟨g, cap, cur, rfl, hb, hh, r⟩
  · exact .inl x
  · exact .inr ⟨g, cap, cur, rfl, hb, by rw [hc.block g (hl g rfl).2 (hS g rfl)]; exact hh, r⟩
theorem add_zero_off (g j : Nat) : (⟨g, 0, none⟩ : Addr).add j = ⟨g, j, none⟩ := by unfold Addr.add; split <;> simp_all
/- one kid more -/
theorem lit3 (w : World) (a b c : Value) (t : TypeId) : ∀ (j : Nat) (u : Value), [a, b, c][j]? = some u → (w.alloc (.cells #[a, b, c] t)).cell? ((⟨w.heap.size, 0, none⟩ : Addr).add j) = some u := by
  intro j u hj
  rw [add_zero_off, cell_of_row _ w.heap.size j _ t (0, 0) (heap_alloc_new w _), ← hj]
  simp
theorem one3 (a : Bool) (b : ByteArray) (q : Option Addr) (n c : Nat) : ∀ u ∈ [Value.bool a, .string b, .slice q n c], u.oneCell' = true := by
  intro u hu
  simp only [List.mem_cons, List.not_mem_nil, or_false] at hu
  rcases hu with rfl | rfl | rfl <;> rfl
end Go.Proofs.YthehpmffkkogpaaGreatDoor
