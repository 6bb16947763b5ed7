/- A row of nodes that is appended to: its cells, node by node, and the rows of their own. No condition. -/
import Derived.Test.YtilkcjcmcnlfnaaGreatDoorRdAtom
namespace Go.Proofs.YtilkcjcmcnlfnaaGreatDoor
set_option linter.unusedVariables false
open Go.ChangeShapes Go.WideShapes Go.ChangeAt Go.RowKit
theorem NdV.mono {w : World} {S T : Nat → Prop} (hST : ∀ k, S k → T k) {v : Value} {n : Nd} (h : NdV w S v n) : NdV w T v n := by
  obtain ⟨ha, s, kb, ko, e, hs⟩ := h
  exact ⟨ha, s, kb, ko, e, hs.mono hST⟩
def Row3 (w : World) (S : Nat → Prop) : List Nd → List Value → Prop
  | [], [] => True
  | n :: ns, a :: b :: c :: vs => (a = .bool n.leaf ∧ b = .string n.atom ∧ n.atom.size ≤ maxLen ∧ ∃ kb ko, NdS w S c n.kids kb ko) ∧ Row3 w S ns vs
  | _, _ => False
theorem Row3.keep {w w' : World} {S S' T : Nat → Prop} (hc : Chg T w w') (hST : ∀ k, S k → ¬ T k) (hS : ∀ k, S k → S' k) : ∀ {ns : List Nd} {vs : List Value}, Row3 w S ns vs → Row3 w' S' ns vs
  | [], [], _ => trivial
  | n :: ns, a :: b :: c :: vs, ⟨⟨h1, h2, h3, kb, ko, h4⟩, h5⟩ => ⟨⟨h1, h2, h3, kb, ko, (h4.keep hc hST).mono hS⟩, Row3.keep hc hST hS h5⟩
  | [], _ :: _, h => h.elim
  | _ :: _, [], h => h.elim
  | _ :: _, [_], h => h.elim
  | _ :: _, [_, _], h => h.elim
theorem Row3.snoc {w : World} {S : Nat → Prop} {n : Nd} {s : Value} (ha : n.atom.size ≤ maxLen) {kb ko : Nat} (hs : NdS w S s n.kids kb ko) : ∀ {ns : List Nd} {vs : List Value}, Row3 w S ns vs → Row3 w S (ns ++ [n]) (vs ++ [.bool n.leaf, .string n.atom, s])
  | [], [], _ => ⟨⟨rfl, rfl, ha, kb, ko, hs⟩, trivial⟩
  | m :: ns, a :: b :: c :: vs, ⟨h1, h5⟩ => ⟨h1, Row3.snoc ha hs h5⟩
  | [], _ :: _, h => h.elim
  | _ :: _, [], h => h.elim
  | _ :: _, [_], h => h.elim
  | _ :: _, [_, _], h => h.elim
theorem Row3.len {w : World} {S : Nat → Prop} : ∀ {ns : List Nd} {vs : List Value}, Row3 w S ns vs → vs.length = ns.length * 3
  | [], [], _ => rfl
  | n :: ns, a :: b :: c :: vs, ⟨_, h5⟩ => by
    have := Row3.len h5
    simp only [List.length_cons]
    omega
  | [], _ :: _, h => h.elim
  | _ :: _, [], h => h.elim
  | _ :: _, [_], h => h.elim
  | _ :: _, [_, _], h => h.elim
theorem Row3.at' {w : World} {S : Nat → Prop} : ∀ {ns : List Nd} {vs : List Value}, Row3 w S ns vs → ∀ (i : Nat) (hi : i < ns.length), ∃ c, vs[i * 3]? = some (.bool ns[i].leaf) ∧ vs[i * 3 + 1]? = some (.string ns[i].atom) ∧ vs[i * 3 + 2]? = some c ∧ ns[i].atom.size ≤ maxLen ∧ ∃ kb ko, NdS w S c ns[i].kids kb ko
  | [], [], _, i, hi => by simp at hi
  | n :: ns, a :: b :: c :: vs, ⟨⟨h1, h2, h3, kb, ko, h4⟩, h5⟩, i, hi => by
    cases i with
    | zero => exact ⟨c, by simp [h1], by simp [h2], by simp, h3, kb, ko, h4⟩
    | succ j =>
      obtain ⟨d, g1, g2, g3, g4⟩ := Row3.at' h5 j (by simpa using hi)
      have e1 : (j + 1) * 3 = j * 3 + 3 := by omega
      refine ⟨d, ?_, ?_, ?_, g4⟩
      · rw [e1]; simpa using g1
      · rw [e1]; simpa using g2
      · rw [e1]; simpa using g3
  | [], _ :: _, h, _, _ => h.elim
  | _ :: _, [], h, _, _ => h.elim
  | _ :: _, [_], h, _, _ => h.elim
  | _ :: _, [_, _], h, _, _ => h.elim
/- what kids there are so far: a row of the call's own from block lo on; their own rows are elsewhere -/
def KdS (lo : Nat) (v : Value) (w : World) : Nat → Prop := fun x => Nw lo w x ∧ v.ownBlock ≠ some x
def Kd (w : World) (lo : Nat) (v : Value) (acc : List Nd) : Prop := lo ≤ w.heap.size ∧ ∃ xs, w.ownsRow lo 71 3 v acc.length xs ∧ Row3 w (KdS lo v w) acc xs
theorem Kd.nil (w : World) (lo : Nat) (h : lo ≤ w.heap.size) : Kd w lo (.slice none 0 0) [] := ⟨h, [], World.ownsRow_nil _ _ _ _, trivial⟩
theorem ownsRow_chg {w w' : World} {S : Nat → Prop} {base : Nat} {e : TypeId} {size : Nat} {v : Value} {n : Nat} {xs : List Value} (h : w.ownsRow base e size v n xs) (hc : Chg S w w') (hS : ∀ k, v.ownBlock = some k → ¬ S k) : w'.ownsRow base e size v n xs := by
  refine ⟨h.1, ?_⟩
  have hl := h.lt
  rcases h.2 with x | ⟨g, cap, cur, rfl, hb, hh, r⟩
  · exact .inl x
  · exact .inr ⟨g, cap, cur, rfl, hb, by rw [hc.block g (hl g rfl).2 (hS g rfl)]; exact hh, r⟩
theorem Kd.keep {w w' : World} {lo : Nat} {v : Value} {acc : List Nd} {T : Nat → Prop} (h : Kd w lo v acc) (hc : Chg T w w') (hT : ∀ k, k < w.heap.size → lo ≤ k → ¬ T k) : Kd w' lo v acc := by
  obtain ⟨hl, xs, h1, h2⟩ := h
  refine ⟨Nat.le_trans hl hc.size, xs, ownsRow_chg h1 hc fun k hk => hT k (h1.lt k hk).2 (h1.lt k hk).1, h2.keep hc (fun k hk => hT k hk.1.1.2 hk.1.1.1) fun k hk => ⟨hk.1.keep hc (hT k hk.1.1.2 hk.1.1.1), hk.2⟩⟩
theorem Kd.shape {w : World} {lo : Nat} {v : Value} {acc : List Nd} (h : Kd w lo v acc) : ∃ q cap, v = .slice q acc.length cap ∧ acc.length ≤ cap ∧ cap ≤ maxLen := by
  obtain ⟨_, xs, h1, _⟩ := h
  rcases h1.2 with ⟨rfl, h0⟩ | ⟨g, cap, cur, rfl, _, _, h3, h4, _⟩
  · exact ⟨none, 0, by rw [h0], by omega, by omega⟩
  · exact ⟨_, cap, rfl, h3, h4⟩
theorem add_zero_off (g j : Nat) : (⟨g, 0, none⟩ : Addr).add j = ⟨g, j, none⟩ := by unfold Addr.add; split <;> simp_all
theorem Kd.nds {w : World} {lo : Nat} {v : Value} {acc : List Nd} (h : Kd w lo v acc) : ∃ kb ko, NdS w (Nw lo w) v acc kb ko := by
  obtain ⟨_, xs, h1, h2⟩ := h
  have hlt := h1.lt
  rcases h1.2 with ⟨rfl, h0⟩ | ⟨g, cap, cur, rfl, hb, hh, h3, h4, _⟩
  · have : acc = [] := List.eq_nil_of_length_eq_zero h0
    subst this
    exact ⟨0, 0, NdS.nil _ _⟩
  · refine ⟨g, 0, ⟨⟨_, cap, rfl, h3, h4, fun _ => rfl⟩, fun i hi => ?_⟩⟩
    obtain ⟨c, g1, g2, g3, g4, kb, ko, g5⟩ := h2.at' i hi
    have hc := World.ownsRow.cells h1 (g := g) rfl
    rw [Nat.zero_add]
    refine NdC.of ⟨hlt g rfl, row_free hh⟩ g4 ?_ ?_ ?_ (g5.mono fun x hx => hx.1)
    · have := hc _ _ g1; rwa [add_zero_off] at this
    · have := hc _ _ g2; rwa [add_zero_off] at this
    · have := hc _ _ g3; rwa [add_zero_off] at this
/- one kid more -/
theorem Kd.push {w w2 w' : World} {lo N : Nat} {v v' : Value} {acc : List Nd} {xs : List Value} {n : Nd} {s : Value} {kb ko : Nat} (hN : ∀ k, v.ownBlock = some k → k < N) (hl : lo ≤ N) (hlw : N ≤ w.heap.size) (h2 : Row3 w (KdS lo v w) acc xs)
    (ha : n.atom.size ≤ maxLen) (hs : NdS w (Nw N w) s n.kids kb ko) (hc2 : Chg NoB w w2)
    (hown : w'.ownsRow lo 71 3 v' (acc.length + 1) (xs ++ [.bool n.leaf, .string n.atom, s])) (hg : w2.grownBy w' v.ownBlock) (hp : v'.ownBlock = v.ownBlock ∨ v'.ownBlock = some w2.heap.size) : Kd w' lo v' (acc ++ [n]) := by
  have z2 := hc2.size
  have z3 := hg.size
  have hgc : Chg (fun k => v.ownBlock = some k) w2 w' := (Chg.refl _ w2).grown hg fun k hk => .inl hk
  refine ⟨by omega, _, by rw [List.length_append]; exact hown, ?_⟩
  refine Row3.snoc (kb := kb) (ko := ko) ha ?_ ?_
  · refine ((hs.keep hc2 fun _ _ => id).keep hgc fun x hx hv => ?_).mono fun x hx => ⟨((hx.keep hc2 id).keep hgc fun hv => ?_).le hl, fun hv => ?_⟩
    · have := hN x hv; have := hx.1.1; omega
    · have := hN x hv; have := hx.1.1; omega
    · rcases hp with hp | hp
      · rw [hp] at hv; have := hN x hv; have := hx.1.1; omega
      · rw [hp] at hv; simp only [Option.some.injEq] at hv; have := hx.1.2; omega
  · refine (h2.keep hc2 (fun _ _ => id) (S' := KdS lo v w) fun _ => id).keep hgc (fun x hx hv => hx.2 hv) fun x hx => ⟨(hx.1.keep hc2 id).keep hgc hx.2, fun hv => ?_⟩
    rcases hp with hp | hp
    · rw [hp] at hv; exact hx.2 hv
    · rw [hp] at hv; simp only [Option.some.injEq] at hv; have := hx.1.1.2; omega
theorem lit3 (w : World) (a b c : Value) (t : TypeId) : ∀ (j : Nat) (u : Value), [a, b, c][j]? = some u → (w.alloc (.cells #[a, b, c] t)).cell? ((⟨w.heap.size, 0, none⟩ : Addr).add j) = some u := by
  intro j u hj
  rw [add_zero_off, cell_of_row _ w.heap.size j _ t (0, 0) (heap_alloc_new w _), ← hj]
  simp
theorem one3 (a : Bool) (b : ByteArray) (q : Option Addr) (n c : Nat) : ∀ u ∈ [Value.bool a, .string b, .slice q n c], u.oneCell' = true := by
  intro u hu
  simp only [List.mem_cons, List.not_mem_nil, or_false] at hu
  rcases hu with rfl | rfl | rfl <;> rfl
end Go.Proofs.YtilkcjcmcnlfnaaGreatDoor
