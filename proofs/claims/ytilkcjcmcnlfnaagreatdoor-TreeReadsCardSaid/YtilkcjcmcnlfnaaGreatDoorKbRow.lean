/- A row of nodes that is appended to, as in RdKids, without a word on what is frozen. No condition. -/
import Derived.Test.YtilkcjcmcnlfnaaGreatDoorRdNode
namespace Go.Proofs.YtilkcjcmcnlfnaaGreatDoor
set_option linter.unusedVariables false
open Go.ChangeShapes Go.WideShapes Go.ChangeAt Go.RowKit
def KbS (lo : Nat) (v : Value) (w : World) : Nat → Prop := fun x => (lo ≤ x ∧ x < w.heap.size) ∧ v.ownBlock ≠ some x
def Kb (w : World) (lo : Nat) (v : Value) (acc : List Nd) : Prop := lo ≤ w.heap.size ∧ ∃ xs, w.ownsRow lo 71 3 v acc.length xs ∧ Row3 w (KbS lo v w) acc xs
theorem Kb.nil (w : World) (lo : Nat) (h : lo ≤ w.heap.size) : Kb w lo (.slice none 0 0) [] := ⟨h, [], World.ownsRow_nil _ _ _ _, trivial⟩
theorem Kb.keep {w w' : World} {lo : Nat} {v : Value} {acc : List Nd} {T : Nat → Prop} (h : Kb w lo v acc) (hc : Chg T w w') (hT : ∀ k, k < w.heap.size → lo ≤ k → ¬ T k) : Kb w' lo v acc := by
  obtain ⟨hl, xs, h1, h2⟩ := h
  refine ⟨Nat.le_trans hl hc.size, xs, ownsRow_chg h1 hc fun k hk => hT k (h1.lt k hk).2 (h1.lt k hk).1, h2.keep hc (fun k hk => hT k hk.1.2 hk.1.1) fun k hk => ⟨⟨hk.1.1, Nat.lt_of_lt_of_le hk.1.2 hc.size⟩, hk.2⟩⟩
theorem Kb.shape {w : World} {lo : Nat} {v : Value} {acc : List Nd} (h : Kb w lo v acc) : ∃ q cap, v = .slice q acc.length cap ∧ acc.length ≤ cap ∧ cap ≤ maxLen := by
  obtain ⟨_, xs, h1, _⟩ := h
  rcases h1.2 with ⟨rfl, h0⟩ | ⟨g, cap, cur, rfl, _, _, h3, h4, _⟩
  · exact ⟨none, 0, by rw [h0], by omega, by omega⟩
  · exact ⟨_, cap, rfl, h3, h4⟩
theorem Kb.nds {w : World} {lo : Nat} {v : Value} {acc : List Nd} (h : Kb w lo v acc) : ∃ kb ko, NdS w (fun x => lo ≤ x ∧ x < w.heap.size) v acc kb ko := by
  obtain ⟨_, xs, h1, h2⟩ := h
  have hlt := h1.lt
  rcases h1.2 with ⟨rfl, h0⟩ | ⟨g, cap, cur, rfl, hb, hh, h3, h4, _⟩
  · have : acc = [] := List.eq_nil_of_length_eq_zero h0
    subst this
    exact ⟨0, 0, NdS.nil _ _⟩
  · refine ⟨g, 0, ⟨⟨_, cap, rfl, h3, h4, fun _ => rfl⟩, fun i hi => ?_⟩⟩
    obtain ⟨c, g1, g2, g3, g4, kb, ko, g5⟩ := h2.at' i hi
    have hc := World.ownsRow.cells h1 (g := g) rfl
    rw [Nat.zero_add]
    refine NdC.of (hlt g rfl) g4 ?_ ?_ ?_ (g5.mono fun x hx => hx.1)
    · have := hc _ _ g1; rwa [add_zero_off] at this
    · have := hc _ _ g2; rwa [add_zero_off] at this
    · have := hc _ _ g3; rwa [add_zero_off] at this
theorem Kb.shape2 {w : World} {lo : Nat} {v : Value} {acc : List Nd} (h : Kb w lo v acc) : ∃ q n cap, v = .slice q n cap := by
  obtain ⟨q, cap, e, _⟩ := h.shape
  exact ⟨q, _, cap, e⟩
/- one kid more -/
theorem Kb.push {w w2 w' : World} {lo N : Nat} {v v' : Value} {acc : List Nd} {xs : List Value} {n : Nd} {s : Value} {kb ko : Nat} (hN : ∀ k, v.ownBlock = some k → k < N) (hl : lo ≤ N) (hlw : N ≤ w.heap.size) (h2 : Row3 w (KbS lo v w) acc xs)
    (ha : n.atom.size ≤ maxLen) (hs : NdS w (fun x => N ≤ x ∧ x < w.heap.size) s n.kids kb ko) (hc2 : Chg NoB w w2)
    (hown : w'.ownsRow lo 71 3 v' (acc.length + 1) (xs ++ [.bool n.leaf, .string n.atom, s])) (hg : w2.grownBy w' v.ownBlock) (hp : v'.ownBlock = v.ownBlock ∨ v'.ownBlock = some w2.heap.size) : Kb w' lo v' (acc ++ [n]) := by
  have z2 := hc2.size
  have z3 := hg.size
  have hgc : Chg (fun k => v.ownBlock = some k) w2 w' := (Chg.refl _ w2).grown hg fun k hk => .inl hk
  refine ⟨by omega, _, by rw [List.length_append]; exact hown, ?_⟩
  refine Row3.snoc (kb := kb) (ko := ko) ha ?_ ?_
  · refine ((hs.keep hc2 fun _ _ => id).keep hgc fun x hx hv => ?_).mono fun x hx => ⟨⟨by omega, by omega⟩, fun hv => ?_⟩
    · have := hN x hv; omega
    · rcases hp with hp | hp
      · rw [hp] at hv; have := hN x hv; omega
      · rw [hp] at hv; simp only [Option.some.injEq] at hv; omega
  · refine (h2.keep hc2 (fun _ _ => id) (S' := KbS lo v w) fun _ => id).keep hgc (fun x hx hv => hx.2 hv) fun x hx => ⟨⟨hx.1.1, by have := hx.1.2; omega⟩, fun hv => ?_⟩
    rcases hp with hp | hp
    · rw [hp] at hv; exact hx.2 hv
    · rw [hp] at hv; simp only [Option.some.injEq] at hv; have := hx.1.2; omega
end Go.Proofs.YtilkcjcmcnlfnaaGreatDoor
