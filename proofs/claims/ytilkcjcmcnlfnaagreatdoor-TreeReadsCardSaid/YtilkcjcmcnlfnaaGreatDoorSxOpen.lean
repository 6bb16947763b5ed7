/- From the form's reading of a node to the node. No condition. -/
import Derived.Test.YtilkcjcmcnlfnaaGreatDoorNdMem
import Derived.Deep.Strs
import Derived.Deep.Slices
namespace Go.Proofs.YtilkcjcmcnlfnaaGreatDoor
set_option linter.unusedVariables false
open Go.ChangeShapes Go.WideShapes Go.ChangeAt Go.RowKit
/- the blocks that are there -/
def OldB (w : World) : Nat → Prop := fun k => k < w.heap.size
theorem nodeCells : Tryz.prog.cellsOf 71 = 3 := by kernel_rfl
theorem choose_list {α : Type} {P : Nat → α → Prop} : ∀ (n : Nat), (∀ i, i < n → ∃ x, P i x) → ∃ l : List α, l.length = n ∧ ∀ i (h : i < l.length), P i l[i]
  | 0, _ => ⟨[], rfl, fun i h => by simp at h⟩
  | n + 1, h => by
    obtain ⟨l, hl, hp⟩ := choose_list n fun i hi => h i (by omega)
    obtain ⟨x, hx⟩ := h n (by omega)
    refine ⟨l ++ [x], by simp [hl], fun i hi => ?_⟩
    by_cases hin : i < l.length
    · rw [List.getElem_append_left hin]; exact hp i hin
    · have : i = l.length := by simp at hi; omega
      subst this
      rw [List.getElem_append_right (Nat.le_refl _)]
      simp only [Nat.sub_self, List.getElem_cons_zero]
      rw [hl]; exact hx
theorem cells3 {w : World} {base : Nat} {a : Addr} {c0 c1 c2 : Value} (h : w.cells? base a 3 = some [c0, c1, c2]) : w.cell? (a.add 0) = some c0 ∧ w.cell? (a.add 1) = some c1 ∧ w.cell? (a.add 2) = some c2 := by
  obtain ⟨_, _, h⟩ := World.cells?_some h
  exact ⟨h 0 (by decide), h 1 (by decide), h 2 (by decide)⟩
theorem slice_trod {H : Type} {enc : TypeId × Value → H} {W : World} {fuel : Nat} {c : Value} {x : DataW H × List MemPlace}
    (ih : ∀ m, m < fuel → ∀ (cs : List Value) (x : DataW H × List MemPlace), DataW.trod enc Tryz.prog W 0 (fun _ => true) true m 71 cs = some x →
      ∃ (n : Nd) (s : Value), cs = [.bool n.leaf, .string n.atom, s] ∧ n.atom.size ≤ maxLen ∧ ∃ kb ko, NdS W (OldB W) s n.kids kb ko)
    (h : DataW.trod enc Tryz.prog W 0 (fun _ => true) true fuel 69 [c] = some x) : ∃ ks kb ko, NdS W (OldB W) c ks kb ko := by
  rcases DataW.trod_slice Tryz.underlying69 h with ⟨e, _⟩ | ⟨a, len, cap, elems, rest, n, hfn, e, _, _, hl, hm, hlen, hel, _, _⟩
  · simp only [List.cons.injEq, and_true] at e
    subst e
    exact ⟨[], 0, 0, NdS.nil _ _⟩
  · simp only [List.cons.injEq, and_true] at e
    subst e
    have hnode : ∀ i, i < len → ∃ nd : Nd, ∃ s, W.cells? 0 (a.add (i * 3)) 3 = some [.bool nd.leaf, .string nd.atom, s] ∧ nd.atom.size ≤ maxLen ∧ ∃ kb ko, NdS W (OldB W) s nd.kids kb ko := by
      intro i hi
      have h1 := hel i hi
      rw [nodeCells, List.getElem?_eq_getElem (by omega)] at h1
      cases hc : W.cells? 0 (a.add (i * 3)) 3 with
      | none => rw [hc] at h1; simp at h1
      | some cs' =>
        rw [hc] at h1
        simp only [Option.bind_some] at h1
        obtain ⟨nd, s, rfl, h2, h3⟩ := ih n (by omega) cs' _ h1
        exact ⟨nd, s, rfl, h2, h3⟩
    obtain ⟨ks, hkl, hks⟩ := choose_list len hnode
    have ha : len ≠ 0 → ∃ b off, a = ⟨b, off, none⟩ := by
      intro h0
      obtain ⟨s, h1, _⟩ := hks 0 (by omega)
      have h2 := World.cell?_spot (cells3 h1).1
      obtain ⟨b, off, spot⟩ := a
      refine ⟨b, off, ?_⟩
      have : spot = none := by simpa [Addr.add] using h2
      rw [this]
    by_cases h0 : len = 0
    · have : ks = [] := List.eq_nil_of_length_eq_zero (by omega)
      subst this
      exact ⟨[], 0, 0, ⟨some a, cap, by rw [h0]; rfl, by simp, hm, fun h => absurd rfl h⟩, fun i hi => by simp at hi⟩
    · obtain ⟨b, off, rfl⟩ := ha h0
      refine ⟨ks, b, off, ⟨_, cap, by rw [hkl], by omega, hm, fun _ => rfl⟩, fun i hi => ?_⟩
      obtain ⟨s, h1, h2, kb, ko, h3⟩ := hks i hi
      obtain ⟨e0, e1, e2⟩ := cells3 h1
      rw [Go.WideShapes.add_plain, Go.WideShapes.add_plain] at e0 e1 e2
      exact NdC.of (World.block_lt_of_cell? W _ e0) h2 e0 e1 e2 h3
set_option maxRecDepth 20000 in
theorem node_trod {H : Type} {enc : TypeId × Value → H} {W : World} (fuel : Nat) : ∀ (cs : List Value) (x : DataW H × List MemPlace), DataW.trod enc Tryz.prog W 0 (fun _ => true) true fuel 71 cs = some x →
    ∃ (n : Nd) (s : Value), cs = [.bool n.leaf, .string n.atom, s] ∧ n.atom.size ≤ maxLen ∧ ∃ kb ko, NdS W (OldB W) s n.kids kb ko := by
  induction fuel using Nat.strongRecOn with
  | _ fuel ih =>
    intro cs x h
    obtain ⟨xs, m, hfm, rfl, hl, hlen, hf⟩ := DataW.trod_struct Tryz.underlying71 h
    rw [nodeCells] at hl
    match cs, hl with
    | [c0, c1, c2], _ =>
      have hl3 : xs.length = 3 := hlen
      match xs, hl3 with
      | [y0, y1, y2], _ =>
        have k4 : Tryz.prog.cellsOf 4 = 1 := by kernel_rfl
        have k9 : Tryz.prog.cellsOf 9 = 1 := by kernel_rfl
        have k22 : Tryz.prog.cellsOf 69 = 1 := by kernel_rfl
        have h0 : DataW.trod enc Tryz.prog W 0 (fun _ => true) true m 4 (([c0, c1, c2].drop 0).take (Tryz.prog.cellsOf 4)) = some y0 := hf 0 _ rfl
        have h1 : DataW.trod enc Tryz.prog W 0 (fun _ => true) true m 9 (([c0, c1, c2].drop 1).take (Tryz.prog.cellsOf 9)) = some y1 := hf 1 _ rfl
        have h2 : DataW.trod enc Tryz.prog W 0 (fun _ => true) true m 69 (([c0, c1, c2].drop 2).take (Tryz.prog.cellsOf 69)) = some y2 := hf 2 _ rfl
        rw [k4] at h0
        rw [k9] at h1
        rw [k22] at h2
        have h0 : DataW.trod enc Tryz.prog W 0 (fun _ => true) true m 4 [c0] = some y0 := h0
        have h1 : DataW.trod enc Tryz.prog W 0 (fun _ => true) true m 9 [c1] = some y1 := h1
        have h2 : DataW.trod enc Tryz.prog W 0 (fun _ => true) true m 69 [c2] = some y2 := h2
        obtain ⟨l, e0, _⟩ := DataW.trod_bool Tryz.underlying4 h0
        obtain ⟨a, e1, _, ha⟩ := DataW.trod_string Tryz.underlying9 h1
        obtain ⟨ks, kb, ko, hk⟩ := slice_trod (fuel := m) (fun k hk => ih k (by omega)) h2
        simp only [List.cons.injEq, and_true] at e0 e1
        subst e0 e1
        exact ⟨.mk l a ks, c2, rfl, ha, kb, ko, hk⟩
end Go.Proofs.YtilkcjcmcnlfnaaGreatDoor
