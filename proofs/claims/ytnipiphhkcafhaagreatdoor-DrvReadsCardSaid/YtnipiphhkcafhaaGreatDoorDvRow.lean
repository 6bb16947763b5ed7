/- Rows of inputs, boxes of six cells, and what a build out of a node is, a step at a time. No condition. -/
import Derived.Test.YtnipiphhkcafhaaGreatDoorDvStep
namespace Go.Proofs.YtnipiphhkcafhaaGreatDoor
set_option linter.unusedVariables false
open Go.ChangeShapes Go.WideShapes Go.ChangeAt Go.RowKit
theorem inpInfo : (Tryz.prog.info? 48).map (fun i => (i.zero, i.size, i.bytes)) = some (some (.agg #[.string ⟨#[]⟩, .string ⟨#[]⟩]), 2, 32) := by kernel_rfl
def flatP : List InL → List Value
  | [] => []
  | x :: r => .string (tx x.1) :: .string (tx x.2) :: flatP r
theorem flatP_app (a b : List InL) : flatP (a ++ b) = flatP a ++ flatP b := by
  induction a with
  | nil => rfl
  | cons x r ih => simp [flatP, ih]
theorem flatP_at : ∀ (a : List InL) (i : Nat) (hi : i < a.length), (flatP a)[i * 2]? = some (.string (tx a[i].1)) ∧ (flatP a)[i * 2 + 1]? = some (.string (tx a[i].2))
  | x :: r, 0, _ => ⟨rfl, rfl⟩
  | x :: r, i + 1, hi => by
    obtain ⟨h1, h2⟩ := flatP_at r i (by simpa using hi)
    have e : (i + 1) * 2 = i * 2 + 2 := by omega
    refine ⟨?_, ?_⟩
    · rw [e]; simpa [flatP] using h1
    · rw [e]; simpa [flatP] using h2
theorem InpS.of_row {w : World} {lo : Nat} {v : Value} {ps : List InL} (h : w.ownsRow lo 48 2 v ps.length (flatP ps)) : ∃ kb, InpS w (fun k => lo ≤ k ∧ k < w.heap.size) v ps kb 0 := by
  have hlt := World.ownsRow.lt h
  have hcl := fun g hg => World.ownsRow.cells (g := g) h hg
  rcases h.2 with ⟨rfl, h0⟩ | ⟨g, cap, cur, rfl, hb, hh, h3, h4, _⟩
  · have : ps = [] := List.eq_nil_of_length_eq_zero h0
    subst this
    exact ⟨0, ⟨⟨none, 0, rfl, Nat.le_refl _, Nat.zero_le _, fun h => absurd rfl h⟩, fun i hi => by simp at hi⟩⟩
  · refine ⟨g, ⟨⟨_, cap, rfl, h3, h4, fun _ => ⟨rfl, hlt g rfl⟩⟩, fun i hi => ?_⟩⟩
    obtain ⟨g0, g1⟩ := flatP_at ps i hi
    rw [Nat.zero_add]
    refine ⟨?_, ?_⟩
    · have := hcl g rfl _ _ g0; rwa [add_zero_off] at this
    · have := hcl g rfl _ _ g1; rwa [add_zero_off] at this
theorem row_shape {w : World} {lo : Nat} {t : TypeId} {size n : Nat} {v : Value} {xs : List Value} (h : w.ownsRow lo t size v n xs) : ∃ q c, v = .slice q n c ∧ n ≤ c ∧ c ≤ maxLen := by
  rcases h.2 with ⟨rfl, h0⟩ | ⟨g, cap, cur, rfl, _, _, h3, h4, _⟩
  · exact ⟨none, 0, by rw [h0], by omega, Nat.zero_le _⟩
  · exact ⟨_, cap, rfl, h3, h4⟩
theorem lit2 (w : World) (a b : Value) (t : TypeId) : ∀ (j : Nat) (u : Value), [a, b][j]? = some u → (w.alloc (.cells #[a, b] t)).cell? ((⟨w.heap.size, 0, none⟩ : Addr).add j) = some u := by
  intro j u hj
  rw [add_zero_off, cell_of_row _ w.heap.size j _ t (0, 0) (heap_alloc_new w _), ← hj]
  simp
theorem one2 (a b : ByteArray) : ∀ u ∈ [Value.string a, .string b], u.oneCell' = true := by
  intro u hu
  simp only [List.mem_cons, List.not_mem_nil, or_false] at hu
  rcases hu with rfl | rfl <;> rfl
/- boxes of six cells -/
theorem box6 {w : World} {b : Nat} {x0 x1 x2 x3 x4 x5 : Value} {t : TypeId} (h : w.heap[b]? = some (.cells #[x0, x1, x2, x3, x4, x5] t (0, 0))) (u0 u1 u2 u3 u4 u5 : Value) :
    ((((((w.setCell ⟨b, 0, none⟩ u0).setCell ⟨b, 1, none⟩ u1).setCell ⟨b, 2, none⟩ u2).setCell ⟨b, 3, none⟩ u3).setCell ⟨b, 4, none⟩ u4).setCell ⟨b, 5, none⟩ u5).heap[b]? = some (.cells #[u0, u1, u2, u3, u4, u5] t (0, 0)) :=
  heap_set (heap_set (heap_set (heap_set (heap_set (heap_set h (i := 0) u0) (i := 1) u1) (i := 2) u2) (i := 3) u3) (i := 4) u4) (i := 5) u5
theorem box6_chg {S : Nat → Prop} {a w : World} {b : Nat} (h : Chg S a w) (hb : S b ∨ a.heap.size ≤ b) (u0 u1 u2 u3 u4 u5 : Value) : Chg S a ((((((w.setCell ⟨b, 0, none⟩ u0).setCell ⟨b, 1, none⟩ u1).setCell ⟨b, 2, none⟩ u2).setCell ⟨b, 3, none⟩ u3).setCell ⟨b, 4, none⟩ u4).setCell ⟨b, 5, none⟩ u5) :=
  (((((h.setCell (p := ⟨b, 0, none⟩) hb u0).setCell (p := ⟨b, 1, none⟩) hb u1).setCell (p := ⟨b, 2, none⟩) hb u2).setCell (p := ⟨b, 3, none⟩) hb u3).setCell (p := ⟨b, 4, none⟩) hb u4).setCell (p := ⟨b, 5, none⟩) hb u5
/- how great the parts of a node are -/
theorem cnt_len (ks : List Nd) : ks.length ≤ Nd.counts ks := by
  induction ks with
  | nil => exact Nat.le_refl _
  | cons k r ih => rw [Nd.counts, List.length_cons]; have := k.count_pos; omega
theorem cnt_mem {ks : List Nd} {k : Nd} (h : k ∈ ks) : k.count ≤ Nd.counts ks := by
  obtain ⟨i, hi, rfl⟩ := List.getElem_of_mem h
  exact Nd.counts_get ks i hi
theorem cnt_parts (n : Nd) : n.atom.size ≤ n.count ∧ Nd.counts n.kids ≤ n.count := by
  obtain ⟨l, a, ks⟩ := n
  show a.size ≤ (Nd.mk l a ks).count ∧ Nd.counts ks ≤ (Nd.mk l a ks).count
  rw [Nd.count]
  omega
theorem atL_len (k : Nd) : (atL k).length = k.atom.size := by unfold atL; simp
theorem atL_tx (k : Nd) : tx (atL k) = k.atom := tx_back _
theorem inputsOf_snoc {a : List Nd} {k : Nd} {x : InL} : ∀ {l : List InL}, inputsOf a = some l → inputOf k = some x → inputsOf (a ++ [k]) = some (l ++ [x]) := by
  induction a with
  | nil => intro l h1 h2; cases h1; rw [List.nil_append, inputsOf, h2]; rfl
  | cons y r ih =>
    intro l h1 h2
    rw [inputsOf] at h1
    rw [List.cons_append, inputsOf]
    split at h1
    · cases h1
    · rename_i z hz
      cases hr : inputsOf r with
      | none => rw [hr] at h1; cases h1
      | some l' =>
        rw [hr] at h1
        cases h1
        rw [ih hr h2]
        rfl
theorem inputsOf_bad {ks : List Nd} {k : Nd} (hk : k ∈ ks) (h : inputOf k = none) : inputsOf ks = none := by
  induction ks with
  | nil => cases hk
  | cons y r ih =>
    rw [inputsOf]
    rcases List.mem_cons.1 hk with rfl | hk
    · rw [h]
    · split
      · rfl
      · rw [ih hk]; rfl
theorem inputsOf_len {ks : List Nd} : ∀ {l : List InL}, inputsOf ks = some l → l.length = ks.length ∧ ∀ x ∈ l, x.1.length ≤ Nd.counts ks ∧ x.2.length ≤ Nd.counts ks := by
  induction ks with
  | nil => intro l h; cases h; exact ⟨rfl, fun x hx => by cases hx⟩
  | cons k r ih =>
    intro l h
    rw [inputsOf] at h
    split at h
    · cases h
    · rename_i x hx
      cases hr : inputsOf r with
      | none => rw [hr] at h; cases h
      | some l' =>
        rw [hr] at h
        cases h
        obtain ⟨h1, h2⟩ := ih hr
        refine ⟨by rw [List.length_cons, h1, List.length_cons], fun y hy => ?_⟩
        rw [Nd.counts]
        rcases List.mem_cons.1 hy with rfl | hy
        · unfold inputOf at hx
          split at hx
          · rename_i p q hpq
            split at hx
            · cases hx
              have c0 := (cnt_parts k).2
              have c1 := cnt_mem (ks := k.kids) (k := p) (by rw [hpq]; simp)
              have c2 := cnt_mem (ks := k.kids) (k := q) (by rw [hpq]; simp)
              have d1 := (cnt_parts p).1
              have d2 := (cnt_parts q).1
              rw [atL_len, atL_len]
              omega
            · cases hx
          · cases hx
        · have := h2 y hy
          omega
theorem build_wf {n : Nd} {d : DrvL} (hn : n.count ≤ 65536) (h : buildF n = some d) : d.wf := by
  unfold buildF at h
  split at h
  · rename_i k0 k1 k2 k3 k4 hk
    split at h
    · split at h
      · cases h
      · rename_i a b c hv
        split at h
        · cases h
        · rename_i l hi
          cases h
          obtain ⟨hd, hg⟩ := Ver.verL_text hv
          have c0 := (cnt_parts n).2
          have hm : ∀ k ∈ [k0, k1, k2, k3, k4], k.count ≤ 65536 := fun k hk' => by have := cnt_mem (ks := n.kids) (k := k) (by rw [hk]; exact hk'); omega
          have c1 := hm k1 (by simp)
          have c3 := hm k3 (by simp)
          have c4 := hm k4 (by simp)
          have d1 := (cnt_parts k1).1
          have d3 := (cnt_parts k3).1
          have d4 := (cnt_parts k4).2
          obtain ⟨e1, e2⟩ := inputsOf_len hi
          have e4 := cnt_len k4.kids
          refine ⟨by show (atL k1).length ≤ _; rw [atL_len]; omega, by show (atL k3).length ≤ _; rw [atL_len]; omega, ?_, ?_, ?_, by show l.length ≤ _; omega, fun i hi => ?_⟩
          · show _ ≤ (a : Int) ∧ (a : Int) ≤ _; obtain ⟨_, _, _⟩ := hg; omega
          · show _ ≤ (b : Int) ∧ (b : Int) ≤ _; obtain ⟨_, _, _⟩ := hg; omega
          · show _ ≤ (c : Int) ∧ (c : Int) ≤ _; obtain ⟨_, _, _⟩ := hg; omega
          · have := e2 l[i] (List.getElem_mem hi)
            exact ⟨by show l[i].1.length ≤ _; omega, by show l[i].2.length ≤ _; omega⟩
    · cases h
  · cases h
theorem NdS.take {w : World} {S : Nat → Prop} {q : Option Addr} {n c : Nat} {ks : List Nd} {kb ko : Nat} (m : Nat) (hm : m ≤ ks.length) (h : NdS w S (.slice q n c) ks kb ko) : NdS w S (.slice q m c) (ks.take m) kb ko := by
  obtain ⟨⟨q', c', e, h1, h2, h3⟩, hat⟩ := h
  simp only [Value.slice.injEq] at e
  obtain ⟨rfl, rfl, rfl⟩ := e
  have hl : (ks.take m).length = m := by rw [List.length_take]; omega
  refine ⟨⟨q, c, by rw [hl], by omega, h2, fun hne => h3 (by rintro rfl; simp at hne)⟩, fun i hi => ?_⟩
  rw [List.getElem_take]
  exact hat i (by omega)
end Go.Proofs.YtnipiphhkcafhaaGreatDoor
