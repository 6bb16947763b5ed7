/- Rows of files in memory: pairs of texts. No condition. -/
import Derived.Test.YthehpmffkkogpaaGreatDoorTrMath
import Derived.Test.YthehpmffkkogpaaGreatDoorNdCopies
import Derived.Test.YthehpmffkkogpaaGreatDoorApp
import Derived.Test.YthehpmffkkogpaaGreatDoorNdLib
import Derived.Test.YthehpmffkkogpaaGreatDoorRdKids
namespace Go.Proofs.YthehpmffkkogpaaGreatDoor
set_option linter.unusedVariables false
open Go.ChangeShapes Go.WideShapes Go.ChangeAt Go.RowKit
abbrev InL := List UInt8 × List UInt8
structure InpS (w : World) (S : Nat → Prop) (v : Value) (xs : List InL) (kb ko : Nat) : Prop where
  sh : ∃ q c, v = .slice q xs.length c ∧ xs.length ≤ c ∧ c ≤ maxLen ∧ (xs ≠ [] → q = some ⟨kb, ko, none⟩ ∧ S kb)
  at' : ∀ i (hi : i < xs.length), w.cell? ⟨kb, ko + i * 2, none⟩ = some (.string (tx xs[i].1)) ∧ w.cell? ⟨kb, ko + i * 2 + 1, none⟩ = some (.string (tx xs[i].2))
theorem InpS.keep {w w' : World} {S T : Nat → Prop} (hc : Chg T w w') (hST : ∀ k, S k → ¬ T k) {v : Value} {xs : List InL} {kb ko : Nat} (h : InpS w S v xs kb ko) : InpS w' S v xs kb ko := by
  obtain ⟨hsh, hat⟩ := h
  refine ⟨hsh, fun i hi => ?_⟩
  obtain ⟨q, c, _, _, _, hq⟩ := hsh
  have hne : xs ≠ [] := by rintro rfl; simp at hi
  have hS := hST kb (hq hne).2
  obtain ⟨h1, h2⟩ := hat i hi
  exact ⟨hc.cell h1 hS, hc.cell h2 hS⟩
theorem InpS.mono {w : World} {S T : Nat → Prop} (hST : ∀ k, S k → T k) {v : Value} {xs : List InL} {kb ko : Nat} (h : InpS w S v xs kb ko) : InpS w T v xs kb ko := by
  obtain ⟨⟨q, c, h1, h2, h3, h4⟩, hat⟩ := h
  exact ⟨⟨q, c, h1, h2, h3, fun hn => ⟨(h4 hn).1, hST _ (h4 hn).2⟩⟩, hat⟩
theorem InpS.nil (w : World) (S : Nat → Prop) : InpS w S (.slice none 0 0) [] 0 0 := ⟨⟨none, 0, rfl, Nat.le_refl _, Nat.zero_le _, fun h => absurd rfl h⟩, fun i hi => by simp at hi⟩
theorem var6 {w : World} {b : Nat} {x0 x1 x2 x3 x4 x5 : Value} {t : TypeId} (h : w.heap[b]? = some (.cells #[x0, x1, x2, x3, x4, x5] t (0, 0))) : w.cell? ⟨b, 0, none⟩ = some x0 ∧ w.cell? ⟨b, 1, none⟩ = some x1 ∧ w.cell? ⟨b, 2, none⟩ = some x2 ∧ w.cell? ⟨b, 3, none⟩ = some x3 ∧ w.cell? ⟨b, 4, none⟩ = some x4 ∧ w.cell? ⟨b, 5, none⟩ = some x5 := by
  have c := fun i => cell_of_row w b i _ _ (0, 0) h
  exact ⟨by rw [c]; rfl, by rw [c]; rfl, by rw [c]; rfl, by rw [c]; rfl, by rw [c]; rfl, by rw [c]; rfl⟩
theorem var4 {w : World} {b : Nat} {x0 x1 x2 x3 : Value} {t : TypeId} (h : w.heap[b]? = some (.cells #[x0, x1, x2, x3] t (0, 0))) : w.cell? ⟨b, 0, none⟩ = some x0 ∧ w.cell? ⟨b, 1, none⟩ = some x1 ∧ w.cell? ⟨b, 2, none⟩ = some x2 ∧ w.cell? ⟨b, 3, none⟩ = some x3 := by
  have c := fun i => cell_of_row w b i _ _ (0, 0) h
  exact ⟨by rw [c]; rfl, by rw [c]; rfl, by rw [c]; rfl, by rw [c]; rfl⟩
theorem var2 {w : World} {b : Nat} {x0 x1 : Value} {t : TypeId} (h : w.heap[b]? = some (.cells #[x0, x1] t (0, 0))) : w.cell? ⟨b, 0, none⟩ = some x0 ∧ w.cell? ⟨b, 1, none⟩ = some x1 := by
  have c := fun i => cell_of_row w b i _ _ (0, 0) h
  exact ⟨by rw [c]; rfl, by rw [c]; rfl⟩
def SayB (b : Bool) (w : World) (e : Ending) (w' : World) : Prop := e = .returned (.bool b) ∧ Chg NoB w w'
theorem inpInfo : (Tryz.prog.info? 43).map (fun i => (i.zero, i.size, i.bytes)) = some (some (.agg #[.string ⟨#[]⟩, .string ⟨#[]⟩]), 2, 32) := by kernel_rfl
def flatP : List InL → List Value
  | [] => []
  | x :: r => .string (tx x.1) :: .string (tx x.2) :: flatP r
theorem flatP_app (a b : List InL) : flatP (a ++ b) = flatP a ++ flatP b := by
  induction a with
  | nil => rfl
  | cons x r ih => simp [flatP, ih]
theorem flatP_at : ∀ (a : List InL) (i : Nat) (hi : i < a.length), (flatP a)[i * 2]? = some (.string (tx a[i].1)) ∧ (flatP a)[i * 2 + 1]? = some (.string (tx a[i].2))
  | x :: r, 0, _ => ⟨rfl, rfl⟩
  | x :: r, i + 1, hi => by
    obtain ⟨h1, h2⟩ := flatP_at r i (by simpa using hi)
    have e : (i + 1) * 2 = i * 2 + 2 := by omega
    refine ⟨?_, ?_⟩
    · rw [e]; simpa [flatP] using h1
    · rw [e]; simpa [flatP] using h2
theorem InpS.of_row {w : World} {lo : Nat} {v : Value} {ps : List InL} (h : w.ownsRow lo 43 2 v ps.length (flatP ps)) : ∃ kb, InpS w (fun k => lo ≤ k ∧ k < w.heap.size) v ps kb 0 := by
  have hlt := World.ownsRow.lt h
  have hcl := fun g hg => World.ownsRow.cells (g := g) h hg
  rcases h.2 with ⟨rfl, h0⟩ | ⟨g, cap, cur, rfl, hb, hh, h3, h4, _⟩
  · have : ps = [] := List.eq_nil_of_length_eq_zero h0
    subst this
    exact ⟨0, ⟨⟨none, 0, rfl, Nat.le_refl _, Nat.zero_le _, fun h => absurd rfl h⟩, fun i hi => by simp at hi⟩⟩
  · refine ⟨g, ⟨⟨_, cap, rfl, h3, h4, fun _ => ⟨rfl, hlt g rfl⟩⟩, fun i hi => ?_⟩⟩
    obtain ⟨g0, g1⟩ := flatP_at ps i hi
    rw [Nat.zero_add]
    refine ⟨?_, ?_⟩
    · have := hcl g rfl _ _ g0; rwa [add_zero_off] at this
    · have := hcl g rfl _ _ g1; rwa [add_zero_off] at this
theorem row_shape {w : World} {lo : Nat} {t : TypeId} {size n : Nat} {v : Value} {xs : List Value} (h : w.ownsRow lo t size v n xs) : ∃ q c, v = .slice q n c ∧ n ≤ c ∧ c ≤ maxLen := by
  rcases h.2 with ⟨rfl, h0⟩ | ⟨g, cap, cur, rfl, _, _, h3, h4, _⟩
  · exact ⟨none, 0, by rw [h0], by omega, Nat.zero_le _⟩
  · exact ⟨_, cap, rfl, h3, h4⟩
theorem lit2 (w : World) (a b : Value) (t : TypeId) : ∀ (j : Nat) (u : Value), [a, b][j]? = some u → (w.alloc (.cells #[a, b] t)).cell? ((⟨w.heap.size, 0, none⟩ : Addr).add j) = some u := by
  intro j u hj
  rw [add_zero_off, cell_of_row _ w.heap.size j _ t (0, 0) (heap_alloc_new w _), ← hj]
  simp
theorem one2 (a b : ByteArray) : ∀ u ∈ [Value.string a, .string b], u.oneCell' = true := by
  intro u hu
  simp only [List.mem_cons, List.not_mem_nil, or_false] at hu
  rcases hu with rfl | rfl <;> rfl
theorem cnt_len (ks : List Nd) : ks.length ≤ Nd.counts ks := by
  induction ks with
  | nil => exact Nat.le_refl _
  | cons k r ih => rw [Nd.counts, List.length_cons]; have := k.count_pos; omega
theorem cnt_mem {ks : List Nd} {k : Nd} (h : k ∈ ks) : k.count ≤ Nd.counts ks := by
  obtain ⟨i, hi, rfl⟩ := List.getElem_of_mem h
  exact Nd.counts_get ks i hi
theorem cnt_parts (n : Nd) : n.atom.size ≤ n.count ∧ Nd.counts n.kids ≤ n.count := by
  obtain ⟨l, a, ks⟩ := n
  show a.size ≤ (Nd.mk l a ks).count ∧ Nd.counts ks ≤ (Nd.mk l a ks).count
  rw [Nd.count]
  omega
theorem var1 {w : World} {b : Nat} {x0 : Value} {t : TypeId} (h : w.heap[b]? = some (.cells #[x0] t (0, 0))) : w.cell? ⟨b, 0, none⟩ = some x0 := by
  rw [cell_of_row w b 0 _ _ (0, 0) h]; rfl
theorem aSize (w : World) (o : Obj) : (w.alloc o).heap.size = w.heap.size + 1 := by
  show (w.heap.push o).size = _
  simp
theorem ownsRow_low {w : World} {base base' : Nat} {e : TypeId} {size : Nat} {v : Value} {n : Nat} {xs : List Value} (hb : base' ≤ base) (h : w.ownsRow base e size v n xs) : w.ownsRow base' e size v n xs := by
  obtain ⟨h1, h2 | ⟨g, cap, cur, a1, a2, a3⟩⟩ := h
  · exact ⟨h1, .inl h2⟩
  · exact ⟨h1, .inr ⟨g, cap, cur, a1, Nat.le_trans hb a2, a3⟩⟩
end Go.Proofs.YthehpmffkkogpaaGreatDoor
