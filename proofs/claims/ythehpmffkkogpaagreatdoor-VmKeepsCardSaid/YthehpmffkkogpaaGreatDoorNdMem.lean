/- A node in memory, by value and in cells: what it reads as; its sizes. No condition. -/
import Derived.Test.YthehpmffkkogpaaGreatDoorChg
import Derived.Test.YthehpmffkkogpaaGreatDoorNdBase
namespace Go.Proofs.YthehpmffkkogpaaGreatDoor
set_option linter.unusedVariables false
open Go.ChangeShapes Go.WideShapes Go.ChangeAt Go.RowKit
/- a node's three cells at block b, from the o-th on; its nodes lie in a row of their own; all blocks are among S -/
inductive NdC (w : World) (S : Nat → Prop) : Nat → Nat → Nd → Prop
  | mk (b o : Nat) (l : Bool) (a : ByteArray) (ks : List Nd) (q : Option Addr) (c kb ko : Nat)
      (c0 : w.cell? ⟨b, o, none⟩ = some (.bool l)) (c1 : w.cell? ⟨b, o + 1, none⟩ = some (.string a)) (c2 : w.cell? ⟨b, o + 2, none⟩ = some (.slice q ks.length c))
      (hs : S b) (ha : a.size ≤ maxLen) (hc : ks.length ≤ c) (hm : c ≤ maxLen) (hq : ks ≠ [] → q = some ⟨kb, ko, none⟩) (hk : ∀ i (hi : i < ks.length), NdC w S kb (ko + i * 3) ks[i]) : NdC w S b o (.mk l a ks)
/- a slice of nodes -/
structure NdS (w : World) (S : Nat → Prop) (v : Value) (ks : List Nd) (kb ko : Nat) : Prop where
  sh : ∃ q c, v = .slice q ks.length c ∧ ks.length ≤ c ∧ c ≤ maxLen ∧ (ks ≠ [] → q = some ⟨kb, ko, none⟩)
  at' : ∀ i (hi : i < ks.length), NdC w S kb (ko + i * 3) ks[i]
/- a node by value -/
def NdV (w : World) (S : Nat → Prop) (v : Value) (n : Nd) : Prop := n.atom.size ≤ maxLen ∧ ∃ s kb ko, v = .agg #[.bool n.leaf, .string n.atom, s] ∧ NdS w S s n.kids kb ko
theorem NdC.keep {w w' : World} {S T : Nat → Prop} (hc : Chg T w w') (hST : ∀ k, S k → ¬ T k) {b o : Nat} {n : Nd} (h : NdC w S b o n) : NdC w' S b o n := by
  induction h with
  | mk b o l a ks q c kb ko c0 c1 c2 hs ha h1 h2 hq hk ih => exact .mk b o l a ks q c kb ko (hc.cell c0 (hST b hs)) (hc.cell c1 (hST b hs)) (hc.cell c2 (hST b hs)) hs ha h1 h2 hq ih
theorem NdS.keep {w w' : World} {S T : Nat → Prop} (hc : Chg T w w') (hST : ∀ k, S k → ¬ T k) {v : Value} {ks : List Nd} {kb ko : Nat} (h : NdS w S v ks kb ko) : NdS w' S v ks kb ko := ⟨h.sh, fun i hi => (h.at' i hi).keep hc hST⟩
theorem NdV.keep {w w' : World} {S T : Nat → Prop} (hc : Chg T w w') (hST : ∀ k, S k → ¬ T k) {v : Value} {n : Nd} (h : NdV w S v n) : NdV w' S v n := by
  obtain ⟨ha, s, kb, ko, e, hs⟩ := h
  exact ⟨ha, s, kb, ko, e, hs.keep hc hST⟩
theorem NdC.mono {w : World} {S T : Nat → Prop} (hST : ∀ k, S k → T k) {b o : Nat} {n : Nd} (h : NdC w S b o n) : NdC w T b o n := by
  induction h with
  | mk b o l a ks q c kb ko c0 c1 c2 hs ha h1 h2 hq hk ih => exact .mk b o l a ks q c kb ko c0 c1 c2 (hST b hs) ha h1 h2 hq ih
theorem NdS.mono {w : World} {S T : Nat → Prop} (hST : ∀ k, S k → T k) {v : Value} {ks : List Nd} {kb ko : Nat} (h : NdS w S v ks kb ko) : NdS w T v ks kb ko := ⟨h.sh, fun i hi => (h.at' i hi).mono hST⟩
/- in cells and by value -/
theorem NdC.cells {w : World} {S : Nat → Prop} {b o : Nat} {n : Nd} (h : NdC w S b o n) : S b ∧ n.atom.size ≤ maxLen ∧ ∃ s kb ko, w.cell? ⟨b, o, none⟩ = some (.bool n.leaf) ∧ w.cell? ⟨b, o + 1, none⟩ = some (.string n.atom) ∧ w.cell? ⟨b, o + 2, none⟩ = some s ∧ NdS w S s n.kids kb ko := by
  cases h with
  | mk _ _ l a ks q c kb ko c0 c1 c2 hs ha h1 h2 hq hk => exact ⟨hs, ha, _, kb, ko, c0, c1, c2, ⟨q, c, rfl, h1, h2, hq⟩, hk⟩
theorem NdC.of {w : World} {S : Nat → Prop} {b o : Nat} {n : Nd} {s : Value} {kb ko : Nat} (hb : S b) (ha : n.atom.size ≤ maxLen) (c0 : w.cell? ⟨b, o, none⟩ = some (.bool n.leaf)) (c1 : w.cell? ⟨b, o + 1, none⟩ = some (.string n.atom)) (c2 : w.cell? ⟨b, o + 2, none⟩ = some s) (hs : NdS w S s n.kids kb ko) : NdC w S b o n := by
  obtain ⟨l, a, ks⟩ := n
  obtain ⟨⟨q, c, rfl, h1, h2, h3⟩, hk⟩ := hs
  exact .mk b o l a ks q c kb ko c0 c1 c2 hb ha h1 h2 h3 hk
theorem NdS.nil (w : World) (S : Nat → Prop) : NdS w S (.slice none 0 0) [] 0 0 := ⟨⟨none, 0, rfl, Nat.le_refl _, Nat.zero_le _, fun h => absurd rfl h⟩, fun i hi => by simp at hi⟩
/- a row of nodes under way: the first k are laid -/
structure Laid (w0 w : World) (g : Nat) (t : TypeId) (ks : List Nd) (k : Nat) : Prop where
  chg : Chg NoB w0 w
  le : w0.heap.size ≤ g
  lt : g < w.heap.size
  row : ∃ cur : Array Value, w.heap[g]? = some (.cells cur t (0, 0)) ∧ cur.size = ks.length * 3
  done : ∀ i (hi : i < ks.length), i < k → ks[i].atom.size ≤ maxLen ∧ ∃ s kb ko, w.cell? ⟨g, i * 3, none⟩ = some (.bool ks[i].leaf) ∧ w.cell? ⟨g, i * 3 + 1, none⟩ = some (.string ks[i].atom) ∧ w.cell? ⟨g, i * 3 + 2, none⟩ = some s ∧
    NdS w (fun x => (w0.heap.size ≤ x ∧ x < w.heap.size) ∧ x ≠ g) s ks[i].kids kb ko
theorem Laid.whole {w0 w : World} {g : Nat} {t : TypeId} {ks : List Nd} (h : Laid w0 w g t ks ks.length) (hm : ks.length ≤ maxLen) : NdS w (fun x => w0.heap.size ≤ x ∧ x < w.heap.size) (.slice (some ⟨g, 0, none⟩) ks.length ks.length) ks g 0 := by
  refine ⟨⟨_, _, rfl, Nat.le_refl _, hm, fun _ => rfl⟩, fun i hi => ?_⟩
  obtain ⟨ha, s, kb, ko, c0, c1, c2, hs⟩ := h.done i hi hi
  rw [Nat.zero_add]
  exact NdC.of ⟨h.le, h.lt⟩ ha c0 c1 c2 (hs.mono fun x hx => hx.1)
/- how many nodes, how tall -/
mutual
def Nd.count : Nd → Nat
  | .mk _ a ks => 1 + a.size + Nd.counts ks
def Nd.counts : List Nd → Nat
  | [] => 0
  | k :: r => k.count + Nd.counts r
end
mutual
def Nd.tall : Nd → Nat
  | .mk _ _ ks => 1 + Nd.talls ks
def Nd.talls : List Nd → Nat
  | [] => 0
  | k :: r => max k.tall (Nd.talls r)
end
theorem Nd.count_pos (n : Nd) : 0 < n.count := by
  obtain ⟨l, a, ks⟩ := n
  rw [Nd.count]; omega
theorem Nd.counts_get (ks : List Nd) (i : Nat) (h : i < ks.length) : (ks[i]).count ≤ Nd.counts ks := by
  induction ks generalizing i with
  | nil => simp at h
  | cons k r ih =>
    rw [Nd.counts]
    cases i with
    | zero => simp
    | succ j =>
      have := ih j (by simpa using h)
      simp only [List.getElem_cons_succ]
      omega
theorem Nd.talls_get (ks : List Nd) (i : Nat) (h : i < ks.length) : (ks[i]).tall ≤ Nd.talls ks := by
  induction ks generalizing i with
  | nil => simp at h
  | cons k r ih =>
    rw [Nd.talls]
    cases i with
    | zero => simp; omega
    | succ j =>
      have := ih j (by simpa using h)
      simp only [List.getElem_cons_succ]
      omega
end Go.Proofs.YthehpmffkkogpaaGreatDoor
