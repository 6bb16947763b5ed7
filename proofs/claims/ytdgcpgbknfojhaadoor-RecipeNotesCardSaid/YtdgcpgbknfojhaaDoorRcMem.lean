/- An expression in memory, by value and in cells; a row of expressions that is appended to. No condition. -/
import Derived.Test.YtdgcpgbknfojhaaDoorRcMath

namespace Go.Proofs.YtdgcpgbknfojhaaDoor
set_option linter.unusedVariables false
open Go.ChangeShapes Go.WideShapes Go.ChangeAt Go.RowKit
/- a node's three cells at block b, from the o-th on; its nodes lie in a row of their own; all blocks are among S -/
inductive ExC (w : World) (S : Nat → Prop) : Nat → Nat → ExL → Prop
  | mk (b o : Nat) (l : Int) (a : List UInt8) (ks : List ExL) (q : Option Addr) (c kb ko : Nat)
      (c0 : w.cell? ⟨b, o, none⟩ = some (.int .i64 l)) (c1 : w.cell? ⟨b, o + 1, none⟩ = some (.string (tx a))) (c2 : w.cell? ⟨b, o + 2, none⟩ = some (.slice q ks.length c))
      (hs : S b) (ha : a.length ≤ maxLen) (hc : ks.length ≤ c) (hm : c ≤ maxLen) (hq : ks ≠ [] → q = some ⟨kb, ko, none⟩) (hk : ∀ i (hi : i < ks.length), ExC w S kb (ko + i * 3) ks[i]) : ExC w S b o (.mk l a ks)
/- a slice of nodes -/
structure ExS (w : World) (S : Nat → Prop) (v : Value) (ks : List ExL) (kb ko : Nat) : Prop where
  sh : ∃ q c, v = .slice q ks.length c ∧ ks.length ≤ c ∧ c ≤ maxLen ∧ (ks ≠ [] → q = some ⟨kb, ko, none⟩)
  at' : ∀ i (hi : i < ks.length), ExC w S kb (ko + i * 3) ks[i]
/- a node by value -/
def ExV (w : World) (S : Nat → Prop) (v : Value) (n : ExL) : Prop := n.s.length ≤ maxLen ∧ ∃ s kb ko, v = .agg #[.int .i64 n.kind, .string (tx n.s), s] ∧ ExS w S s n.kids kb ko
theorem ExC.keep {w w' : World} {S T : Nat → Prop} (hc : Chg T w w') (hST : ∀ k, S k → ¬ T k) {b o : Nat} {n : ExL} (h : ExC w S b o n) : ExC w' S b o n := by
  induction h with
  | mk b o l a ks q c kb ko c0 c1 c2 hs ha h1 h2 hq hk ih => exact .mk b o l a ks q c kb ko (hc.cell c0 (hST b hs)) (hc.cell c1 (hST b hs)) (hc.cell c2 (hST b hs)) hs ha h1 h2 hq ih
theorem ExS.keep {w w' : World} {S T : Nat → Prop} (hc : Chg T w w') (hST : ∀ k, S k → ¬ T k) {v : Value} {ks : List ExL} {kb ko : Nat} (h : ExS w S v ks kb ko) : ExS w' S v ks kb ko := ⟨h.sh, fun i hi => (h.at' i hi).keep hc hST⟩
theorem ExV.keep {w w' : World} {S T : Nat → Prop} (hc : Chg T w w') (hST : ∀ k, S k → ¬ T k) {v : Value} {n : ExL} (h : ExV w S v n) : ExV w' S v n := by
  obtain ⟨ha, s, kb, ko, e, hs⟩ := h
  exact ⟨ha, s, kb, ko, e, hs.keep hc hST⟩
theorem ExC.mono {w : World} {S T : Nat → Prop} (hST : ∀ k, S k → T k) {b o : Nat} {n : ExL} (h : ExC w S b o n) : ExC w T b o n := by
  induction h with
  | mk b o l a ks q c kb ko c0 c1 c2 hs ha h1 h2 hq hk ih => exact .mk b o l a ks q c kb ko c0 c1 c2 (hST b hs) ha h1 h2 hq ih
theorem ExS.mono {w : World} {S T : Nat → Prop} (hST : ∀ k, S k → T k) {v : Value} {ks : List ExL} {kb ko : Nat} (h : ExS w S v ks kb ko) : ExS w T v ks kb ko := ⟨h.sh, fun i hi => (h.at' i hi).mono hST⟩
/- in cells and by value -/
theorem ExC.cells {w : World} {S : Nat → Prop} {b o : Nat} {n : ExL} (h : ExC w S b o n) : S b ∧ n.s.length ≤ maxLen ∧ ∃ s kb ko, w.cell? ⟨b, o, none⟩ = some (.int .i64 n.kind) ∧ w.cell? ⟨b, o + 1, none⟩ = some (.string (tx n.s)) ∧ w.cell? ⟨b, o + 2, none⟩ = some s ∧ ExS w S s n.kids kb ko := by
  cases h with
  | mk _ _ l a ks q c kb ko c0 c1 c2 hs ha h1 h2 hq hk => exact ⟨hs, ha, _, kb, ko, c0, c1, c2, ⟨q, c, rfl, h1, h2, hq⟩, hk⟩
theorem ExC.of {w : World} {S : Nat → Prop} {b o : Nat} {n : ExL} {s : Value} {kb ko : Nat} (hb : S b) (ha : n.s.length ≤ maxLen) (c0 : w.cell? ⟨b, o, none⟩ = some (.int .i64 n.kind)) (c1 : w.cell? ⟨b, o + 1, none⟩ = some (.string (tx n.s))) (c2 : w.cell? ⟨b, o + 2, none⟩ = some s) (hs : ExS w S s n.kids kb ko) : ExC w S b o n := by
  obtain ⟨l, a, ks⟩ := n
  obtain ⟨⟨q, c, rfl, h1, h2, h3⟩, hk⟩ := hs
  exact .mk b o l a ks q c kb ko c0 c1 c2 hb ha h1 h2 h3 hk
theorem ExS.nil (w : World) (S : Nat → Prop) : ExS w S (.slice none 0 0) [] 0 0 := ⟨⟨none, 0, rfl, Nat.le_refl _, Nat.zero_le _, fun h => absurd rfl h⟩, fun i hi => by simp at hi⟩
/- how many nodes, how tall -/
mutual
def ExL.count : ExL → Nat
  | .mk _ a ks => 1 + a.length + ExL.counts ks
def ExL.counts : List ExL → Nat
  | [] => 0
  | k :: r => k.count + ExL.counts r
end
mutual
def ExL.tall : ExL → Nat
  | .mk _ _ ks => 1 + ExL.talls ks
def ExL.talls : List ExL → Nat
  | [] => 0
  | k :: r => max k.tall (ExL.talls r)
end
theorem ExL.count_pos (n : ExL) : 0 < n.count := by
  obtain ⟨l, a, ks⟩ := n
  rw [ExL.count]; omega
theorem ExL.counts_get (ks : List ExL) (i : Nat) (h : i < ks.length) : (ks[i]).count ≤ ExL.counts ks := by
  induction ks generalizing i with
  | nil => simp at h
  | cons k r ih =>
    rw [ExL.counts]
    cases i with
    | zero => simp
    | succ j =>
      have := ih j (by simpa using h)
      simp only [List.getElem_cons_succ]
      omega
theorem ExL.talls_get (ks : List ExL) (i : Nat) (h : i < ks.length) : (ks[i]).tall ≤ ExL.talls ks := by
  induction ks generalizing i with
  | nil => simp at h
  | cons k r ih =>
    rw [ExL.talls]
    cases i with
    | zero => simp; omega
    | succ j =>
      have := ih j (by simpa using h)
      simp only [List.getElem_cons_succ]
      omega
theorem ExV.mono {w : World} {S T : Nat → Prop} (hST : ∀ k, S k → T k) {v : Value} {n : ExL} (h : ExV w S v n) : ExV w T v n := by
  obtain ⟨ha, s, kb, ko, e, hs⟩ := h
  exact ⟨ha, s, kb, ko, e, hs.mono hST⟩
def ExR (w : World) (S : Nat → Prop) : List ExL → List Value → Prop
  | [], [] => True
  | n :: ns, a :: b :: c :: vs => (a = .int .i64 n.kind ∧ b = .string (tx n.s) ∧ n.s.length ≤ maxLen ∧ ∃ kb ko, ExS w S c n.kids kb ko) ∧ ExR w S ns vs
  | _, _ => False
theorem ExR.keep {w w' : World} {S S' T : Nat → Prop} (hc : Chg T w w') (hST : ∀ k, S k → ¬ T k) (hS : ∀ k, S k → S' k) : ∀ {ns : List ExL} {vs : List Value}, ExR w S ns vs → ExR w' S' ns vs
  | [], [], _ => trivial
  | n :: ns, a :: b :: c :: vs, ⟨⟨h1, h2, h3, kb, ko, h4⟩, h5⟩ => ⟨⟨h1, h2, h3, kb, ko, (h4.keep hc hST).mono hS⟩, ExR.keep hc hST hS h5⟩
  | [], _ :: _, h => h.elim
  | _ :: _, [], h => h.elim
  | _ :: _, [_], h => h.elim
  | _ :: _, [_, _], h => h.elim
theorem ExR.snoc {w : World} {S : Nat → Prop} {n : ExL} {s : Value} (ha : n.s.length ≤ maxLen) {kb ko : Nat} (hs : ExS w S s n.kids kb ko) : ∀ {ns : List ExL} {vs : List Value}, ExR w S ns vs → ExR w S (ns ++ [n]) (vs ++ [.int .i64 n.kind, .string (tx n.s), s])
  | [], [], _ => ⟨⟨rfl, rfl, ha, kb, ko, hs⟩, trivial⟩
  | m :: ns, a :: b :: c :: vs, ⟨h1, h5⟩ => ⟨h1, ExR.snoc ha hs h5⟩
  | [], _ :: _, h => h.elim
  | _ :: _, [], h => h.elim
  | _ :: _, [_], h => h.elim
  | _ :: _, [_, _], h => h.elim
theorem ExR.len {w : World} {S : Nat → Prop} : ∀ {ns : List ExL} {vs : List Value}, ExR w S ns vs → vs.length = ns.length * 3
  | [], [], _ => rfl
  | n :: ns, a :: b :: c :: vs, ⟨_, h5⟩ => by
    have := ExR.len h5
    simp only [List.length_cons]
    omega
  | [], _ :: _, h => h.elim
  | _ :: _, [], h => h.elim
  | _ :: _, [_], h => h.elim
  | _ :: _, [_, _], h => h.elim
theorem ExR.at' {w : World} {S : Nat → Prop} : ∀ {ns : List ExL} {vs : List Value}, ExR w S ns vs → ∀ (i : Nat) (hi : i < ns.length), ∃ c, vs[i * 3]? = some (.int .i64 ns[i].kind) ∧ vs[i * 3 + 1]? = some (.string (tx ns[i].s)) ∧ vs[i * 3 + 2]? = some c ∧ ns[i].s.length ≤ maxLen ∧ ∃ kb ko, ExS w S c ns[i].kids kb ko
  | [], [], _, i, hi => by simp at hi
  | n :: ns, a :: b :: c :: vs, ⟨⟨h1, h2, h3, kb, ko, h4⟩, h5⟩, i, hi => by
    cases i with
    | zero => exact ⟨c, by simp [h1], by simp [h2], by simp, h3, kb, ko, h4⟩
    | succ j =>
      obtain ⟨d, g1, g2, g3, g4⟩ := ExR.at' h5 j (by simpa using hi)
      have e1 : (j + 1) * 3 = j * 3 + 3 := by omega
      refine ⟨d, ?_, ?_, ?_, g4⟩
      · rw [e1]; simpa using g1
      · rw [e1]; simpa using g2
      · rw [e1]; simpa using g3
  | [], _ :: _, h, _, _ => h.elim
  | _ :: _, [], h, _, _ => h.elim
  | _ :: _, [_], h, _, _ => h.elim
  | _ :: _, [_, _], h, _, _ => h.elim
def EbS (lo : Nat) (v : Value) (w : World) : Nat → Prop := fun x => (lo ≤ x ∧ x < w.heap.size) ∧ v.ownBlock ≠ some x
def Eb (w : World) (lo : Nat) (v : Value) (acc : List ExL) : Prop := lo ≤ w.heap.size ∧ ∃ xs, w.ownsRow lo 26 3 v acc.length xs ∧ ExR w (EbS lo v w) acc xs
theorem Eb.nil (w : World) (lo : Nat) (h : lo ≤ w.heap.size) : Eb w lo (.slice none 0 0) [] := ⟨h, [], World.ownsRow_nil _ _ _ _, trivial⟩
theorem Eb.keep {w w' : World} {lo : Nat} {v : Value} {acc : List ExL} {T : Nat → Prop} (h : Eb w lo v acc) (hc : Chg T w w') (hT : ∀ k, k < w.heap.size → lo ≤ k → ¬ T k) : Eb w' lo v acc := by
  obtain ⟨hl, xs, h1, h2⟩ := h
  refine ⟨Nat.le_trans hl hc.size, xs, ownsRow_chg h1 hc fun k hk => hT k (h1.lt k hk).2 (h1.lt k hk).1, h2.keep hc (fun k hk => hT k hk.1.2 hk.1.1) fun k hk => ⟨⟨hk.1.1, Nat.lt_of_lt_of_le hk.1.2 hc.size⟩, hk.2⟩⟩
theorem Eb.shape {w : World} {lo : Nat} {v : Value} {acc : List ExL} (h : Eb w lo v acc) : ∃ q cap, v = .slice q acc.length cap ∧ acc.length ≤ cap ∧ cap ≤ maxLen := by
  obtain ⟨_, xs, h1, _⟩ := h
  rcases h1.2 with ⟨rfl, h0⟩ | ⟨g, cap, cur, rfl, _, _, h3, h4, _⟩
  · exact ⟨none, 0, by rw [h0], by omega, by omega⟩
  · exact ⟨_, cap, rfl, h3, h4⟩
theorem Eb.nds {w : World} {lo : Nat} {v : Value} {acc : List ExL} (h : Eb w lo v acc) : ∃ kb ko, ExS w (fun x => lo ≤ x ∧ x < w.heap.size) v acc kb ko := by
  obtain ⟨_, xs, h1, h2⟩ := h
  have hlt := h1.lt
  rcases h1.2 with ⟨rfl, h0⟩ | ⟨g, cap, cur, rfl, hb, hh, h3, h4, _⟩
  · have : acc = [] := List.eq_nil_of_length_eq_zero h0
    subst this
    exact ⟨0, 0, ExS.nil _ _⟩
  · refine ⟨g, 0, ⟨⟨_, cap, rfl, h3, h4, fun _ => rfl⟩, fun i hi => ?_⟩⟩
    obtain ⟨c, g1, g2, g3, g4, kb, ko, g5⟩ := h2.at' i hi
    have hc := World.ownsRow.cells h1 (g := g) rfl
    rw [Nat.zero_add]
    refine ExC.of (hlt g rfl) g4 ?_ ?_ ?_ (g5.mono fun x hx => hx.1)
    · have := hc _ _ g1; rwa [add_zero_off] at this
    · have := hc _ _ g2; rwa [add_zero_off] at this
    · have := hc _ _ g3; rwa [add_zero_off] at this
theorem Eb.shape2 {w : World} {lo : Nat} {v : Value} {acc : List ExL} (h : Eb w lo v acc) : ∃ q n cap, v = .slice q n cap := by
  obtain ⟨q, cap, e, _⟩ := h.shape
  exact ⟨q, _, cap, e⟩
/- one kid more -/
theorem Eb.push {w w2 w' : World} {lo N : Nat} {v v' : Value} {acc : List ExL} {xs : List Value} {n : ExL} {s : Value} {kb ko : Nat} (hN : ∀ k, v.ownBlock = some k → k < N) (hl : lo ≤ N) (hlw : N ≤ w.heap.size) (h2 : ExR w (EbS lo v w) acc xs)
    (ha : n.s.length ≤ maxLen) (hs : ExS w (fun x => N ≤ x ∧ x < w.heap.size) s n.kids kb ko) (hc2 : Chg NoB w w2)
    (hown : w'.ownsRow lo 26 3 v' (acc.length + 1) (xs ++ [.int .i64 n.kind, .string (tx n.s), s])) (hg : w2.grownBy w' v.ownBlock) (hp : v'.ownBlock = v.ownBlock ∨ v'.ownBlock = some w2.heap.size) : Eb w' lo v' (acc ++ [n]) := by
  have z2 := hc2.size
  have z3 := hg.size
  have hgc : Chg (fun k => v.ownBlock = some k) w2 w' := (Chg.refl _ w2).grown hg fun k hk => .inl hk
  refine ⟨by omega, _, by rw [List.length_append]; exact hown, ?_⟩
  refine ExR.snoc (kb := kb) (ko := ko) ha ?_ ?_
  · refine ((hs.keep hc2 fun _ _ => id).keep hgc fun x hx hv => ?_).mono fun x hx => ⟨⟨by omega, by omega⟩, fun hv => ?_⟩
    · have := hN x hv; omega
    · rcases hp with hp | hp
      · rw [hp] at hv; have := hN x hv; omega
      · rw [hp] at hv; simp only [Option.some.injEq] at hv; omega
  · refine (h2.keep hc2 (fun _ _ => id) (S' := EbS lo v w) fun _ => id).keep hgc (fun x hx hv => hx.2 hv) fun x hx => ⟨⟨hx.1.1, by have := hx.1.2; omega⟩, fun hv => ?_⟩
    rcases hp with hp | hp
    · rw [hp] at hv; exact hx.2 hv
    · rw [hp] at hv; simp only [Option.some.injEq] at hv; have := hx.1.2; omega
theorem lit3 (w : World) (a b c : Value) (t : TypeId) : ∀ (j : Nat) (u : Value), [a, b, c][j]? = some u → (w.alloc (.cells #[a, b, c] t)).cell? ((⟨w.heap.size, 0, none⟩ : Addr).add j) = some u := by
  intro j u hj
  rw [add_zero_off, cell_of_row _ w.heap.size j _ t (0, 0) (heap_alloc_new w _), ← hj]
  simp
theorem one3 (a : Int) (b : List UInt8) (q : Option Addr) (n c : Nat) : ∀ u ∈ [Value.int .i64 a, .string (tx b), .slice q n c], u.oneCell' = true := by
  intro u hu
  simp only [List.mem_cons, List.not_mem_nil, or_false] at hu
  rcases hu with rfl | rfl | rfl <;> rfl
end Go.Proofs.YtdgcpgbknfojhaaDoor
