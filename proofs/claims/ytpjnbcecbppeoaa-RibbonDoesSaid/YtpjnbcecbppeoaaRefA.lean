/- The document's ribbon: its state and what lies in memory; Off. Condition: what stands in RS.ok. -/
import Derived.Test.YtpjnbcecbppeoaaWalkH
import Derived.Deep.RegionHeld3
import Derived.Deep.RegionLaw
import Derived.Deep.QuietTactic
import Derived.BigQuiet
namespace Go.Proofs.Ytpjnbcecbppeoaa
set_option linter.unusedVariables false
open Go.ChangeShapes Go.WideShapes Go.ChangeAt Go.RowKit
theorem wp_append_any {o : Oper} {a : Act} {K : Act → World → Prop} {Q : Exit → Act → World → Prop} (w : World) (s x : Operand)
    (ho : o.op = .call { callee := .builtin .append, args := #[s, x], argTypes := #[22, 22] }) (base g cap : Nat) (xs ys : List UInt8)
    (hs : a.eval s = .slice (some ⟨g, 0, none⟩) xs.length cap) (hown : Own w base (.slice (some ⟨g, 0, none⟩) xs.length cap) xs) (u : Value) (hx : a.eval x = u) (hsrc : Src w u ys)
    (hl : xs.length + ys.length ≤ 1048576) (hbase : base ≤ w.heap.size)
    (h : ∀ g' cap' w', Own w' base (.slice (some ⟨g', 0, none⟩) (xs ++ ys).length cap') (xs ++ ys) → Chg (fun k => k = g) w w' → K (a.put o.dst (.slice (some ⟨g', 0, none⟩) (xs ++ ys).length cap')) w') :
    o.wp Try.prog a w K Q := by
  obtain ⟨i0, hi, hz0, hz1, hz2⟩ := info_parts info5
  rcases hsrc with ⟨rfl, rfl⟩ | ⟨ad, c, rfl, q1, q2, q3⟩
  · have hrun := run_append_owned_none (P := Try.prog) (w := w) base 22 o.type 5 i0 1 Try.underlying22 hi _ _ _ hown
    have h2 := h g cap w (by simpa using hown) (Chg.refl _ _)
    simp only [List.append_nil] at h2
    unfold Oper.wp execOp
    simp only [ho, resolve, invoke, builtin, Sem.run_bind, Sem.run_pure, Result.andThen_ok, List.map_toArray, List.map_cons, List.map_nil, hs, hx, hrun]
    exact h2
  · refine wp_append_own w s x 22 ho base 5 i0 (.int .u8 0) 1 1 Try.underlying22 hi hz0 hz1 hz2 rfl (by decide) _ _ _ hs hown ad ys.length c (bytesV ys) hx (by rw [bytesV_len]; omega) (fun j u hj => ?_) (bytesV_one ys) (by unfold maxLen; omega) (by omega) hbase ?_
    · obtain ⟨hj', rfl⟩ := bytesV_at ys j u hj
      exact q3 j hj'
    · intro v' w' hown' hgr hnil
      rw [← bytesV_append, ← List.length_append] at hown'
      have hc : Chg (fun k => k = g) w w' := (Chg.refl _ w).grown hgr (by intro k hk; simp [Value.ownBlock] at hk; exact .inl hk.symm)
      rcases hown'.2 with ⟨x, hz⟩ | ⟨g', cp, cur, x, r⟩
      · have := (hnil.1 x).1
        simp at this
      · subst x
        exact h g' cp w' hown' hc
theorem list_append_any {ops : Array Oper} {rest : List Oper} {o : Oper} {a : Act} {Q : Exit → Act → World → Prop} (hgd : o.guard = none) (w : World) (s x : Operand)
    (ho : o.op = .call { callee := .builtin .append, args := #[s, x], argTypes := #[22, 22] }) (base g cap : Nat) (xs ys : List UInt8)
    (hs : a.eval s = .slice (some ⟨g, 0, none⟩) xs.length cap) (hown : Own w base (.slice (some ⟨g, 0, none⟩) xs.length cap) xs) (u : Value) (hx : a.eval x = u) (hsrc : Src w u ys)
    (hl : xs.length + ys.length ≤ 1048576) (hbase : base ≤ w.heap.size)
    (h : ∀ g' cap' w', Own w' base (.slice (some ⟨g', 0, none⟩) (xs ++ ys).length cap') (xs ++ ys) → Chg (fun k => k = g) w w' → wpList Try.prog ops Q rest (a.put o.dst (.slice (some ⟨g', 0, none⟩) (xs ++ ys).length cap')) w') :
    wpList Try.prog ops Q (o :: rest) a w :=
  wpList_plain hgd fun _ hK => wp_append_any w s x ho base g cap xs ys hs hown u hx hsrc hl hbase fun g' c' w' h1 h2 => hK _ _ (h g' c' w' h1 h2)
theorem step_append_any {ops : Array Oper} {o : Oper} {a : Act} {K : Act → World → Prop} {Q : Exit → Act → World → Prop} {E : Prop} (hgd : o.guard = none) (w : World) (s x : Operand)
    (ho : o.op = .call { callee := .builtin .append, args := #[s, x], argTypes := #[22, 22] }) (base g cap : Nat) (xs ys : List UInt8)
    (hs : a.eval s = .slice (some ⟨g, 0, none⟩) xs.length cap) (hown : Own w base (.slice (some ⟨g, 0, none⟩) xs.length cap) xs) (u : Value) (hx : a.eval x = u) (hsrc : Src w u ys)
    (hl : xs.length + ys.length ≤ 1048576) (hbase : base ≤ w.heap.size)
    (h : ∀ g' cap' w', Own w' base (.slice (some ⟨g', 0, none⟩) (xs ++ ys).length cap') (xs ++ ys) → Chg (fun k => k = g) w w' → K (a.put o.dst (.slice (some ⟨g', 0, none⟩) (xs ++ ys).length cap')) w') :
    if Region.wanted o (yielded ops a.tmps) = true then Oper.wp Try.prog o a w K Q else E := by
  have hw : Region.wanted o (yielded ops a.tmps) = true := by simp [Region.wanted, hgd]
  rw [if_pos hw]
  exact wp_append_any w s x ho base g cap xs ys hs hown u hx hsrc hl hbase h
theorem own_empty (w : World) : Own (w.alloc (.cells #[] 5)) w.heap.size (.slice (some ⟨w.heap.size, 0, none⟩) 0 0) [] := World.ownsRow_lit w #[] 0 (Nat.le_refl _) (by decide) rfl
theorem Chg.cell {S : Nat → Prop} {w w' : World} (h : Chg S w w') {p : Addr} {u : Value} (hp : w.cell? p = some u) (hs : ¬ S p.block) : w'.cell? p = some u := by
  rw [← hp]
  exact World.cell?_of_block (h.block _ (World.block_lt_of_cell? w p hp) hs)
/- the document's ribbon at block b, whose blocks are among R -/
def Mb (w : World) (b : Nat) (R : Nat → Prop) (s : RS) : Prop :=
  s.ok ∧ R b ∧ ∃ ad cap, w.heap[b]? = some (.cells #[.slice ad s.xs.length cap, .int .i64 s.safe, .bool (!s.down), .int .i64 s.acts, .int .i64 s.armed, .int .i64 s.keep] 38 (0, 0)) ∧
    Own w 0 (.slice ad s.xs.length cap) s.xs ∧ ∀ k, (Value.slice ad s.xs.length cap).ownBlock = some k → R k ∧ k ≠ b
theorem Mb.chg {w w' : World} {b : Nat} {R S : Nat → Prop} {s : RS} (h : Mb w b R s) (hc : Chg S w w') (hS : ∀ k, R k → ¬ S k) : Mb w' b R s := by
  obtain ⟨h0, h1, ad, cap, h2, h3, h4⟩ := h
  exact ⟨h0, h1, ad, cap, by rw [hc.block b (lt_of_block h2) (hS b h1)]; exact h2, h3.chg hc fun k hk => hS k (h4 k hk).1, h4⟩
theorem mb_mk (w : World) (b : Nat) (R : Nat → Prop) (ad : Option Addr) (cap n safe : Nat) (down up : Bool) (acts armed : Nat) (keep : Int) (xs : List UInt8) (hl : xs.length = n) (hd : up = !down)
    (hh : w.heap[b]? = some (.cells #[.slice ad n cap, .int .i64 (safe : Int), .bool up, .int .i64 (acts : Int), .int .i64 (armed : Int), .int .i64 keep] 38 (0, 0)))
    (ho : Own w 0 (.slice ad n cap) xs) (hb : ∀ k, (Value.slice ad n cap).ownBlock = some k → R k ∧ k ≠ b) (h1 : R b) (hok : RS.ok ⟨xs, safe, down, acts, armed, keep⟩) :
    Mb w b R ⟨xs, safe, down, acts, armed, keep⟩ := by
  subst hl; subst hd
  exact ⟨hok, h1, ad, cap, hh, ho, hb⟩
def MDid (b : Nat) (R : Nat → Prop) (s : RS) (v : Value) (w : World) (e : Ending) (w' : World) : Prop := e = .returned v ∧ ∃ R', Mb w' b R' s ∧ Went R R' w w'
def RS.moff (s : RS) (k : Int) : RS :=
  if s.down then s else
    let n := s.safe + min k.toNat (s.xs.length - s.safe)
    { xs := s.xs.take n, safe := n, down := true, acts := s.acts, armed := 0, keep := s.keep }
/- behind a store of a new slice into the first cell -/
theorem m_new (w w1 : World) (b : Nat) (R : Nat → Prop) (x0 x1 x2 x3 x4 x5 : Value) (t : TypeId) (ad : Option Addr) (n cap : Nat) (zs : List UInt8) (hrow : w.heap[b]? = some (.cells #[x0, x1, x2, x3, x4, x5] t (0, 0)))
    (hc : Chg NoB w w1) (ho : Own w1 w.heap.size (.slice ad n cap) zs) (h1 : R b) :
    (w1.setCell ⟨b, 0, none⟩ (.slice ad n cap)).heap[b]? = some (.cells #[.slice ad n cap, x1, x2, x3, x4, x5] t (0, 0)) ∧ Own (w1.setCell ⟨b, 0, none⟩ (.slice ad n cap)) 0 (.slice ad n cap) zs ∧
    Went R (fun k => R k ∨ (w.heap.size ≤ k ∧ k < w1.heap.size)) w (w1.setCell ⟨b, 0, none⟩ (.slice ad n cap)) ∧ (w1.setCell ⟨b, 0, none⟩ (.slice ad n cap)).heap.size = w1.heap.size ∧
    (∀ k, (Value.slice ad n cap).ownBlock = some k → (R k ∨ (w.heap.size ≤ k ∧ k < w1.heap.size)) ∧ k ≠ b) := by
  have hlt := lt_of_block hrow
  have hrow1 : w1.heap[b]? = some (.cells #[x0, x1, x2, x3, x4, x5] t (0, 0)) := (hc.block b hlt id).trans hrow
  have hl := ho.lt
  have hsz : (w1.setCell ⟨b, 0, none⟩ (.slice ad n cap)).heap.size = w1.heap.size := by simp [World.setCell]
  have hcb : Chg (fun k => k = b) w1 (w1.setCell ⟨b, 0, none⟩ (.slice ad n cap)) := setB _ (Chg.refl _ w1)
  refine ⟨set_0 hrow1 _, (Own.base0 ho).chg hcb (fun k hk e => by have := (hl k hk).1; omega), ⟨?_, ?_, fun k hk => .inl hk⟩, hsz, fun k hk => ⟨.inr ⟨(hl k hk).1, (hl k hk).2⟩, by have := (hl k hk).1; omega⟩⟩
  · exact (hc.mono fun k _ hk => hk.elim).trans (hcb.mono fun k _ hk => by rw [hk]; exact h1)
  · intro k hk
    rcases hk with hk | hk
    · exact .inl hk
    · exact .inr ⟨hk.1, by rw [hsz]; exact hk.2⟩
theorem Went.more {R R' : Nat → Prop} {a b c : World} (h : Went R R' a b) (g : Chg R' b c) : Went R R' a c := h.trans (Went.same g)
theorem src_take {w : World} {base : Nat} {ad : Option Addr} {cap : Nat} {xs : List UInt8} (h : Own w base (.slice ad xs.length cap) xs) (n : Nat) (hn : n ≤ xs.length) : Src w (.slice ad n cap) (xs.take n) := by
  have := (h.take n hn).src
  exact this
theorem step_append_nil {ops : Array Oper} {o : Oper} {a : Act} {K : Act → World → Prop} {Q : Exit → Act → World → Prop} {E : Prop} (hgd : o.guard = none) (w : World) (s x : Operand)
    (ho : o.op = .call { callee := .builtin .append, args := #[s, x], argTypes := #[22, 22] }) (base g cap : Nat) (ys : List UInt8)
    (hs : a.eval s = .slice (some ⟨g, 0, none⟩) 0 cap) (hown : Own w base (.slice (some ⟨g, 0, none⟩) 0 cap) []) (u : Value) (hx : a.eval x = u) (hsrc : Src w u ys)
    (hl : ys.length ≤ 1048576) (hbase : base ≤ w.heap.size)
    (h : ∀ g' cap' w', Own w' base (.slice (some ⟨g', 0, none⟩) ys.length cap') ys → Chg (fun k => k = g) w w' → K (a.put o.dst (.slice (some ⟨g', 0, none⟩) ys.length cap')) w') :
    if Region.wanted o (yielded ops a.tmps) = true then Oper.wp Try.prog o a w K Q else E :=
  step_append_any hgd w s x ho base g cap [] ys hs hown u hx hsrc (by simpa using hl) hbase h
theorem Chg.frozen {S : Nat → Prop} {w w' : World} (h : Chg S w w') {p : Addr} {u : Value} (hp : w.cell? p = some u) (hs : ¬ S p.block) (hf : w.frozen? p = false) : w'.frozen? p = false := by
  have hb := h.block _ (World.block_lt_of_cell? w p hp) hs
  unfold World.frozen? at hf ⊢
  rw [hb]
  exact hf
theorem mst (w w1 : World) (b : Nat) (R : Nat → Prop) (n m : Nat) (ad : Option Addr) (cap : Nat) (xs : List UInt8) (x1 x2 x3 x4 x5 : Value) (t : TypeId)
    (h2 : w.heap[b]? = some (.cells #[.slice ad xs.length cap, x1, x2, x3, x4, x5] t (0, 0))) (h3 : Own w 0 (.slice ad xs.length cap) xs) (h4 : ∀ k, (Value.slice ad xs.length cap).ownBlock = some k → R k ∧ k ≠ b)
    (e : w1 = (w.drewN n).setCell ⟨b, 1, none⟩ (.int .i64 (m : Int))) (hm : m ≤ xs.length) :
    Chg (fun k => k = b) w w1 ∧ w1.heap[b]? = some (.cells #[.slice ad xs.length cap, .int .i64 (m : Int), x2, x3, x4, x5] t (0, 0)) ∧ Src w1 (.slice ad m cap) (xs.take m) := by
  have hc : Chg (fun k => k = b) w w1 := by rw [e]; exact setB _ ((Chg.refl _ w).drewN n)
  refine ⟨hc, ?_, ?_⟩
  · rw [e]
    exact set_1 (w := w.drewN n) h2 _
  · have := (h3.take m hm).chg hc fun k hk => ?_
    · exact this.src
    · cases ad with
      | none => simp [Value.ownBlock] at hk
      | some a => exact (h4 k hk).2
theorem row_kept {S : Nat → Prop} {w w' : World} {b : Nat} {x : Obj} (h : Chg S w w') (hb : w.heap[b]? = some x) (hs : ¬ S b) : w'.heap[b]? = some x := (h.block b (lt_of_block hb) hs).trans hb
theorem row_cells {w : World} {b : Nat} {x0 x1 x2 x3 x4 x5 : Value} {t : TypeId} (h : w.heap[b]? = some (.cells #[x0, x1, x2, x3, x4, x5] t (0, 0))) :
    w.cell? ⟨b, 0, none⟩ = some x0 ∧ w.cell? ⟨b, 1, none⟩ = some x1 ∧ w.cell? ⟨b, 2, none⟩ = some x2 ∧ w.cell? ⟨b, 3, none⟩ = some x3 ∧ w.cell? ⟨b, 4, none⟩ = some x4 ∧ w.cell? ⟨b, 5, none⟩ = some x5 ∧ ∀ i, w.frozen? ⟨b, i, none⟩ = false := by
  have c := fun i => cell_of_row w b i _ t (0, 0) h
  exact ⟨by rw [c 0]; rfl, by rw [c 1]; rfl, by rw [c 2]; rfl, by rw [c 3]; rfl, by rw [c 4]; rfl, by rw [c 5]; rfl, fz h⟩
theorem moff_end (b : Nat) (R : Nat → Prop) (s : RS) (k : Int) (m g cap cp : Nat) (ad : Option Addr) (ys : List UInt8) (w w1 wal w2 W : World) (hd : s.down = false) (hm : m = s.safe + min k.toNat (s.xs.length - s.safe)) (h1 : R b) (hok : s.ok)
    (hc1 : Chg (fun k => k = b) w w1) (hys : ys = s.xs.take m)
    (hrow1 : w1.heap[b]? = some (.cells #[.slice ad s.xs.length cap, .int .i64 (m : Int), .bool (!s.down), .int .i64 s.acts, .int .i64 s.armed, .int .i64 s.keep] 38 (0, 0)))
    (hal : Chg NoB w1 wal) (hcg : Chg (fun k => k = w1.heap.size) wal w2) (hown : Own w2 w1.heap.size (.slice (some ⟨g, 0, none⟩) ys.length cp) ys)
    (hW : Chg NoB (((w2.setCell ⟨b, 0, none⟩ (.slice (some ⟨g, 0, none⟩) ys.length cp)).setCell ⟨b, 2, none⟩ (.bool false)).setCell ⟨b, 4, none⟩ (.int .i64 0)) W) :
    MDid b R (s.moff k) (.tuple #[]) w (.returned (.tuple #[])) W := by
  obtain ⟨o1, o2, o3, o4⟩ := hok
  have hs : s.moff k = { xs := s.xs.take m, safe := m, down := true, acts := s.acts, armed := 0, keep := s.keep } := by
    unfold RS.moff; rw [hd]; simp [← hm]
  have hl : ys.length = m := by rw [hys, List.length_take]; omega
  have hc12 : Chg NoB w1 w2 := Chg.above hal hcg fun k hk => by rw [hk]; exact Nat.le_refl _
  obtain ⟨r0, ow0, wt0, sz0, bl0⟩ := m_new w1 w2 b R _ _ _ _ _ _ _ (some ⟨g, 0, none⟩) ys.length cp ys hrow1 hc12 hown h1
  have r4 := set_4 (set_2 r0 (.bool false)) (.int .i64 0)
  have hcb : Chg (fun k => k = b) (w2.setCell ⟨b, 0, none⟩ (.slice (some ⟨g, 0, none⟩) ys.length cp)) (((w2.setCell ⟨b, 0, none⟩ (.slice (some ⟨g, 0, none⟩) ys.length cp)).setCell ⟨b, 2, none⟩ (.bool false)).setCell ⟨b, 4, none⟩ (.int .i64 0)) :=
    setB _ (setB _ (Chg.refl _ _))
  have r5 := row_kept hW r4 id
  have ow5 := (ow0.chg hcb fun k hk => (bl0 k hk).2).chg hW fun _ _ => id
  refine ⟨rfl, fun k => R k ∨ (w1.heap.size ≤ k ∧ k < w2.heap.size), ?_, ?_⟩
  · rw [hs]
    refine mb_mk _ _ _ _ _ _ _ _ _ _ _ _ _ ?_ rfl (by rw [← hl]; rw [hl] at r5 ⊢; exact r5) (by rw [← hys]; exact ow5) bl0 (.inl h1) ⟨?_, ?_, o3, by show 0 ≤ _; omega⟩
    · rw [← hys]
    · show m ≤ (s.xs.take m).length; rw [← hys]; omega
    · show (s.xs.take m).length ≤ _; rw [← hys]; omega
  · have hwt : Went R R w w1 := Went.same (hc1.mono fun k _ hk => by rw [hk]; exact h1)
    exact ((hwt.trans wt0).more (hcb.mono fun k _ hk => by rw [hk]; exact .inl h1)).more (hW.mono fun k _ hk => hk.elim)
end Go.Proofs.Ytpjnbcecbppeoaa
