/- The document's machine: in lists, and in memory. No condition. -/
import Derived.Test.YthehpmffkkogpaaGreatDoorVqA
import Derived.Test.YthehpmffkkogpaaGreatDoorCdFind
namespace Go.Proofs.YthehpmffkkogpaaGreatDoor
set_option linter.unusedVariables false
open Go.ChangeShapes Go.WideShapes Go.ChangeAt Go.RowKit
structure RS where
  stack : List ValL
  loc : List ValL
  calls : List Int
  out : List FileL
  at' : Int
  steps : Nat
  halted : Bool
  fault : Int
def failS (y : Int) (s : RS) : RS := if s.fault = 0 then { s with fault := y } else s
def putS (v : ValL) (s : RS) : RS := if s.fault = 0 then (if s.stack.length = 64 then failS 40 s else { s with stack := s.stack ++ [v] }) else s
def badK (c : UInt8) (v : ValL) : Bool := (c == 110 && v.1) || (c == 116 && !v.1)
def anyBad (k : List UInt8) (l : List ValL) : Bool := (k.zip l).any fun x => badK x.1 x.2
def takeL (k : List UInt8) (s : RS) : List ValL := if s.stack.length < k.length then List.replicate k.length (numV 0) else s.stack.drop (s.stack.length - k.length)
def takeS (k : List UInt8) (s : RS) : RS := if s.stack.length < k.length then failS 40 s else
  { (if anyBad k (s.stack.drop (s.stack.length - k.length)) = true then failS 41 s else s) with stack := s.stack.take (s.stack.length - k.length) }
abbrev RF := Value × Value × Value
def Foot3 (F : RF) (k : Nat) : Prop := F.1.ownBlock = some k ∨ F.2.1.ownBlock = some k ∨ F.2.2.ownBlock = some k
structure RStep (sb : Nat) (F F' : RF) (w w' : World) : Prop where
  chg : Chg (fun k => k = sb ∨ Foot3 F k) w w'
  foot : ∀ k, Foot3 F' k → Foot3 F k ∨ w.heap.size ≤ k
theorem RStep.refl (sb : Nat) (F : RF) (w : World) : RStep sb F F w w := ⟨Chg.refl _ _, fun k h => .inl h⟩
theorem RStep.trans {sb : Nat} {F G H : RF} {a b c : World} (h : RStep sb F G a b) (g : RStep sb G H b c) : RStep sb F H a c :=
  ⟨h.chg.transR g.chg fun k hk e => by
    rcases e with e | e
    · exact .inl e
    · rcases h.foot k e with x | x
      · exact .inr x
      · omega, fun k e => by
    rcases g.foot k e with x | x
    · exact h.foot k x
    · exact .inr (Nat.le_trans h.chg.size x)⟩
theorem RStep.of_chg {sb : Nat} {F : RF} {w w' : World} (h : Chg NoB w w') : RStep sb F F w w' := ⟨h.mono fun k _ h => h.elim, fun k h => .inl h⟩
def refC (F : RF) (ov : Value) (s : RS) : Array Value := #[F.1, F.2.1, F.2.2, ov, .int .i64 s.at', .int .i64 (s.steps : Int), .bool s.halted, .int .i64 s.fault]
theorem up_lo {lo sb a b : Nat} (h : (lo ≤ sb ∧ sb < a) ∧ lo ≤ a) (hx : a ≤ b) : (lo ≤ sb ∧ sb < b) ∧ lo ≤ b := ⟨⟨h.1.1, Nat.lt_of_lt_of_le h.1.2 hx⟩, Nat.le_trans h.2 hx⟩
structure RefM (w : World) (lo sb : Nat) (s : RS) (F : RF) : Prop where
  row : ∃ oq oc kb ko, w.heap[sb]? = some (.cells (refC F (.slice oq s.out.length oc) s) 63 (0, 0)) ∧ InpS w (fun k => lo ≤ k ∧ k ≠ sb ∧ ¬ Foot3 F k) (.slice oq s.out.length oc) s.out kb ko
  st : w.ownsRow lo 68 3 F.1 s.stack.length (valsV s.stack)
  ce : w.ownsRow lo 68 3 F.2.1 16 (valsV s.loc)
  ca : w.ownsRow lo 3 1 F.2.2 s.calls.length (intsV s.calls)
  ap : (∀ k, F.1.ownBlock = some k → F.2.1.ownBlock ≠ some k ∧ F.2.2.ownBlock ≠ some k) ∧ ∀ k, F.2.1.ownBlock = some k → F.2.2.ownBlock ≠ some k
  lo : (lo ≤ sb ∧ sb < w.heap.size) ∧ lo ≤ w.heap.size
  loc : s.loc.length = 16
  ns : ¬ Foot3 F sb
theorem RefM.low {w : World} {lo sb : Nat} {s : RS} {F : Value × Value × Value} (hm : RefM w lo sb s F) : (∀ k, Foot3 F k → lo ≤ k ∧ k < w.heap.size) ∧ ¬ Foot3 F sb := by
  have h1 : ∀ k, Foot3 F k → lo ≤ k ∧ k < w.heap.size := fun k e => by
    rcases e with e | e | e
    · exact World.ownsRow.lt hm.st k e
    · exact World.ownsRow.lt hm.ce k e
    · exact World.ownsRow.lt hm.ca k e
  exact ⟨h1, hm.ns⟩
theorem RefM.keep {w : World} {lo sb : Nat} {s : RS} {F : Value × Value × Value} (hm : RefM w lo sb s F) {w' : World} (hc : Chg NoB w w') : RefM w' lo sb s F := by
  obtain ⟨oq, oc, kb, ko, h1, h2⟩ := hm.row
  exact ⟨⟨oq, oc, kb, ko, row_kept hc h1 id, h2.move hc fun k hk hs => ⟨id, hs⟩⟩, ownsRow_chg hm.st hc fun _ _ => id, ownsRow_chg hm.ce hc fun _ _ => id, ownsRow_chg hm.ca hc fun _ _ => id, hm.ap, up_lo hm.lo hc.size, hm.loc, hm.ns⟩
theorem RefM.cells {w : World} {lo sb : Nat} {s : RS} {F : Value × Value × Value} (hm : RefM w lo sb s F) : ∃ oq oc, w.cell? ⟨sb, 0, none⟩ = some F.1 ∧ w.cell? ⟨sb, 1, none⟩ = some F.2.1 ∧ w.cell? ⟨sb, 2, none⟩ = some F.2.2 ∧ w.cell? ⟨sb, 3, none⟩ = some (.slice oq s.out.length oc) ∧ w.cell? ⟨sb, 4, none⟩ = some (.int .i64 s.at') ∧ w.cell? ⟨sb, 5, none⟩ = some (.int .i64 (s.steps : Int)) ∧ w.cell? ⟨sb, 6, none⟩ = some (.bool s.halted) ∧ w.cell? ⟨sb, 7, none⟩ = some (.int .i64 s.fault) := by
  obtain ⟨oq, oc, kb, ko, h1, -⟩ := hm.row
  have c := fun i => cell_of_row w sb i _ _ (0, 0) h1
  exact ⟨oq, oc, by rw [c]; rfl, by rw [c]; rfl, by rw [c]; rfl, by rw [c]; rfl, by rw [c]; rfl, by rw [c]; rfl, by rw [c]; rfl, by rw [c]; rfl⟩
theorem RefM.free {w : World} {lo sb : Nat} {s : RS} {F : Value × Value × Value} (hm : RefM w lo sb s F) : ∀ j, w.frozen? ⟨sb, j, none⟩ = false := by
  obtain ⟨oq, oc, kb, ko, h1, -⟩ := hm.row
  exact row_free h1
/- a plain field is written over -/
theorem RefM.field {w : World} {lo sb : Nat} {s : RS} {F : Value × Value × Value} (hm : RefM w lo sb s F) (i : Nat) (u : Value) (s' : RS) (h1 : s'.stack = s.stack) (h2 : s'.loc = s.loc) (h3 : s'.calls = s.calls) (h4 : s'.out = s.out) (hw : ∀ ov, (refC F ov s).setIfInBounds i u = refC F ov s') :
    RefM (w.setCell ⟨sb, i, none⟩ u) lo sb s' F ∧ RStep sb F F w (w.setCell ⟨sb, i, none⟩ u) := by
  obtain ⟨oq, oc, kb, ko, hr, ho⟩ := hm.row
  have hs : Chg (fun k => k = sb) w (w.setCell ⟨sb, i, none⟩ u) := (Chg.refl (fun k => k = sb) w).setCell (p := ⟨sb, i, none⟩) (.inl rfl) _
  have hnm := hm.low.2
  have hset := heap_set hr (i := i) u
  rw [hw] at hset
  have hne : ∀ k, Foot3 F k → ¬ k = sb := fun k hk e => hnm (e ▸ hk)
  refine ⟨⟨⟨oq, oc, kb, ko, by rw [h4]; exact hset, by rw [h4]; exact ho.move hs fun k hk hs => ⟨hs.2.1, hs⟩⟩, by rw [h1]; exact ownsRow_chg hm.st hs fun k hk => hne k (.inl hk), by rw [h2]; exact ownsRow_chg hm.ce hs fun k hk => hne k (.inr (.inl hk)), by rw [h3]; exact ownsRow_chg hm.ca hs fun k hk => hne k (.inr (.inr hk)), hm.ap, up_lo hm.lo hs.size, by rw [h2]; exact hm.loc, hm.ns⟩, hs.mono fun k _ e => .inl e, fun k h => .inl h⟩
/- the stack is another one -/
theorem RefM.stack {w : World} {lo sb : Nat} {s : RS} {F : Value × Value × Value} (hm : RefM w lo sb s F) {w1 : World} {sv : Value} {l : List ValL} (hc : Chg (fun k => F.1.ownBlock = some k) w w1) (hr : w1.ownsRow lo 68 3 sv l.length (valsV l)) (hp : ∀ k, sv.ownBlock = some k → F.1.ownBlock = some k ∨ w.heap.size ≤ k) :
    RefM (w1.setCell ⟨sb, 0, none⟩ sv) lo sb { s with stack := l } (sv, F.2) ∧ RStep sb F (sv, F.2) w (w1.setCell ⟨sb, 0, none⟩ sv) := by
  obtain ⟨hlow, hnm⟩ := hm.low
  obtain ⟨oq, oc, kb, ko, h1, h3⟩ := hm.row
  have hmb := lt_of_block h1
  have h1' := row_kept hc h1 (fun e => hnm (.inl e))
  have hst : Chg (fun k => k = sb) w1 (w1.setCell ⟨sb, 0, none⟩ sv) := (Chg.refl (fun k => k = sb) w1).setCell (p := ⟨sb, 0, none⟩) (.inl rfl) _
  have hset : (w1.setCell ⟨sb, 0, none⟩ sv).heap[sb]? = some (.cells (refC (sv, F.2) (.slice oq s.out.length oc) { s with stack := l }) 63 (0, 0)) := heap_set h1' (i := 0) sv
  have hsvne : ∀ k, sv.ownBlock = some k → k ≠ sb := fun k hk e => by
    rcases hp k hk with x | x
    · exact hnm (e ▸ .inl x)
    · omega
  have hb1 : ∀ k, F.2.1.ownBlock = some k → ¬ F.1.ownBlock = some k := fun k hk e => (hm.ap.1 k e).1 hk
  have hb2 : ∀ k, F.2.2.ownBlock = some k → ¬ F.1.ownBlock = some k := fun k hk e => (hm.ap.1 k e).2 hk
  refine ⟨⟨⟨oq, oc, kb, ko, hset, ?_⟩, ?_, ?_, ?_, ⟨fun k hk => ?_, hm.ap.2⟩, up_lo hm.lo (Nat.le_trans hc.size hst.size), hm.loc, fun e => e.elim (fun e => hsvne sb e rfl) fun e => hnm (.inr e)⟩, ⟨?_, fun k hk => ?_⟩⟩
  · refine (h3.move hc (S' := fun k => lo ≤ k ∧ k ≠ sb ∧ ¬ Foot3 (sv, F.2) k) fun k hk hs => ⟨fun e => hs.2.2 (.inl e), hs.1, hs.2.1, fun e => ?_⟩).move hst fun k hk hs => ⟨hs.2.1, hs⟩
    rcases e with e | e
    · rcases hp k e with x | x
      · exact hs.2.2 (.inl x)
      · omega
    · exact hs.2.2 (.inr e)
  · exact ownsRow_chg hr hst fun k hk e => hsvne k hk e
  · exact ownsRow_chg (ownsRow_chg hm.ce hc hb1) hst fun k hk e => hnm (e ▸ .inr (.inl hk))
  · exact ownsRow_chg (ownsRow_chg hm.ca hc hb2) hst fun k hk e => hnm (e ▸ .inr (.inr hk))
  · rcases hp k hk with x | x
    · exact hm.ap.1 k x
    · exact ⟨fun e => by have := (hlow k (.inr (.inl e))).2; omega, fun e => by have := (hlow k (.inr (.inr e))).2; omega⟩
  · exact (hc.mono fun k _ e => .inr (.inl e)).transR hst fun k _ e => .inl e
  · rcases hk with e | e
    · exact (hp k e).imp .inl id
    · exact .inl (.inr e)
/- the calls are others -/
theorem RefM.callsS {w : World} {lo sb : Nat} {s : RS} {F : Value × Value × Value} (hm : RefM w lo sb s F) {w1 : World} {sv : Value} {l : List Int} (hc : Chg (fun k => F.2.2.ownBlock = some k) w w1) (hr : w1.ownsRow lo 3 1 sv l.length (intsV l)) (hp : ∀ k, sv.ownBlock = some k → F.2.2.ownBlock = some k ∨ w.heap.size ≤ k) :
    RefM (w1.setCell ⟨sb, 2, none⟩ sv) lo sb { s with calls := l } (F.1, F.2.1, sv) ∧ RStep sb F (F.1, F.2.1, sv) w (w1.setCell ⟨sb, 2, none⟩ sv) := by
  obtain ⟨hlow, hnm⟩ := hm.low
  obtain ⟨oq, oc, kb, ko, h1, h3⟩ := hm.row
  have hmb := lt_of_block h1
  have h1' := row_kept hc h1 (fun e => hnm (.inr (.inr e)))
  have hst : Chg (fun k => k = sb) w1 (w1.setCell ⟨sb, 2, none⟩ sv) := (Chg.refl (fun k => k = sb) w1).setCell (p := ⟨sb, 2, none⟩) (.inl rfl) _
  have hset : (w1.setCell ⟨sb, 2, none⟩ sv).heap[sb]? = some (.cells (refC (F.1, F.2.1, sv) (.slice oq s.out.length oc) { s with calls := l }) 63 (0, 0)) := heap_set h1' (i := 2) sv
  have hsvne : ∀ k, sv.ownBlock = some k → k ≠ sb := fun k hk e => by
    rcases hp k hk with x | x
    · exact hnm (e ▸ .inr (.inr x))
    · omega
  have hb1 : ∀ k, F.1.ownBlock = some k → ¬ F.2.2.ownBlock = some k := fun k hk e => (hm.ap.1 k hk).2 e
  have hb2 : ∀ k, F.2.1.ownBlock = some k → ¬ F.2.2.ownBlock = some k := fun k hk e => hm.ap.2 k hk e
  refine ⟨⟨⟨oq, oc, kb, ko, hset, ?_⟩, ?_, ?_, ?_, ⟨fun k hk => ⟨(hm.ap.1 k hk).1, fun e => ?_⟩, fun k hk e => ?_⟩, up_lo hm.lo (Nat.le_trans hc.size hst.size), hm.loc, fun e => e.elim (fun e => hnm (.inl e)) fun e => e.elim (fun e => hnm (.inr (.inl e))) fun e => hsvne sb e rfl⟩, ⟨?_, fun k hk => ?_⟩⟩
  · refine (h3.move hc (S' := fun k => lo ≤ k ∧ k ≠ sb ∧ ¬ Foot3 (F.1, F.2.1, sv) k) fun k hk hs => ⟨fun e => hs.2.2 (.inr (.inr e)), hs.1, hs.2.1, fun e => ?_⟩).move hst fun k hk hs => ⟨hs.2.1, hs⟩
    rcases e with e | e | e
    · exact hs.2.2 (.inl e)
    · exact hs.2.2 (.inr (.inl e))
    · rcases hp k e with x | x
      · exact hs.2.2 (.inr (.inr x))
      · omega
  · exact ownsRow_chg (ownsRow_chg hm.st hc hb1) hst fun k hk e => hnm (e ▸ .inl hk)
  · exact ownsRow_chg (ownsRow_chg hm.ce hc hb2) hst fun k hk e => hnm (e ▸ .inr (.inl hk))
  · exact ownsRow_chg hr hst fun k hk e => hsvne k hk e
  · rcases hp k e with x | x
    · exact (hm.ap.1 k hk).2 x
    · have := (hlow k (.inl hk)).2; omega
  · rcases hp k e with x | x
    · exact hm.ap.2 k hk x
    · have := (hlow k (.inr (.inl hk))).2; omega
  · exact (hc.mono fun k _ e => .inr (.inr (.inr e))).transR hst fun k _ e => .inl e
  · rcases hk with e | e | e
    · exact .inl (.inl e)
    · exact .inl (.inr (.inl e))
    · exact (hp k e).imp (fun x => .inr (.inr x)) id
/- what is written is another tree -/
theorem RefM.outS {w : World} {lo sb : Nat} {s : RS} {F : Value × Value × Value} (hm : RefM w lo sb s F) {w1 : World} {q : Option Addr} {c kb' ko' n : Nat} {o : List FileL} (hc : Chg NoB w w1) (hn : n = o.length) (ho : InpS w1 (fun k => w.heap.size ≤ k) (.slice q n c) o kb' ko') :
    RefM (w1.setCell ⟨sb, 3, none⟩ (.slice q n c)) lo sb { s with out := o } F ∧ RStep sb F F w (w1.setCell ⟨sb, 3, none⟩ (.slice q n c)) := by
  subst hn
  obtain ⟨hlow, hnm⟩ := hm.low
  obtain ⟨oq, oc, kb, ko, h1, h3⟩ := hm.row
  have hmb := lt_of_block h1
  have h1' := row_kept hc h1 id
  have hst : Chg (fun k => k = sb) w1 (w1.setCell ⟨sb, 3, none⟩ (.slice q o.length c)) := (Chg.refl (fun k => k = sb) w1).setCell (p := ⟨sb, 3, none⟩) (.inl rfl) _
  have hset : (w1.setCell ⟨sb, 3, none⟩ (.slice q o.length c)).heap[sb]? = some (.cells (refC F (.slice q o.length c) { s with out := o }) 63 (0, 0)) := heap_set h1' (i := 3) _
  have hne : ∀ k, Foot3 F k → ¬ k = sb := fun k hk e => hnm (e ▸ hk)
  refine ⟨⟨⟨q, c, kb', ko', hset, (ho.move hst (S' := fun k => lo ≤ k ∧ k ≠ sb ∧ ¬ Foot3 F k) fun k hk hs => ⟨by omega, by have := hm.lo.2; omega, by omega, fun e => by have := (hlow k e).2; omega⟩)⟩, ?_, ?_, ?_, hm.ap, up_lo hm.lo (Nat.le_trans hc.size hst.size), hm.loc, hm.ns⟩, (hc.mono fun k _ e => e.elim).trans (hst.mono fun k _ e => .inl e), fun k h => .inl h⟩
  · exact ownsRow_chg (ownsRow_chg hm.st hc fun _ _ => id) hst fun k hk => hne k (.inl hk)
  · exact ownsRow_chg (ownsRow_chg hm.ce hc fun _ _ => id) hst fun k hk => hne k (.inr (.inl hk))
  · exact ownsRow_chg (ownsRow_chg hm.ca hc fun _ _ => id) hst fun k hk => hne k (.inr (.inr hk))
/- a cell is another one -/
theorem RefM.cellFree {w : World} {lo sb : Nat} {s : RS} {F : Value × Value × Value} (hm : RefM w lo sb s F) {q : Option Addr} {n c g : Nat} (hF : F.2.1 = .slice q n c) (hq : q = some ⟨g, 0, none⟩) : ∀ j, w.frozen? ⟨g, j, none⟩ = false := by
  rcases hm.ce.2 with ⟨e, h0⟩ | ⟨g', cap, cur, e, h2, h3, h4, h5, h6⟩
  · exact absurd h0 (by decide)
  · rw [hF, hq] at e
    injection e with e1 e2 e3
    injection e1 with e1
    injection e1 with e1
    subst e1
    exact row_free h3
theorem RefM.locS {w : World} {lo sb : Nat} {s : RS} {F : Value × Value × Value} (hm : RefM w lo sb s F) {c g : Nat} (hF : F.2.1 = .slice (some ⟨g, 0, none⟩) 16 c) (n : Nat) (hn : n < 16) (v : ValL) :
    RefM (((w.setCell ⟨g, n * 3, none⟩ (.bool v.1)).setCell ⟨g, n * 3 + 1, none⟩ (.int .i64 v.2.1)).setCell ⟨g, n * 3 + 2, none⟩ (.string (tx v.2.2))) lo sb { s with loc := s.loc.set n v } F ∧
      RStep sb F F w (((w.setCell ⟨g, n * 3, none⟩ (.bool v.1)).setCell ⟨g, n * 3 + 1, none⟩ (.int .i64 v.2.1)).setCell ⟨g, n * 3 + 2, none⟩ (.string (tx v.2.2))) := by
  obtain ⟨hlow, hnm⟩ := hm.low
  obtain ⟨oq, oc, kb, ko, h1, h3⟩ := hm.row
  have hg : F.2.1.ownBlock = some g := by rw [hF]; rfl
  have hs : Chg (fun k => k = g) w (((w.setCell ⟨g, n * 3, none⟩ (.bool v.1)).setCell ⟨g, n * 3 + 1, none⟩ (.int .i64 v.2.1)).setCell ⟨g, n * 3 + 2, none⟩ (.string (tx v.2.2))) := (((Chg.refl (fun k => k = g) w).setCell (p := ⟨g, n * 3, none⟩) (.inl rfl) _).setCell (p := ⟨g, n * 3 + 1, none⟩) (.inl rfl) _).setCell (p := ⟨g, n * 3 + 2, none⟩) (.inl rfl) _
  have hce := hm.ce
  rw [hF] at hce
  have hce2 : (((w.setCell ⟨g, n * 3, none⟩ (.bool v.1)).setCell ⟨g, n * 3 + 1, none⟩ (.int .i64 v.2.1)).setCell ⟨g, n * 3 + 2, none⟩ (.string (tx v.2.2))).ownsRow lo 68 3 (.slice (some ⟨g, 0, none⟩) 16 c) 16 (valsV (s.loc.set n v)) := by
    rcases hce.2 with ⟨e, h0⟩ | ⟨g', cap, cur, e, k2, k3, k4, k5, k6, k7⟩
    · exact absurd h0 (by decide)
    · injection e with e1 e2 e3
      injection e1 with e1
      injection e1 with e1
      subst e1
      have hset := heap_set (heap_set (heap_set k3 (i := n * 3) (.bool v.1)) (i := n * 3 + 1) (.int .i64 v.2.1)) (i := n * 3 + 2) (.string (tx v.2.2))
      refine ⟨by rw [valsV_len, List.length_set, hm.loc], .inr ⟨g, cap, _, by rw [e3], k2, hset, k4, k5, by simpa using k6, ?_⟩⟩
      rw [valsV_set _ _ _ (by rw [hm.loc]; exact hn), ← k7]
      simp only [Array.toList_setIfInBounds, List.take_set]
  have hne : ∀ k, F.1.ownBlock = some k → ¬ k = g := fun k hk e => (hm.ap.1 k hk).1 (by rw [e]; exact hg)
  have hne2 : ∀ k, F.2.2.ownBlock = some k → ¬ k = g := fun k hk e => hm.ap.2 g hg (by rw [← e]; exact hk)
  have hsg : ¬ sb = g := fun e => hnm (by rw [e]; exact .inr (.inl hg))
  refine ⟨⟨⟨oq, oc, kb, ko, row_kept hs h1 hsg, h3.move hs fun k hk hs => ⟨fun e => hs.2.2 (by rw [e]; exact .inr (.inl hg)), hs⟩⟩, ownsRow_chg hm.st hs hne, by rw [hF]; exact hce2, ownsRow_chg hm.ca hs hne2, hm.ap, up_lo hm.lo hs.size, by show (s.loc.set n v).length = 16; rw [List.length_set]; exact hm.loc, hm.ns⟩, hs.mono fun k _ e => .inr (by rw [e]; exact .inr (.inl hg)), fun k h => .inl h⟩
def ROut (lo sb : Nat) (F : RF) (s' : RS) (w : World) (e : Ending) (w' : World) : Prop := e = .returned (.tuple #[]) ∧ ∃ F', RStep sb F F' w w' ∧ RefM w' lo sb s' F'
end Go.Proofs.YthehpmffkkogpaaGreatDoor
namespace Go.Proofs.YthehpmffkkogpaaGreatDoor
set_option linter.unusedVariables false
open Go.ChangeShapes Go.WideShapes Go.ChangeAt Go.RowKit
set_option maxHeartbeats 1000000 in
set_option maxRecDepth 20000 in
theorem rfail_same (y : Int) {w : World} {lo sb : Nat} {s : RS} {F : Value × Value × Value} (hm : RefM w lo sb s F) : Calls Tryz.prog 53 #[.pointer (some ⟨sb, 0, none⟩), .int .i64 y] w fun e w' => e = .returned (.tuple #[]) ∧ RStep sb F F w w' ∧ RefM w' lo sb (failS y s) F := by
  have Hm := Lib.hid hm
  have y7 : w.cell? ⟨sb, 7, none⟩ = some (.int .i64 s.fault) := by obtain ⟨_, _, _, _, _, _, _, _, _, h⟩ := hm.cells; exact h
  have yf := hm.free 7
  clear hm
  by_cases h : s.fault = 0
  · have e : failS y s = { s with fault := y } := if_pos h
    rw [e]
    rw [h] at y7
    have HF := Lib.hid (Hm.out.field 7 (.int .i64 y) { s with fault := y } rfl rfl rfl rfl fun ov => rfl)
    clear e h
    go_enter Tryz.func53, Tryz.ntmps53
    go_wp2_with fail
    go_end0
    exact ⟨rfl, HF.out.2, HF.out.1⟩
  · have e : failS y s = s := if_neg h
    rw [e]
    have h2 : (s.fault == 0) = false := by rw [beq_eq_false_iff_ne]; exact h
    generalize s.fault = ft at *
    clear e h
    go_enter Tryz.func53, Tryz.ntmps53
    go_wp2_with fail
    go_end0
    exact ⟨rfl, RStep.refl _ _ _, Hm.out⟩
theorem rfail_any (y : Int) {w : World} {lo sb : Nat} {s : RS} {F : Value × Value × Value} (hm : RefM w lo sb s F) : Calls Tryz.prog 53 #[.pointer (some ⟨sb, 0, none⟩), .int .i64 y] w (ROut lo sb F (failS y s) w) := (rfail_same y hm).mono fun e w' h => ⟨h.1, F, h.2.1, h.2.2⟩
set_option maxHeartbeats 1000000 in
set_option maxRecDepth 20000 in
theorem rput_one (v : ValL) {w : World} {lo sb : Nat} {s : RS} {F : Value × Value × Value} (hm : RefM w lo sb s F) (hs : s.stack.length ≤ 64) :
    Calls Tryz.prog 52 #[.pointer (some ⟨sb, 0, none⟩), valA v] w (ROut lo sb F (putS v s) w) := by
  obtain ⟨v1, v2, v3⟩ := v
  show Calls _ _ #[_, .agg #[.bool v1, .int .i64 v2, .string (tx v3)]] _ _
  obtain ⟨sv, lv, cv⟩ := F
  have hal_ := (Chg.refl NoB w).alloc (.cells #[.bool v1, .int .i64 v2, .string (tx v3)] 68)
  have hb_ := heap_alloc_new w (.cells #[.bool v1, .int .i64 v2, .string (tx v3)] 68)
  obtain ⟨xb, hxb_⟩ : ∃ b, b = w.heap.size := ⟨_, rfl⟩
  obtain ⟨w1, hw_⟩ : ∃ w_, w.alloc (.cells #[.bool v1, .int .i64 v2, .string (tx v3)] 68) = w_ := ⟨_, rfl⟩
  have hz_ : w1.heap.size = xb + 1 := by rw [← hw_, hxb_]; exact alloc_size _ _
  rw [hw_] at hal_ hb_
  rw [← hxb_] at hb_
  have Hw1 := Lib.hid hw_
  have Hx1 := Lib.hid hxb_
  have Ha1 := Lib.hid hal_
  have Hb1 := Lib.hid hb_
  have Hz1 := Lib.hid hz_
  clear hal_ hb_ hxb_ hw_ hz_
  replace hm := hm.keep Ha1.out
  obtain ⟨oq, oc, y0, y1, y2, y3, y4, y5, y6, y7⟩ := hm.cells
  have yf := hm.free
  obtain ⟨q, c, e, h1, h2⟩ := row_shape hm.st
  simp only at e y0
  subst e
  have Hm := Lib.hid hm
  obtain ⟨k, hk⟩ : ∃ k, k = s.stack.length := ⟨_, rfl⟩
  rw [← hk] at y0 hs h1 Hm ⊢
  have Hk := Lib.hid hk
  obtain ⟨x0, x1, x2⟩ := var3 Hb1.out
  have HG := Lib.hid (rfail_any 40 Hm.out)
  clear hm y1 y2 y3 y4 y5 y6 hk
  by_cases hf : s.fault = 0
  · rw [hf] at y7
    by_cases h64 : k = 64
    · have hr : putS (v1, v2, v3) s = failS 40 s := by unfold putS; rw [if_pos hf, if_pos (by rw [← Hk.out]; exact h64)]
      rw [hr]
      subst h64
      clear hr hf
      go_enter Tryz.func52, Tryz.ntmps52
      go_upto_region 1 with fail
      rw [Hw1.out, ← Hx1.out]
      go_wp2_with fail
      refine HG.out.mono ?_
      rintro e w2 ⟨rfl, F2, hs2, hm2⟩
      have Hf := Lib.hid (And.intro hs2 hm2)
      clear hs2 hm2 HG
      go_wp2_with fail
      go_end0
      exact ⟨rfl, F2, (RStep.of_chg Ha1.out).trans Hf.out.1, Hf.out.2⟩
    · have hr : putS (v1, v2, v3) s = { s with stack := s.stack ++ [(v1, v2, v3)] } := by unfold putS; rw [if_pos hf, if_neg (by rw [← Hk.out]; exact h64)]
      rw [hr]
      have HK := Lib.hid (show (valsV s.stack).length = k * 3 by rw [valsV_len, Hk.out])
      have Hst := Lib.hid (show w1.ownsRow lo 68 3 (.slice q k c) k (valsV s.stack) by have := Hm.out.st; rw [← Hk.out] at this; exact this)
      have hal := (Chg.refl NoB w1).alloc (.cells #[.bool v1, .int .i64 v2, .string (tx v3)] 68)
      have Hal := Lib.hid hal
      have HO := Lib.hid (ownsRow_chg Hst.out hal fun _ _ => id)
      obtain ⟨i0, hi, hz0, hz1, hz2⟩ := info_parts valInfo
      have Hi := Lib.hid hi
      have Hz0 := Lib.hid hz0
      have Hz1' := Lib.hid hz1
      have Hz2 := Lib.hid hz2
      have N1 := Lib.hid (show k + 1 ≤ maxLen by unfold maxLen; omega)
      have N2 := Lib.hid (show (k + 1) * 32 ≤ 140737488355328 by omega)
      have Hb := Lib.hid (show lo ≤ (w1.alloc (.cells #[.bool v1, .int .i64 v2, .string (tx v3)] 68)).drew.heap.size from Nat.le_trans Hm.out.lo.2 hal.size)
      have h64b : ((k : Int) == 64) = false := by rw [beq_eq_false_iff_ne]; omega
      unfold maxLen at h2
      clear hr hal hi hz0 hz1 hz2 hf h64 HG
      go_enter Tryz.func52, Tryz.ntmps52
      go_upto_region 1 with fail
      rw [Hw1.out, ← Hx1.out]
      go_upto_region 4 with fail
      have y0a := Hal.out.keep y0
      go_region_law (refine step_append_at (by rfl) _ (.tmp 21) (.tmp 23) 61 (by rfl) lo 68 i0 (.agg #[.bool false, .int .i64 0, .string ⟨#[]⟩]) 3 32 Tryz.underlying61 Hi.out Hz0.out Hz1'.out Hz2.out rfl (by decide) _ k (valsV s.stack) (by rfl) HO.out ⟨w1.heap.size, 0, none⟩ 1 1 [.bool v1, .int .i64 v2, .string (tx v3)] (by rfl) rfl (lit3v w1 _ _ _ _) (valsV_one [(v1, v2, v3)]) N1.out N2.out Hb.out ?_; intro sv' w3 hown hgr hpl; obtain ⟨q3, c3, rfl, -, -⟩ := row_shape hown; have hc3 : Chg (fun j => (Value.slice q k c).ownBlock = some j) w1 w3 := (Hal.out.drew.mono fun _ _ h => h.elim).trans ((Chg.refl _ _).grown hgr (fun j hj => .inl hj)); have y33 := hc3.cell y0 (fun e => Hm.out.low.2 (.inl e)); have yf3 := hc3.frozen y0 (fun e => Hm.out.low.2 (.inl e)) (yf 0))
      all_goals
        have HP := Lib.hid (Hm.out.stack (sv := .slice q3 (k + 1) c3) (l := s.stack ++ [(v1, v2, v3)]) hc3 (by rw [List.length_append, ← Hk.out, valsV_app]; exact hown) (fun j hj => by
          rcases hpl with e | e
          · exact .inl (by rw [← e]; exact hj)
          · rw [hj] at e; cases e; exact .inr Hal.out.size))
        clear hown hgr hpl hc3 y33 yf3 y0a
        go_wp2_with fail
        go_end0
        exact ⟨rfl, _, (RStep.of_chg Ha1.out).trans HP.out.2, HP.out.1⟩
  · have hr : putS (v1, v2, v3) s = s := by unfold putS; rw [if_neg hf]
    rw [hr]
    have h2b : (s.fault != 0) = true := by rw [bne_iff_ne]; exact hf
    generalize s.fault = ft at *
    clear hr hf HG
    go_enter Tryz.func52, Tryz.ntmps52
    go_upto_region 1 with fail
    rw [Hw1.out, ← Hx1.out]
    go_wp2_with fail
    go_end0
    exact ⟨rfl, _, RStep.of_chg Ha1.out, Hm.out⟩
set_option maxHeartbeats 1000000 in
theorem rnum_any (n : Int) {w : World} {lo sb : Nat} {s : RS} {F : Value × Value × Value} (hm : RefM w lo sb s F) (hs : s.stack.length ≤ 64) : Calls Tryz.prog 49 #[.pointer (some ⟨sb, 0, none⟩), .int .i64 n] w (ROut lo sb F (putS (numV n) s) w) := by
  have HP := Lib.hid (rput_one (numV n) hm hs)
  clear hm hs
  go_enter Tryz.func49, Tryz.ntmps49
  go_wp2_with fail
  refine HP.out.mono ?_
  rintro e w2 ⟨rfl, F2, hs2, hm2⟩
  have H := Lib.hid (And.intro hs2 hm2)
  clear hs2 hm2
  go_wp2_with fail
  go_end0
  exact ⟨rfl, F2, H.out.1, H.out.2⟩
set_option maxHeartbeats 1000000 in
theorem rtext_any (t : List UInt8) {w : World} {lo sb : Nat} {s : RS} {F : Value × Value × Value} (hm : RefM w lo sb s F) (hs : s.stack.length ≤ 64) : Calls Tryz.prog 50 #[.pointer (some ⟨sb, 0, none⟩), .string (tx t)] w (ROut lo sb F (putS (txtV t) s) w) := by
  have HP := Lib.hid (rput_one (txtV t) hm hs)
  clear hm hs
  go_enter Tryz.func50, Tryz.ntmps50
  go_wp2_with fail
  refine HP.out.mono ?_
  rintro e w2 ⟨rfl, F2, hs2, hm2⟩
  have H := Lib.hid (And.intro hs2 hm2)
  clear hs2 hm2
  go_wp2_with fail
  go_end0
  exact ⟨rfl, F2, H.out.1, H.out.2⟩
set_option maxHeartbeats 1000000 in
theorem rtruth_any (b : Bool) {w : World} {lo sb : Nat} {s : RS} {F : Value × Value × Value} (hm : RefM w lo sb s F) (hs : s.stack.length ≤ 64) : Calls Tryz.prog 54 #[.pointer (some ⟨sb, 0, none⟩), .bool b] w (ROut lo sb F (putS (boolV b) s) w) := by
  cases b with
  | true =>
    have HP := Lib.hid (rnum_any 1 hm hs)
    clear hm hs
    go_enter Tryz.func54, Tryz.ntmps54
    go_wp2_with fail
    refine HP.out.mono ?_
    rintro e w2 ⟨rfl, F2, hs2, hm2⟩
    have H := Lib.hid (And.intro hs2 hm2)
    clear hs2 hm2
    go_wp2_with fail
    go_end0
    exact ⟨rfl, F2, H.out.1, H.out.2⟩
  | false =>
    have HP := Lib.hid (rnum_any 0 hm hs)
    clear hm hs
    go_enter Tryz.func54, Tryz.ntmps54
    go_wp2_with fail
    refine HP.out.mono ?_
    rintro e w2 ⟨rfl, F2, hs2, hm2⟩
    have H := Lib.hid (And.intro hs2 hm2)
    clear hs2 hm2
    go_wp2_with fail
    go_end0
    exact ⟨rfl, F2, H.out.1, H.out.2⟩
end Go.Proofs.YthehpmffkkogpaaGreatDoor
namespace Go.Proofs.YthehpmffkkogpaaGreatDoor
set_option linter.unusedVariables false
open Go.ChangeShapes Go.WideShapes Go.ChangeAt Go.RowKit
def TakeP (lo sb : Nat) (F : RF) (ks : List UInt8) (s : RS) (w : World) (e : Ending) (w' : World) : Prop :=
  ∃ q c, e = .returned (.slice q ks.length c) ∧ w'.ownsRow w.heap.size 68 3 (.slice q ks.length c) ks.length (valsV (takeL ks s)) ∧
    ∃ F', RStep sb F F' w w' ∧ RefM w' lo sb (takeS ks s) F' ∧ ∀ k, (Value.slice q ks.length c).ownBlock = some k → ¬ Foot3 F' k
theorem make_vals (n : Nat) (hn : n ≤ 1048576) (w : World) : (Instr.makeSlice 61 (.int .i64 (n : Int)) (.int .i64 (n : Int))).run Tryz.prog w =
    .ok (.slice (some ⟨w.heap.size, 0, none⟩) n n) (w.alloc (.cells (madeCells #[.bool false, .int .i64 0, .string ⟨#[]⟩] (n * 3)) 68)) := by
  obtain ⟨i, hi, hz, hs, hb⟩ := info_parts valInfo
  have hr := run_make (P := Tryz.prog) w 61 68 i _ Tryz.underlying61 hi hz .i64 .i64 n n (by omega) (by omega) (by rw [hb]; omega) (by omega)
  simp only [Int.toNat_natCast, hs] at hr
  exact hr
theorem made_vals : ∀ n, 1 ≤ n → n ≤ 3 → (madeCells #[Value.bool false, .int .i64 0, .string ⟨#[]⟩] (n * 3)) = (valsV (List.replicate n (numV 0))).toArray
  | 1, _, _ => by kernel_rfl
  | 2, _, _ => by kernel_rfl
  | 3, _, _ => by kernel_rfl
theorem u8_eq (c : UInt8) (n : Nat) (hn : n < 256) : (((c.toNat : Nat) : Int) == (n : Int)) = (c == UInt8.ofNat n) := by
  by_cases h : c = UInt8.ofNat n
  · subst h
    rw [beq_self_eq_true, beq_iff_eq]
    simp
    omega
  · have h2 : (c == UInt8.ofNat n) = false := by rw [beq_eq_false_iff_ne]; exact h
    rw [h2, beq_eq_false_iff_ne]
    intro e
    apply h
    have : c.toNat = n := by omega
    rw [← this]
    simp
def takeAt (ks : List UInt8) (l : List ValL) (s : RS) (j : Nat) : RS := if anyBad (ks.take j) (l.take j) = true then failS 41 s else s
theorem anyBad_succ {ks : List UInt8} {l : List ValL} {j : Nat} (h1 : j < ks.length) (h2 : j < l.length) : anyBad (ks.take (j + 1)) (l.take (j + 1)) = (anyBad (ks.take j) (l.take j) || badK ks[j] l[j]) := by
  unfold anyBad
  rw [List.take_add_one, List.take_add_one, List.getElem?_eq_getElem h1, List.getElem?_eq_getElem h2, List.zip_append (by rw [List.length_take, List.length_take]; omega), List.any_append]
  simp
theorem takeAt_bad {ks : List UInt8} {l : List ValL} {s : RS} {j : Nat} (h1 : j < ks.length) (h2 : j < l.length) (hb : badK ks[j] l[j] = true) : failS 41 (takeAt ks l s j) = takeAt ks l s (j + 1) := by
  unfold takeAt
  rw [anyBad_succ h1 h2, hb, Bool.or_true, if_pos rfl]
  split
  · unfold failS
    by_cases h : s.fault = 0
    · rw [if_pos h]; rfl
    · rw [if_neg h, if_neg h]
  · rfl
theorem takeAt_good {ks : List UInt8} {l : List ValL} {s : RS} {j : Nat} (h1 : j < ks.length) (h2 : j < l.length) (hb : badK ks[j] l[j] = false) : takeAt ks l s j = takeAt ks l s (j + 1) := by
  unfold takeAt
  rw [anyBad_succ h1 h2, hb, Bool.or_false]
theorem takeAt_zero (ks : List UInt8) (l : List ValL) (s : RS) : takeAt ks l s 0 = s := by unfold takeAt anyBad; simp
theorem takeAt_same (ks : List UInt8) (l : List ValL) (s : RS) (j : Nat) : (takeAt ks l s j).stack = s.stack ∧ (takeAt ks l s j).loc = s.loc := by
  unfold takeAt failS
  split
  · split <;> exact ⟨rfl, rfl⟩
  · exact ⟨rfl, rfl⟩
set_option maxHeartbeats 4000000 in
set_option maxRecDepth 20000 in
theorem rtake_any (ks : List UInt8) (hk1 : 1 ≤ ks.length) (hk3 : ks.length ≤ 3) {w : World} {lo sb : Nat} {s : RS} {F : Value × Value × Value} (hm : RefM w lo sb s F) (hs : s.stack.length ≤ 64) : Calls Tryz.prog 51 #[.pointer (some ⟨sb, 0, none⟩), .string (tx ks)] w (TakeP lo sb F ks s w) := by
  obtain ⟨sv, lv, cv⟩ := F
  have Hm := Lib.hid hm
  obtain ⟨n, hn⟩ : ∃ z, z = ks.length := ⟨_, rfl⟩
  have hsz : (tx ks).size = n := by rw [tx_size, hn]
  have Hn := Lib.hid hn
  rw [← hn] at hk1 hk3
  obtain ⟨k, hk⟩ : ∃ z, z = s.stack.length := ⟨_, rfl⟩
  rw [← hk] at hs
  have Hk := Lib.hid hk
  obtain ⟨q, c, e, h1, h2⟩ := row_shape hm.st
  simp only at e
  subst e
  have y0 : w.cell? ⟨sb, 0, none⟩ = some (.slice q k c) := by obtain ⟨_, _, h, _⟩ := hm.cells; rw [hk]; exact h
  rw [← hk] at h1 hm Hm ⊢
  by_cases hlt : k < n
  · have el : takeL ks s = List.replicate n (numV 0) := by unfold takeL; rw [if_pos (by rw [← hk, ← hn]; exact hlt), hn]
    have es : takeS ks s = failS 40 s := by unfold takeS; rw [if_pos (by rw [← hk, ← hn]; exact hlt)]
    unfold TakeP
    rw [el, es, ← hn]
    have HG := Lib.hid (rfail_any 40 hm)
    clear hm hn hk el es
    go_enter Tryz.func51, Tryz.ntmps51
    go_wp2_with fail
    refine HG.out.mono ?_
    rintro e w2 ⟨rfl, F2, hs2, hm2⟩
    have Hs2 := Lib.hid hs2
    have Hm2 := Lib.hid hm2
    have hmk := make_vals n (by omega) w2
    clear hs2 hm2 HG y0
    go_wp2_with fail
    go_ret
    have hal := (Chg.refl NoB w2).alloc (.cells (madeCells #[.bool false, .int .i64 0, .string ⟨#[]⟩] (n * 3)) 68)
    refine ⟨some ⟨w2.heap.size, 0, none⟩, n, rfl, ?_, F2, Hs2.out.trans (RStep.of_chg hal), Hm2.out.keep hal, fun j hj hf => ?_⟩
    · have hh := heap_alloc_new w2 (.cells (madeCells #[.bool false, .int .i64 0, .string ⟨#[]⟩] (n * 3)) 68)
      rw [made_vals n hk1 hk3] at hh
      rw [made_vals n hk1 hk3]
      refine ⟨by rw [valsV_len, List.length_replicate], .inr ⟨_, n, _, rfl, Hs2.out.chg.size, hh, Nat.le_refl _, by unfold maxLen; omega, by simp [valsV_len], ?_⟩⟩
      rw [List.toList_toArray]
      exact List.take_of_length_le (by rw [valsV_len, List.length_replicate]; exact Nat.le_refl _)
    · have e2 : w2.heap.size = j := Option.some.inj hj
      have := (Hm2.out.low.1 j hf).2
      omega
  · obtain ⟨m, hm0⟩ : ∃ z, z = k - n := ⟨_, rfl⟩
    have hkm : m + n = k := by omega
    obtain ⟨l, hl⟩ : ∃ z, z = s.stack.drop m := ⟨_, rfl⟩
    have hll : l.length = n := by rw [hl, List.length_drop, ← hk]; omega
    have el : takeL ks s = l := by unfold takeL; rw [if_neg (by rw [← hk, ← hn]; exact hlt), ← hk, ← hn, ← hm0, hl]
    have es : takeS ks s = { takeAt ks l s n with stack := s.stack.take m } := by
      unfold takeS takeAt
      rw [if_neg (by rw [← hk, ← hn]; exact hlt), ← hk, ← hn, ← hm0, ← hl, List.take_of_length_le (by omega : ks.length ≤ n), List.take_of_length_le (by omega : l.length ≤ n)]
    have hq : ∃ g, q = some ⟨g, 0, none⟩ := by
      rcases hm.st.2 with ⟨e, h0⟩ | ⟨g, cap, cur, e, -⟩
      · omega
      · exact ⟨g, by injection e⟩
    obtain ⟨g, rfl⟩ := hq
    have hcl := World.ownsRow.cells (g := g) hm.st rfl
    have Hcl := Lib.hid hcl
    unfold TakeP
    rw [el, es, ← hn]
    have Hes := Lib.hid hl
    have Hll := Lib.hid hll
    obtain ⟨i0, hi, hz0, hz1, hz2⟩ := info_parts valInfo
    have Hi := Lib.hid hi
    have Zi0 := Lib.hid hz0
    have Zi1 := Lib.hid hz1
    have Zi2 := Lib.hid hz2
    have hmx : maxLen = 9223372036854775807 := rfl
    unfold maxLen at h2
    have hal_ := (Chg.refl NoB w).alloc (.cells #[] 68)
    have hb_ := heap_alloc_new w (.cells #[] 68)
    obtain ⟨zb, hxb_⟩ : ∃ b, b = w.heap.size := ⟨_, rfl⟩
    obtain ⟨w1, hw_⟩ : ∃ w_, w.alloc (.cells #[] 68) = w_ := ⟨_, rfl⟩
    have hz_ : w1.heap.size = zb + 1 := by rw [← hw_, hxb_]; exact alloc_size _ _
    rw [hw_] at hal_ hb_
    rw [← hxb_] at hb_
    have Hw1 := Lib.hid hw_
    have Hx1 := Lib.hid hxb_
    have Ha1 := Lib.hid hal_
    have Hb1 := Lib.hid hb_
    have Hz1 := Lib.hid hz_
    clear hal_ hb_ hxb_ hw_ hz_
    have Hzb := Lib.hid (show zb = w.heap.size from Hx1.out)
    have y0r := ((Chg.refl NoB w).alloc (.cells #[] 68)).keep y0
    have hkn : (k : Int) - (n : Int) = (m : Int) := by omega
    have hkmn : k - m = n := by omega
    have HE1 : Hid (w1.ownsRow w.heap.size 68 3 (.slice (some ⟨zb, 0, none⟩) 0 0) 0 []) := Lib.hid ⟨rfl, .inr ⟨zb, 0, #[], rfl, by rw [Hx1.out]; exact Nat.le_refl _, Hb1.out, Nat.le_refl _, Nat.zero_le _, rfl, rfl⟩⟩
    have HNw : Hid (∀ w', Chg NoB w w' → ∀ j u, (valsV l)[j]? = some u → w'.cell? ((⟨g, m * 3, none⟩ : Addr).add j) = some u) := Lib.hid (fun w' h j u hj => by
      have hj2 : (valsV s.stack)[m * 3 + j]? = some u := by
        have e1 : valsV s.stack = valsV (s.stack.take m) ++ valsV l := by rw [← valsV_app, Hes.out, List.take_append_drop]
        rw [e1, List.getElem?_append_right (by rw [valsV_len, List.length_take, ← Hk.out]; omega)]
        have e2 : m * 3 + j - (valsV (s.stack.take m)).length = j := by rw [valsV_len, List.length_take, ← Hk.out]; omega
        rw [e2]; exact hj
      have h3 := Hcl.out _ _ hj2
      rw [add_zero_off] at h3
      have h4 := h.keep h3
      rw [Go.WideShapes.add_plain]
      exact h4)
    have HT0 : Hid (∀ w', Chg NoB w w' → ∀ j u, (valsV (s.stack.take m))[j]? = some u → w'.cell? ((⟨g, 0, none⟩ : Addr).add j) = some u) := Lib.hid (fun w' h j u hj => by
      have hj2 : (valsV s.stack)[j]? = some u := by
        rw [valsV_take] at hj
        rw [List.getElem?_take] at hj
        split at hj
        · exact hj
        · cases hj
      have h3 := Hcl.out _ _ hj2
      rw [add_zero_off] at h3 ⊢
      exact h.keep h3)
    have Hlv := Lib.hid (show (valsV l).length = n * 3 by rw [valsV_len, hll])
    have hnk : ¬ k < n := hlt
    have Hlo := Lib.hid hm.lo
    clear hm hn hk el es hcl hl hi hz0 hz1 hz2 hm0 hlt
    go_enter Tryz.func51, Tryz.ntmps51
    go_upto_region 6 with (at_builtin; go_must (rw [← Hx1.out, Hw1.out]); go_must (refine wpList_append_at _ rfl _ _ 61 rfl w.heap.size 68 i0 (.agg #[.bool false, .int .i64 0, .string ⟨#[]⟩]) 3 32 Tryz.underlying61 Hi.out Zi0.out Zi1.out Zi2.out rfl (by decide) (.slice (some ⟨zb, 0, none⟩) 0 0) 0 [] rfl HE1.out ⟨g, m * 3, none⟩ n (c - m) (valsV l) rfl Hlv.out (HNw.out _ Ha1.out) (valsV_one l) (by omega) (by omega) Ha1.out.size ?_); intro v2 w2 hown2 hgr2 hpl2)
    have hg2 : Chg (fun j => j = zb) w1 w2 := (Chg.refl (fun j => j = zb) w1).grown hgr2 fun j hj => .inl (Option.some.inj hj).symm
    have hc2 : Chg NoB w w2 := Ha1.out.transR hg2 fun j hj e => by have e2 : j = zb := e; have h1 := Hzb.out; exact absurd hj (by omega)
    have hr2 : w2.ownsRow w.heap.size 68 3 v2 n (valsV l) := by simpa using hown2
    obtain ⟨q2, c2, rfl, h21, h22⟩ := row_shape hr2
    have hb2 : ∀ j, (Value.slice q2 n c2).ownBlock = some j → w.heap.size ≤ j ∧ j < w2.heap.size := fun j hj => World.ownsRow.lt hr2 j hj
    have hq2 : ∃ g2, q2 = some ⟨g2, 0, none⟩ := by
      rcases hr2.2 with ⟨e, h0⟩ | ⟨g', cap, cur, e, -⟩
      · omega
      · exact ⟨g', by injection e⟩
    obtain ⟨g2, rfl⟩ := hq2
    have Hc2 := Lib.hid hc2
    have Hr2 := Lib.hid hr2
    have Hb2 := Lib.hid (hb2 g2 rfl)
    have HM2 := Lib.hid (Hm.out.keep hc2)
    unfold maxLen at h22
    clear hown2 hgr2 hpl2 hg2 hc2 hr2 hb2 y0r
    go_wp2_with fail
    go_loopw [7, 33] (fun _ i wr => ∃ j : Nat, j ≤ n ∧ i = .int .i64 j ∧ RStep sb (.slice (some ⟨g, 0, none⟩) k c, lv, cv) (.slice (some ⟨g, 0, none⟩) k c, lv, cv) w2 wr ∧ RefM wr lo sb (takeAt ks l s j) (.slice (some ⟨g, 0, none⟩) k c, lv, cv)) (fun _ i _ => n - (intOf i).toNat)
    case atStart => exact ⟨0, Nat.zero_le _, rfl, RStep.refl _ _ _, by rw [takeAt_zero]; exact HM2.out⟩
    case round =>
      obtain ⟨j, hj, rfl, hs3, hm3⟩ := hrel
      have hrow3 : wr.ownsRow w.heap.size 68 3 (.slice (some ⟨g2, 0, none⟩) n c2) n (valsV l) := ownsRow_chg Hr2.out hs3.chg fun x hx e => by
        have e2 : g2 = x := Option.some.inj hx
        subst e2
        rcases e with e | e
        · have h1 := Hb2.out.1; have h2 := Hlo.out; omega
        · have h1 := (Hm.out.low.1 g2 e).2; have h2 := Hb2.out.1; omega
      have Hs3 := Lib.hid hs3
      have Hm3 := Lib.hid hm3
      have Hr3 := Lib.hid hrow3
      clear hs3 hm3 hrow3
      by_cases hjl : j < n
      · have hj1 : j < ks.length := by rw [← Hn.out]; exact hjl
        have hj2 : j < l.length := by rw [Hll.out]; exact hjl
        have d0 := World.ownsRow.cells (g := g2) Hr3.out rfl (j * 3) _ (valsV_at l j hj2).1
        rw [add_zero_off] at d0
        have hG := takeAt_good (s := s) hj1 hj2
        have hB := takeAt_bad (s := s) hj1 hj2
        have HG := Lib.hid (rfail_same 41 Hm3.out)
        have hbk : badK ks[j] l[j] = ((ks[j] == 110 && l[j].1) || (ks[j] == 116 && !l[j].1)) := rfl
        have u1 : (((ks[j].toNat : Nat) : Int) == 110) = (ks[j] == 110) := u8_eq ks[j] 110 (by decide)
        have u2 : (((ks[j].toNat : Nat) : Int) == 116) = (ks[j] == 116) := u8_eq ks[j] 116 (by decide)
        obtain ⟨p1, hp1⟩ : ∃ z, z = (ks[j] == 110) := ⟨_, rfl⟩
        obtain ⟨p2, hp2⟩ : ∃ z, z = (ks[j] == 116) := ⟨_, rfl⟩
        obtain ⟨p3, hp3⟩ : ∃ z, z = l[j].1 := ⟨_, rfl⟩
        rw [← hp1] at u1
        rw [← hp2] at u2
        have hjs : j < (tx ks).size := by rw [hsz]; exact hjl
        have hgt : (tx ks)[j]'hjs = ks[j] := rfl
        have U1 := Lib.hid (show ((((tx ks)[j]'hjs).toNat : Nat) : Int) = 110 ↔ p1 = true by rw [hgt, ← u1, beq_iff_eq]; exact Iff.rfl)
        have U2 := Lib.hid (show ((((tx ks)[j]'hjs).toNat : Nat) : Int) = 116 ↔ p2 = true by rw [hgt, ← u2, beq_iff_eq]; exact Iff.rfl)
        clear u1 u2 hgt
        rw [← hp1, ← hp2, ← hp3] at hbk
        rw [← hp3] at d0
        have Hbk := Lib.hid hbk
        have HGd := Lib.hid hG
        have HBd := Lib.hid hB
        clear hp1 hp2 hp3 hbk hG hB
        cases p1 with
        | true =>
          have e1 := U1.out.2 rfl
          cases p3 with
          | true =>
            have hbad := HBd.out Hbk.out
            go_wp2_with fail
            refine HG.out.mono ?_
            rintro e w4 ⟨rfl, hs4, hm4⟩
            rw [hbad] at hm4
            have Hf4 := Lib.hid (And.intro (Hs3.out.trans hs4) hm4)
            clear hs4 hm4 hbad HG
            go_wp2_with fail
            go_roundw
            case rel => exact ⟨j + 1, by omega, by go_num, Hf4.out.1, Hf4.out.2⟩
            case measure => simp [intOf]; omega
          | false =>
            cases p2 with
            | true =>
              exfalso
              have e2 := U2.out.2 rfl
              omega
            | false =>
              have e2 := fun h => Bool.false_ne_true (U2.out.1 h)
              have hgood := HGd.out Hbk.out
              have Hm3g := Lib.hid (show RefM wr lo sb (takeAt ks l s (j + 1)) _ by rw [← hgood]; exact Hm3.out)
              clear hgood HG
              go_wp2_with fail
              go_roundw
              case rel => exact ⟨j + 1, by omega, by go_num, Hs3.out, Hm3g.out⟩
              case measure => simp [intOf]; omega
        | false =>
          have e1 := fun h => Bool.false_ne_true (U1.out.1 h)
          cases p2 with
          | true =>
            have e2 := U2.out.2 rfl
            cases p3 with
            | true =>
              have hgood := HGd.out Hbk.out
              have Hm3g := Lib.hid (show RefM wr lo sb (takeAt ks l s (j + 1)) _ by rw [← hgood]; exact Hm3.out)
              clear hgood HG
              go_wp2_with fail
              go_roundw
              case rel => exact ⟨j + 1, by omega, by go_num, Hs3.out, Hm3g.out⟩
              case measure => simp [intOf]; omega
            | false =>
              have hbad := HBd.out Hbk.out
              go_wp2_with fail
              refine HG.out.mono ?_
              rintro e w4 ⟨rfl, hs4, hm4⟩
              rw [hbad] at hm4
              have Hf4 := Lib.hid (And.intro (Hs3.out.trans hs4) hm4)
              clear hs4 hm4 hbad HG
              go_wp2_with fail
              go_roundw
              case rel => exact ⟨j + 1, by omega, by go_num, Hf4.out.1, Hf4.out.2⟩
              case measure => simp [intOf]; omega
          | false =>
            have e2 := fun h => Bool.false_ne_true (U2.out.1 h)
            have hgood := HGd.out Hbk.out
            have Hm3g := Lib.hid (show RefM wr lo sb (takeAt ks l s (j + 1)) _ by rw [← hgood]; exact Hm3.out)
            clear hgood HG
            go_wp2_with fail
            go_roundw
            case rel => exact ⟨j + 1, by omega, by go_num, Hs3.out, Hm3g.out⟩
            case measure => simp [intOf]; omega
      · obtain rfl : j = n := by omega
        clear hjl hj
        obtain ⟨w3, rfl⟩ : ∃ z, z = wr := ⟨_, rfl⟩
        have y3 : w3.cell? ⟨sb, 0, none⟩ = some (.slice (some ⟨g, 0, none⟩) k c) := by obtain ⟨_, _, h, _⟩ := Hm3.out.cells; exact h
        have yf3 := Hm3.out.free 0
        have hal_ := (Chg.refl NoB w3).alloc (.cells #[] 68)
        have hb_ := heap_alloc_new w3 (.cells #[] 68)
        obtain ⟨zc, hxb_⟩ : ∃ b, b = w3.heap.size := ⟨_, rfl⟩
        obtain ⟨w4, hw_⟩ : ∃ w_, w3.alloc (.cells #[] 68) = w_ := ⟨_, rfl⟩
        have hz_ : w4.heap.size = zc + 1 := by rw [← hw_, hxb_]; exact alloc_size _ _
        rw [hw_] at hal_ hb_
        rw [← hxb_] at hb_
        have Hw4 := Lib.hid hw_
        have Hx4 := Lib.hid hxb_
        have Ha4 := Lib.hid hal_
        have Hb4 := Lib.hid hb_
        have Hz4 := Lib.hid hz_
        clear hal_ hb_ hxb_ hw_ hz_
        have y4 := Ha4.out.keep y3
        have y4r := ((Chg.refl NoB w3).alloc (.cells #[] 68)).keep y3
        have HE4 : Hid (w4.ownsRow lo 68 3 (.slice (some ⟨zc, 0, none⟩) 0 0) 0 []) := Lib.hid ⟨rfl, .inr ⟨zc, 0, #[], rfl, by rw [Hx4.out]; exact Hm3.out.lo.2, Hb4.out, Nat.le_refl _, Nat.zero_le _, rfl, rfl⟩⟩
        have hst3 := Hm3.out.st
        rw [(takeAt_same ks l s j).1, ← Hk.out] at hst3
        have hcl3 := World.ownsRow.cells (g := g) (ownsRow_chg hst3 Ha4.out fun _ _ => id) rfl
        have HT4 : Hid (∀ x u, (valsV (s.stack.take m))[x]? = some u → w4.cell? ((⟨g, 0, none⟩ : Addr).add x) = some u) := Lib.hid (fun x u hx => by
          rw [valsV_take, List.getElem?_take] at hx
          split at hx
          · exact hcl3 _ _ hx
          · cases hx)
        have Hlm := Lib.hid (show (valsV (s.stack.take m)).length = m * 3 by rw [valsV_len, List.length_take, ← Hk.out]; omega)
        have hlo4 := Lib.hid (show lo ≤ w4.heap.size from Nat.le_trans Hm3.out.lo.2 Ha4.out.size)
        clear hst3 hcl3
        go_upto_region 13 with (at_builtin; go_must (rw [← Hx4.out, Hw4.out]); go_must (refine wpList_append_at _ rfl _ _ 61 rfl lo 68 i0 (.agg #[.bool false, .int .i64 0, .string ⟨#[]⟩]) 3 32 Tryz.underlying61 Hi.out Zi0.out Zi1.out Zi2.out rfl (by decide) (.slice (some ⟨zc, 0, none⟩) 0 0) 0 [] rfl HE4.out ⟨g, 0, none⟩ m c (valsV (s.stack.take m)) rfl Hlm.out HT4.out (valsV_one _) (by omega) (by omega) hlo4.out ?_); intro v5 w5 hown5 hgr5 hpl5; obtain ⟨q5, c5, rfl, -, -⟩ := row_shape hown5; have hg5 : Chg (fun j => j = zc) w4 w5 := (Chg.refl (fun j => j = zc) w4).grown hgr5 (fun j hj => .inl (Option.some.inj hj).symm); have hc35 : Chg NoB w3 w5 := Ha4.out.transR hg5 (fun x hx e => by have e2 : x = zc := e; have h1 := Hx4.out; exact absurd hx (by omega)); have y5 := hc35.keep y3; have yf5 := (Hm3.out.keep hc35).free 0)
        have hpl5 : (Value.slice q5 m c5).ownBlock = some zc ∨ (Value.slice q5 m c5).ownBlock = some w4.heap.size := by rw [Nat.zero_add] at hpl5; exact hpl5
        have hlm : (s.stack.take m).length = m := by rw [List.length_take, ← Hk.out]; omega
        have HP := Lib.hid (Hm3.out.stack (sv := .slice q5 m c5) (l := s.stack.take m) (hc35.mono fun _ _ h => h.elim) (by rw [hlm]; simpa using hown5) (fun x hx => .inr (by
          rcases hpl5 with h | h
          · have hx := h.symm.trans hx; have e2 : zc = x := Option.some.inj hx; have h1 := Hx4.out; omega
          · have hx := h.symm.trans hx; have e2 : w4.heap.size = x := Option.some.inj hx; have h1 := Hx4.out; have h2 := Hz4.out; omega)))
        have Hq5 := Lib.hid (show ∀ x, (Value.slice q5 m c5).ownBlock = some x → w3.heap.size ≤ x from fun x hx => by
          rcases hpl5 with h | h
          · have hx := h.symm.trans hx; have e2 : zc = x := Option.some.inj hx; have h1 := Hx4.out; omega
          · have hx := h.symm.trans hx; have e2 : w4.heap.size = x := Option.some.inj hx; have h1 := Hx4.out; have h2 := Hz4.out; omega)
        have Hb23 := Lib.hid (show g2 < w3.heap.size from Nat.lt_of_lt_of_le Hb2.out.2 Hs3.out.chg.size)
        clear hown5 hgr5 hpl5 hg5 y4 y4r y3
        go_wp2_with fail
        go_ret
        refine ⟨some ⟨g2, 0, none⟩, c2, rfl, ?_, .slice q5 m c5, lv, cv, (RStep.of_chg Hc2.out).trans (Hs3.out.trans HP.out.2), HP.out.1, fun x hx hf => ?_⟩
        · refine ownsRow_chg Hr3.out HP.out.2.chg fun x hx e => ?_
          have e2 : g2 = x := Option.some.inj hx
          subst e2
          rcases e with e | e
          · have h1 := Hb2.out.1; have h2 := Hlo.out; omega
          · have h1 := (Hm.out.low.1 g2 e).2; have h2 := Hb2.out.1; omega
        · have e2 : g2 = x := Option.some.inj hx
          subst e2
          rcases hf with hf | hf
          · have h1 := Hq5.out _ hf; have h2 := Hb23.out; omega
          · have h1 := (Hm.out.low.1 g2 (.inr hf)).2; have h2 := Hb2.out.1; omega
end Go.Proofs.YthehpmffkkogpaaGreatDoor
namespace Go.Proofs.YthehpmffkkogpaaGreatDoor
set_option linter.unusedVariables false
open Go.ChangeShapes Go.WideShapes Go.ChangeAt Go.RowKit
theorem takeL_len (ks : List UInt8) (s : RS) : (takeL ks s).length = ks.length := by
  unfold takeL
  split
  · rw [List.length_replicate]
  · rw [List.length_drop]; omega
theorem takeS_stack (ks : List UInt8) {s : RS} (h : s.stack.length ≤ 64) : (takeS ks s).stack.length ≤ 64 := by
  unfold takeS
  split
  · unfold failS; split <;> exact h
  · show (s.stack.take _).length ≤ 64
    rw [List.length_take]; omega
theorem vals_cells {w : World} {lo n c : Nat} {q : Option Addr} {l : List ValL} (h : w.ownsRow lo 68 3 (.slice q n c) n (valsV l)) (h1 : 1 ≤ n) (hl : l.length = n) : n ≤ c ∧ c ≤ maxLen ∧ ∃ g, q = some ⟨g, 0, none⟩ ∧ ∀ i (hi : i < l.length), w.cell? ⟨g, i * 3, none⟩ = some (.bool l[i].1) ∧ w.cell? ⟨g, i * 3 + 1, none⟩ = some (.int .i64 l[i].2.1) ∧ w.cell? ⟨g, i * 3 + 2, none⟩ = some (.string (tx l[i].2.2)) := by
  rcases h.2 with ⟨e, h0⟩ | ⟨g, cap, cur, e, h2, h3, h4, h5, h6⟩
  · omega
  · injection e with e1 e2 e3
    subst e1 e3
    refine ⟨h4, h5, g, rfl, fun i hi => ?_⟩
    obtain ⟨a1, a2, a3⟩ := valsV_at l i hi
    have b1 := World.ownsRow.cells (g := g) h rfl _ _ a1
    have b2 := World.ownsRow.cells (g := g) h rfl _ _ a2
    have b3 := World.ownsRow.cells (g := g) h rfl _ _ a3
    rw [add_zero_off] at b1 b2 b3
    exact ⟨b1, b2, b3⟩
def reckS (op : Int) (s : RS) : RS :=
  let l := takeL [110, 110] s
  let t := takeS [110, 110] s
  if t.fault = 0 then (match reckF op (l.getD 0 (numV 0)).2.1 (l.getD 1 (numV 0)).2.1 with | none => failS 42 t | some k => putS (numV k) t) else t
set_option maxHeartbeats 4000000 in
set_option maxRecDepth 20000 in
theorem rreck_any (op : Int) (hop : op = 9 ∨ op = 10 ∨ op = 11 ∨ op = 12 ∨ op = 13) {w : World} {lo sb : Nat} {s : RS} {F : Value × Value × Value} (hm : RefM w lo sb s F) (hs : s.stack.length ≤ 64) (hb : ∀ v ∈ s.stack, -9223372036854775808 ≤ v.2.1 ∧ v.2.1 ≤ 9223372036854775807) :
    Calls Tryz.prog 55 #[.pointer (some ⟨sb, 0, none⟩), .string (tx (wordL op))] w (ROut lo sb F (reckS op s) w) := by
  have HT := Lib.hid (rtake_any [110, 110] (by decide) (by decide) hm hs)
  obtain ⟨a, b, hl⟩ : ∃ a b : ValL, takeL [110, 110] s = [a, b] := by
    have h := takeL_len [110, 110] s
    match hl : takeL [110, 110] s, h with
    | [a, b], _ => exact ⟨a, b, rfl⟩
  have Hs0 := Lib.hid (takeS_stack [110, 110] hs)
  have hba : ∀ v ∈ takeL [110, 110] s, -9223372036854775808 ≤ v.2.1 ∧ v.2.1 ≤ 9223372036854775807 := fun v hv => by
    unfold takeL at hv
    split at hv
    · rw [List.eq_of_mem_replicate hv]; decide
    · exact hb v (List.mem_of_mem_drop hv)
  rw [hl] at hba
  have ha1 := hba a (by simp)
  have hb1 := hba b (by simp)
  obtain ⟨at0, an, as0⟩ := a
  obtain ⟨bt0, bn, bs0⟩ := b
  simp only at ha1 hb1
  have hrs : ∀ o : Int, reckS o s = if (takeS [110, 110] s).fault = 0 then (match reckF o an bn with | none => failS 42 (takeS [110, 110] s) | some k => putS (numV k) (takeS [110, 110] s)) else takeS [110, 110] s := fun o => by
    unfold reckS
    rw [hl]
    rfl
  unfold TakeP at HT
  rw [hl] at HT
  have Hrs := Lib.hid hrs
  obtain ⟨t, ht⟩ : ∃ z, z = takeS [110, 110] s := ⟨_, rfl⟩
  rw [← ht] at HT Hs0 Hrs
  obtain ⟨r, hr⟩ : ∃ z, z = reckS op s := ⟨_, rfl⟩
  rw [← hr]
  rw [Hrs.out] at hr
  have Hr := Lib.hid hr
  clear hm hs hb hba hl hrs ht hr
  go_enter Tryz.func55, Tryz.ntmps55
  go_wp2_with fail
  refine HT.out.mono ?_
  rintro e w2 ⟨q2, c2, rfl, hr2, F2, hs2, hm2, hn2⟩
  obtain ⟨h3, h4, g, rfl, hc⟩ := vals_cells hr2 (by decide) rfl
  have d1 := (hc 0 (by show 0 < 2; decide)).2.1
  have d4 := (hc 1 (by show 1 < 2; decide)).2.1
  change w2.cell? ⟨g, 1, none⟩ = some (.int .i64 an) at d1
  change w2.cell? ⟨g, 4, none⟩ = some (.int .i64 bn) at d4
  have y7 : w2.drew.cell? ⟨sb, 7, none⟩ = some (.int .i64 t.fault) := by obtain ⟨_, _, _, _, _, _, _, _, _, h⟩ := hm2.cells; exact h
  have Hs2 := Lib.hid (hs2.trans (RStep.of_chg (Chg.refl NoB w2).drew))
  have Hm2 := Lib.hid (hm2.keep (Chg.refl NoB w2).drew)
  unfold maxLen at h4
  clear hr2 hs2 hm2 hn2 hc HT
  go_upto_region 1 with fail
  have hA : w2.cell? ⟨g, 1, none⟩ = some (.int .i64 an) ∧ w2.cell? ⟨g, 4, none⟩ = some (.int .i64 bn) := ⟨d1, d4⟩
  have hB : w2.drew.cell? ⟨g, 1, none⟩ = some (.int .i64 an) ∧ w2.drew.cell? ⟨g, 4, none⟩ = some (.int .i64 bn) := ⟨d1, d4⟩
  go_region_held3 (fun w' => w'.cell? ⟨g, 1, none⟩ = some (.int .i64 an) ∧ w'.cell? ⟨g, 4, none⟩ = some (.int .i64 bn)) (first | with_reducible exact hA | with_reducible exact hB) (fail)
  clear hA hB d1 d4
  by_cases hf : t.fault = 0
  case neg =>
    have Hr2 : Hid (r = t) := Lib.hid (by rw [Hr.out, if_neg hf])
    have hf2 : (t.fault != 0) = true := by rw [bne_iff_ne]; exact hf
    clear hf
    generalize t.fault = ft at *
    go_wp2_with fail
    go_end0
    exact ⟨rfl, F2, Hs2.out, by rw [Hr2.out]; exact Hm2.out⟩
  have Hr1 : Hid (r = match reckF op an bn with | none => failS 42 t | some k => putS (numV k) t) := Lib.hid (by rw [Hr.out, if_pos hf])
  rw [hf] at y7
  clear hf
  rcases hop with rfl | rfl | rfl | rfl | rfl
  · have Hr2 : Hid (r = putS (numV (wrap64 (an + bn))) t) := Lib.hid Hr1.out
    have hw : tx (wordL 9) = ⟨#[97, 100, 100]⟩ := rfl
    go_wp2_with fail
    refine (rnum_any _ Hm2.out Hs0.out).mono ?_
    rintro e w9 ⟨rfl, F9, hs9, hm9⟩
    have H9 := Lib.hid (And.intro (Hs2.out.trans hs9) hm9)
    clear hs9 hm9
    go_wp2_with fail
    go_end0
    exact ⟨rfl, F9, H9.out.1, by rw [Hr2.out]; exact H9.out.2⟩
  · have Hr2 : Hid (r = putS (numV (wrap64 (an - bn))) t) := Lib.hid Hr1.out
    have hw : tx (wordL 10) = ⟨#[115, 117, 98]⟩ := rfl
    go_wp2_with fail
    refine (rnum_any _ Hm2.out Hs0.out).mono ?_
    rintro e w9 ⟨rfl, F9, hs9, hm9⟩
    have H9 := Lib.hid (And.intro (Hs2.out.trans hs9) hm9)
    clear hs9 hm9
    go_wp2_with fail
    go_end0
    exact ⟨rfl, F9, H9.out.1, by rw [Hr2.out]; exact H9.out.2⟩
  · have Hr2 : Hid (r = putS (numV (wrap64 (an * bn))) t) := Lib.hid Hr1.out
    have hw : tx (wordL 11) = ⟨#[109, 117, 108]⟩ := rfl
    go_wp2_with fail
    refine (rnum_any _ Hm2.out Hs0.out).mono ?_
    rintro e w9 ⟨rfl, F9, hs9, hm9⟩
    have H9 := Lib.hid (And.intro (Hs2.out.trans hs9) hm9)
    clear hs9 hm9
    go_wp2_with fail
    go_end0
    exact ⟨rfl, F9, H9.out.1, by rw [Hr2.out]; exact H9.out.2⟩
  · by_cases hz : bn = 0
    · have Hr2 : Hid (r = failS 42 t) := Lib.hid (by rw [Hr1.out, show reckF 12 an bn = if bn = 0 then none else some (wrap64 (an.tdiv bn)) from rfl, if_pos hz])
      subst hz
      have hw : tx (wordL 12) = ⟨#[100, 105, 118]⟩ := rfl
      go_wp2_with fail
      refine (rfail_any 42 Hm2.out).mono ?_
      rintro e w9 ⟨rfl, F9, hs9, hm9⟩
      have H9 := Lib.hid (And.intro (Hs2.out.trans hs9) hm9)
      clear hs9 hm9
      go_wp2_with fail
      go_end0
      exact ⟨rfl, F9, H9.out.1, by rw [Hr2.out]; exact H9.out.2⟩
    · have Hr2 : Hid (r = putS (numV (wrap64 (an.tdiv bn))) t) := Lib.hid (by rw [Hr1.out, show reckF 12 an bn = if bn = 0 then none else some (wrap64 (an.tdiv bn)) from rfl, if_neg hz])
      have hw : tx (wordL 12) = ⟨#[100, 105, 118]⟩ := rfl
      go_wp2_with fail
      refine (rnum_any _ Hm2.out Hs0.out).mono ?_
      rintro e w9 ⟨rfl, F9, hs9, hm9⟩
      have H9 := Lib.hid (And.intro (Hs2.out.trans hs9) hm9)
      clear hs9 hm9
      go_wp2_with fail
      go_end0
      exact ⟨rfl, F9, H9.out.1, by rw [Hr2.out]; exact H9.out.2⟩
  · by_cases hz : bn = 0
    · have Hr2 : Hid (r = failS 42 t) := Lib.hid (by rw [Hr1.out, show reckF 13 an bn = if bn = 0 then none else some (an.tmod bn) from rfl, if_pos hz])
      subst hz
      have hw : tx (wordL 13) = ⟨#[109, 111, 100]⟩ := rfl
      go_wp2_with fail
      refine (rfail_any 42 Hm2.out).mono ?_
      rintro e w9 ⟨rfl, F9, hs9, hm9⟩
      have H9 := Lib.hid (And.intro (Hs2.out.trans hs9) hm9)
      clear hs9 hm9
      go_wp2_with fail
      go_end0
      exact ⟨rfl, F9, H9.out.1, by rw [Hr2.out]; exact H9.out.2⟩
    · have Hr2 : Hid (r = putS (numV (an.tmod bn)) t) := Lib.hid (by rw [Hr1.out, show reckF 13 an bn = if bn = 0 then none else some (an.tmod bn) from rfl, if_neg hz])
      have hw : tx (wordL 13) = ⟨#[109, 111, 100]⟩ := rfl
      go_wp2_with fail
      refine (rnum_any _ Hm2.out Hs0.out).mono ?_
      rintro e w9 ⟨rfl, F9, hs9, hm9⟩
      have H9 := Lib.hid (And.intro (Hs2.out.trans hs9) hm9)
      clear hs9 hm9
      go_wp2_with fail
      go_end0
      exact ⟨rfl, F9, H9.out.1, by rw [Hr2.out]; exact H9.out.2⟩
end Go.Proofs.YthehpmffkkogpaaGreatDoor
namespace Go.Proofs.YthehpmffkkogpaaGreatDoor
set_option linter.unusedVariables false
open Go.ChangeShapes Go.WideShapes Go.ChangeAt Go.RowKit
def goesS (op n : Int) (s : RS) : RS :=
  if op = 1 then { s with halted := true }
  else if op = 17 then { s with at' := n }
  else if op = 18 then (if (takeS [110] s).fault = 0 ∧ ((takeL [110] s).getD 0 (numV 0)).2.1 = 0 then { takeS [110] s with at' := n } else takeS [110] s)
  else if op = 19 then (if s.calls.length = 16 then failS 40 s else { s with calls := s.calls ++ [s.at'], at' := n })
  else if op = 20 then (if s.calls.length = 0 then failS 40 s else { s with at' := s.calls.getLastD 0, calls := s.calls.dropLast })
  else failS 44 s
theorem refIntInfo : (Tryz.prog.info? 3).map (fun i => (i.zero, i.size, i.bytes)) = some (some (.int .i64 0), 1, 8) := by kernel_rfl
theorem refInts_snoc (l : List Int) (n : Int) : intsV (l ++ [n]) = intsV l ++ [.int .i64 n] := by simp [intsV]
set_option maxHeartbeats 4000000 in
set_option maxRecDepth 20000 in
theorem rgoes_any (op n : Int) (t : List UInt8) (hop : op = 1 ∨ op = 17 ∨ op = 18 ∨ op = 19 ∨ op = 20 ∨ op = 30) {w : World} {lo sb : Nat} {s : RS} {F : Value × Value × Value} (hm : RefM w lo sb s F) (hs : s.stack.length ≤ 64) (hc : s.calls.length ≤ 16) :
    Calls Tryz.prog 56 #[.pointer (some ⟨sb, 0, none⟩), .string (tx (wordL op)), .agg #[.int .i64 op, .int .i64 n, .string (tx t)]] w (ROut lo sb F (goesS op n s) w) := by
  obtain ⟨r, hr⟩ : ∃ z, z = goesS op n s := ⟨_, rfl⟩
  rw [← hr]
  unfold goesS at hr
  have hal_ := (Chg.refl NoB w).alloc (.cells #[.int .i64 op, .int .i64 n, .string (tx t)] 46)
  have hb_ := heap_alloc_new w (.cells #[.int .i64 op, .int .i64 n, .string (tx t)] 46)
  obtain ⟨xb, hxb_⟩ : ∃ b, b = w.heap.size := ⟨_, rfl⟩
  obtain ⟨w1, hw_⟩ : ∃ w_, w.alloc (.cells #[.int .i64 op, .int .i64 n, .string (tx t)] 46) = w_ := ⟨_, rfl⟩
  have hz_ : w1.heap.size = xb + 1 := by rw [← hw_, hxb_]; exact alloc_size _ _
  rw [hw_] at hal_ hb_
  rw [← hxb_] at hb_
  have Hw1 := Lib.hid hw_
  have Hx1 := Lib.hid hxb_
  have Ha1 := Lib.hid hal_
  have Hb1 := Lib.hid hb_
  have Hz1 := Lib.hid hz_
  clear hal_ hb_ hxb_ hw_ hz_
  have hnx : ¬ (xb = sb ∨ Foot3 F xb) := fun e => by
    have h0 := Hx1.out
    rcases e with e | e
    · have := hm.lo; omega
    · have := (hm.low.1 xb e).2; omega
  have Hnx := Lib.hid hnx
  replace hm := hm.keep Ha1.out
  have Hm := Lib.hid hm
  have Hs1 := Lib.hid (RStep.of_chg (sb := sb) (F := F) Ha1.out)
  obtain ⟨x0, x1, x2⟩ := var3 Hb1.out
  have HE := Lib.hid fun y => rfail_any y hm
  obtain ⟨oq, oc, y0, y1, y2, y3, y4, y5, y6, y7⟩ := hm.cells
  have yf := hm.free
  clear hnx
  rcases hop with rfl | rfl | rfl | rfl | rfl | rfl
  · have Hr := Lib.hid hr
    have hw : tx (wordL 1) = ⟨#[104, 97, 108, 116]⟩ := rfl
    have HF := Lib.hid (hm.field 6 (.bool true) { s with halted := true } rfl rfl rfl rfl fun ov => rfl)
    clear hr hm y0 y1 y2 y3 y4 y5 y7
    go_enter Tryz.func56, Tryz.ntmps56
    go_upto_region 1 with fail
    rw [Hw1.out, ← Hx1.out]
    go_wp2_with fail
    go_end0
    exact ⟨rfl, F, Hs1.out.trans HF.out.2, by rw [Hr.out]; exact HF.out.1⟩
  · have Hr := Lib.hid hr
    have hw : tx (wordL 17) = ⟨#[106, 117, 109, 112]⟩ := rfl
    have HF := Lib.hid (hm.field 4 (.int .i64 n) { s with at' := n } rfl rfl rfl rfl fun ov => rfl)
    clear hr hm y0 y1 y2 y3 y5 y6 y7
    go_enter Tryz.func56, Tryz.ntmps56
    go_upto_region 1 with fail
    rw [Hw1.out, ← Hx1.out]
    go_wp2_with fail
    go_end0
    exact ⟨rfl, F, Hs1.out.trans HF.out.2, by rw [Hr.out]; exact HF.out.1⟩
  · have HT := Lib.hid (rtake_any [110] (by decide) (by decide) hm hs)
    obtain ⟨a, hl⟩ : ∃ a : ValL, takeL [110] s = [a] := by
      have h := takeL_len [110] s
      match hl : takeL [110] s, h with
      | [a], _ => exact ⟨a, rfl⟩
    obtain ⟨at0, an, as0⟩ := a
    have Hr : Hid (r = if (takeS [110] s).fault = 0 ∧ an = 0 then { takeS [110] s with at' := n } else takeS [110] s) := Lib.hid (by rw [hr, hl]; rfl)
    unfold TakeP at HT
    rw [hl] at HT
    obtain ⟨u, hu⟩ : ∃ z, z = takeS [110] s := ⟨_, rfl⟩
    rw [← hu] at HT Hr
    have hw : tx (wordL 18) = ⟨#[122, 101, 114, 111]⟩ := rfl
    clear hr hm hs hc hl hu y0 y1 y2 y3 y4 y5 y6 y7
    go_enter Tryz.func56, Tryz.ntmps56
    go_upto_region 1 with fail
    rw [Hw1.out, ← Hx1.out]
    go_wp2_with fail
    refine HT.out.mono ?_
    rintro e w2 ⟨q2, c2, rfl, hr2, F2, hs2, hm2, hn2⟩
    obtain ⟨h3, h4, g, rfl, hcl⟩ := vals_cells hr2 (by decide) rfl
    have d1 := (hcl 0 (by show 0 < 1; decide)).2.1
    change w2.cell? ⟨g, 1, none⟩ = some (.int .i64 an) at d1
    have x1b := hs2.chg.cell x1 Hnx.out
    clear x0 x1 x2 yf
    obtain ⟨oq2, oc2, y0, y1, y2, y3, y4, y5, y6, y7⟩ := hm2.cells
    have yf := hm2.free
    have Hs2 := Lib.hid (Hs1.out.trans hs2)
    have Hm2 := Lib.hid hm2
    unfold maxLen at h4
    clear hr2 hs2 hm2 hn2 hcl HT y0 y1 y2 y3 y5 y6
    by_cases hf : u.fault = 0
    · rw [hf] at y7
      by_cases hz : an = 0
      · have HF := Lib.hid (Hm2.out.field 4 (.int .i64 n) { u with at' := n } rfl rfl rfl rfl fun ov => rfl)
        have Hr2 := Lib.hid (show r = { u with at' := n } by rw [Hr.out, if_pos ⟨hf, hz⟩])
        subst hz
        clear hf
        go_wp2_with fail
        go_end0
        exact ⟨rfl, F2, Hs2.out.trans HF.out.2, by rw [Hr2.out]; exact HF.out.1⟩
      · have Hr2 := Lib.hid (show r = u by rw [Hr.out, if_neg (fun e => hz e.2)])
        have hz2 : (an == 0) = false := by rw [beq_eq_false_iff_ne]; exact hz
        clear hf hz
        go_wp2_with fail
        go_end0
        exact ⟨rfl, F2, Hs2.out, by rw [Hr2.out]; exact Hm2.out⟩
    · have Hr2 := Lib.hid (show r = u by rw [Hr.out, if_neg (fun e => hf e.1)])
      have hf2 : (u.fault == 0) = false := by rw [beq_eq_false_iff_ne]; exact hf
      clear hf
      generalize u.fault = ft at *
      go_wp2_with fail
      go_end0
      exact ⟨rfl, F2, Hs2.out, by rw [Hr2.out]; exact Hm2.out⟩
  · have hw : tx (wordL 19) = ⟨#[99, 97, 108, 108]⟩ := rfl
    replace hr : r = if s.calls.length = 16 then failS 40 s else { s with calls := s.calls ++ [s.at'], at' := n } := hr
    obtain ⟨sv, lv, cv⟩ := F
    obtain ⟨q, c, e, h1, h2⟩ := row_shape hm.ca
    simp only at e y2
    subst e
    obtain ⟨k, hk⟩ : ∃ k, k = s.calls.length := ⟨_, rfl⟩
    rw [← hk] at y2 hc h1 hr
    unfold maxLen at h2
    by_cases h16 : k = 16
    · rw [if_pos h16] at hr
      have Hr := Lib.hid hr
      rw [← hk] at HE Hs1 ⊢
      subst h16
      clear hr hm hk y0 y1 y3 y4 y5 y6 y7
      go_enter Tryz.func56, Tryz.ntmps56
      go_upto_region 1 with fail
      rw [Hw1.out, ← Hx1.out]
      go_wp2_with fail
      refine (HE.out 40).mono ?_
      rintro e w9 ⟨rfl, F9, hs9, hm9⟩
      have H9 := Lib.hid (And.intro (Hs1.out.trans hs9) hm9)
      clear hs9 hm9
      go_wp2_with fail
      first | go_end0 | refine bodyPost_ret (results_none rfl _ _ _) rfl ?_
      exact ⟨rfl, F9, H9.out.1, by rw [Hr.out]; exact H9.out.2⟩
    · rw [if_neg h16] at hr
      have Hr := Lib.hid hr
      have Hk := Lib.hid hk
      have hal := (Chg.refl NoB w1).alloc (.cells #[.int .i64 s.at'] 3)
      have Hal := Lib.hid hal
      have HO := Lib.hid (ownsRow_chg (show w1.ownsRow lo 3 1 (.slice q k c) k (intsV s.calls) by have := hm.ca; rw [← hk] at this; exact this) hal fun _ _ => id)
      obtain ⟨i0, hi, hz0, hz1, hz2⟩ := info_parts refIntInfo
      have Hi := Lib.hid hi
      have Zi0 := Lib.hid hz0
      have Zi1 := Lib.hid hz1
      have Zi2 := Lib.hid hz2
      have N1 := Lib.hid (show k + 1 ≤ maxLen by unfold maxLen; omega)
      have N2 := Lib.hid (show (k + 1) * 8 ≤ 140737488355328 by omega)
      have Hb := Lib.hid (show lo ≤ (w1.alloc (.cells #[.int .i64 s.at'] 3)).drew.heap.size from Nat.le_trans hm.lo.2 hal.size)
      have L1 := Lib.hid (show ∀ (j : Nat) (u : Value), [Value.int .i64 s.at'][j]? = some u → (w1.alloc (.cells #[.int .i64 s.at'] 3)).cell? ((⟨w1.heap.size, 0, none⟩ : Addr).add j) = some u from fun j u hj => by
        rw [add_zero_off, cell_of_row _ w1.heap.size j _ 3 (0, 0) (heap_alloc_new w1 _), ← hj]; simp)
      have h16b : ((k : Int) == 16) = false := by rw [beq_eq_false_iff_ne]; omega
      have y2a := hal.keep y2
      have y4a := hal.keep y4
      rw [← hk] at Hm Hs1 ⊢
      clear hr hm hal hi hz0 hz1 hz2 y0 y1 y3 y5 y6 y7 hk h16 HE
      go_enter Tryz.func56, Tryz.ntmps56
      go_upto_region 1 with fail
      rw [Hw1.out, ← Hx1.out]
      go_upto_region 13 with fail
      go_region_law (refine step_append_at (by rfl) _ (.tmp 56) (.tmp 61) 32 (by rfl) lo 3 i0 (.int .i64 0) 1 8 Tryz.underlying32 Hi.out Zi0.out Zi1.out Zi2.out rfl (by decide) _ k (intsV s.calls) (by rfl) HO.out ⟨w1.heap.size, 0, none⟩ 1 1 [.int .i64 s.at'] (by rfl) rfl L1.out (fun u hu => by rw [List.mem_singleton.1 hu]; rfl) N1.out N2.out Hb.out ?_; intro cv' w3 hown hgr hpl; obtain ⟨q3, c3, rfl, -, -⟩ := row_shape hown; have hc3 : Chg (fun j => (Value.slice q k c).ownBlock = some j) w1 w3 := (Hal.out.drew.mono fun _ _ h => h.elim).trans ((Chg.refl _ _).grown hgr (fun j hj => .inl hj)); have y33 := hc3.cell y2 (fun e => Hm.out.low.2 (.inr (.inr e))); have yf3 := hc3.frozen y2 (fun e => Hm.out.low.2 (.inr (.inr e))) (yf 2))
      all_goals
        have HP := Lib.hid (Hm.out.callsS (sv := .slice q3 (k + 1) c3) (l := s.calls ++ [s.at']) hc3 (by rw [List.length_append, ← Hk.out, refInts_snoc]; exact hown) (fun j hj => by
          rcases hpl with e | e
          · exact .inl (by rw [← e]; exact hj)
          · rw [hj] at e; cases e; exact .inr Hal.out.size))
        have x1b := hc3.cell x1 (fun e => Hnx.out (.inr (.inr (.inr (by rw [← Hk.out]; exact e)))))
        have x1c := (show Chg (fun j => j = sb) w3 (w3.setCell ⟨sb, 2, none⟩ (.slice q3 (k + 1) c3)) from (Chg.refl (fun j => j = sb) w3).setCell (p := ⟨sb, 2, none⟩) (.inl rfl) _).cell x1b (fun e => Hnx.out (.inl e))
        clear hown hgr hpl hc3 y33 yf3 y2 y4 y2a y4a yf x0 x1 x2 x1b
        try go_upto_region 14 with fail
        generalize w3.setCell ⟨sb, 2, none⟩ (.slice q3 (k + 1) c3) = w4 at *
        have hm := HP.out.1
        obtain ⟨oq', oc', z0, z1, z2, z3, z4, z5, z6, z7⟩ := hm.cells
        have zf := hm.free
        have HF := Lib.hid (hm.field 4 (.int .i64 n) { s with calls := s.calls ++ [s.at'], at' := n } rfl rfl rfl rfl fun ov => rfl)
        clear hm z0 z1 z2 z3 z5 z6 z7
        go_wp2_with fail
        go_end0
        exact ⟨rfl, _, (Hs1.out.trans HP.out.2).trans HF.out.2, by rw [Hr.out]; exact HF.out.1⟩
  · have hw : tx (wordL 20) = ⟨#[114, 101, 116]⟩ := rfl
    replace hr : r = if s.calls.length = 0 then failS 40 s else { s with at' := s.calls.getLastD 0, calls := s.calls.dropLast } := hr
    obtain ⟨sv, lv, cv⟩ := F
    obtain ⟨q, c, e, h1, h2⟩ := row_shape hm.ca
    simp only at e y2
    subst e
    unfold maxLen at h2
    by_cases h0 : s.calls.length = 0
    · rw [if_pos h0] at hr
      have Hr := Lib.hid hr
      rw [h0] at y2 h1 HE Hs1 ⊢
      clear hr hm h0 hc y0 y1 y3 y4 y5 y6 y7
      go_enter Tryz.func56, Tryz.ntmps56
      go_upto_region 1 with fail
      rw [Hw1.out, ← Hx1.out]
      go_wp2_with fail
      refine (HE.out 40).mono ?_
      rintro e w9 ⟨rfl, F9, hs9, hm9⟩
      have H9 := Lib.hid (And.intro (Hs1.out.trans hs9) hm9)
      clear hs9 hm9
      go_wp2_with fail
      first | go_end0 | refine bodyPost_ret (results_none rfl _ _ _) rfl ?_
      exact ⟨rfl, F9, H9.out.1, by rw [Hr.out]; exact H9.out.2⟩
    · rw [if_neg h0] at hr
      obtain ⟨m, hk⟩ : ∃ m, s.calls.length = m + 1 := ⟨s.calls.length - 1, by omega⟩
      have hca : w1.ownsRow lo 3 1 (.slice q s.calls.length c) s.calls.length (intsV s.calls) := hm.ca
      rw [hk] at y2 h1 hca hc
      obtain ⟨g, rfl⟩ : ∃ g, q = some ⟨g, 0, none⟩ := by
        rcases hca.2 with ⟨e, h0⟩ | ⟨g', cap', cur, e, _⟩
        · omega
        · simp only [Value.slice.injEq] at e; exact ⟨g', e.1⟩
      have hlm : m < s.calls.length := by omega
      have hat : (intsV s.calls)[m]? = some (.int .i64 s.calls[m]) := by simp [intsV, hlm]
      have z0 := World.ownsRow.cells (g := g) hca rfl _ _ hat
      rw [add_zero_off] at z0
      have hlast : s.calls.getLastD 0 = s.calls[m] := by rw [List.getLastD_eq_getLast?, List.getLast?_eq_getElem?, hk]; show (s.calls[m + 1 - 1]?).getD _ = _; rw [Nat.add_sub_cancel, List.getElem?_eq_getElem hlm]; rfl
      rw [hlast] at hr
      generalize s.calls[m] = nx at *
      have HA := Lib.hid (hm.field 4 (.int .i64 nx) { s with at' := nx } rfl rfl rfl rfl fun ov => rfl)
      have Hk := Lib.hid hk
      have Hr := Lib.hid hr
      rw [hk] at HA Hs1 Hnx ⊢
      clear hr hm hat hlm hlast h0 hk HE y0 y1 y3 y5 y6 y7
      go_enter Tryz.func56, Tryz.ntmps56
      go_upto_region 1 with fail
      rw [Hw1.out, ← Hx1.out]
      go_upto_region 20 with fail
      have hmx : maxLen = 9223372036854775807 := rfl
      have hmk : (m : Int) + 1 - 1 = (m : Int) := by omega
      clear y2 y4 z0 yf x0 x1 x2 hca
      generalize w1.setCell ⟨sb, 4, none⟩ (.int .i64 nx) = w4 at *
      have hm := HA.out.1
      obtain ⟨oq', oc', z0, z1, y2, z3, z4, z5, z6, z7⟩ := hm.cells
      have yf := hm.free 2
      simp only at y2
      have hca : w4.ownsRow lo 3 1 (.slice (some ⟨g, 0, none⟩) (m + 1) c) (m + 1) (intsV s.calls) := by have := hm.ca; simp only at this; rw [Hk.out] at this; exact this
      have hcl := World.ownsRow.cells (g := g) hca rfl
      have hal_ := (Chg.refl NoB w4).alloc (.cells #[] 3)
      have hb_ := heap_alloc_new w4 (.cells #[] 3)
      obtain ⟨zb, hxb_⟩ : ∃ b, b = w4.heap.size := ⟨_, rfl⟩
      obtain ⟨w5, hw_⟩ : ∃ w_, w4.alloc (.cells #[] 3) = w_ := ⟨_, rfl⟩
      have hz_ : w5.heap.size = zb + 1 := by rw [← hw_, hxb_]; exact alloc_size _ _
      rw [hw_] at hal_ hb_
      rw [← hxb_] at hb_
      have Hw5 := Lib.hid hw_
      have Hx5 := Lib.hid hxb_
      have Ha5 := Lib.hid hal_
      have Hb5 := Lib.hid hb_
      have Hz5 := Lib.hid hz_
      clear hal_ hb_ hxb_ hw_ hz_
      have Hzb := Lib.hid (show zb = w4.heap.size from Hx5.out)
      have HE1 : Hid (w5.ownsRow w4.heap.size 3 1 (.slice (some ⟨zb, 0, none⟩) 0 0) 0 []) := Lib.hid ⟨rfl, .inr ⟨zb, 0, #[], rfl, by rw [Hx5.out]; exact Nat.le_refl _, Hb5.out, Nat.le_refl _, Nat.zero_le _, rfl, rfl⟩⟩
      have HNw : Hid (∀ j u, (intsV s.calls.dropLast)[j]? = some u → w5.cell? ((⟨g, 0, none⟩ : Addr).add j) = some u) := Lib.hid (fun j u hj => by
        have e1 : intsV s.calls.dropLast = (intsV s.calls).take m := by rw [List.dropLast_eq_take, Hk.out, Nat.add_sub_cancel]; simp [intsV, List.map_take]
        rw [e1, List.getElem?_take] at hj
        split at hj
        · have h3 := hcl _ _ hj
          rw [add_zero_off] at h3 ⊢
          exact Ha5.out.keep h3
        · cases hj)
      have Hlv := Lib.hid (show (intsV s.calls.dropLast).length = m * 1 by rw [intsV_len, List.length_dropLast, Hk.out]; omega)
      obtain ⟨i0, hi, hz0, hz1, hz2⟩ := info_parts refIntInfo
      have Hi := Lib.hid hi
      have Zi0 := Lib.hid hz0
      have Zi1 := Lib.hid hz1
      have Zi2 := Lib.hid hz2
      have Y2 := Lib.hid y2
      have y2r := ((Chg.refl NoB w4).alloc (.cells #[] 3)).keep y2
      have Yf := Lib.hid yf
      have Hm4 := Lib.hid hm
      clear hm hca hcl hi hz0 hz1 hz2 z0 z1 z3 z4 z5 z6 z7
      go_wp2_with (at_builtin; go_must (rw [← Hx5.out, Hw5.out]); go_must (refine wpList_append_at _ rfl _ _ 32 rfl w4.heap.size 3 i0 (.int .i64 0) 1 8 Tryz.underlying32 Hi.out Zi0.out Zi1.out Zi2.out rfl (by decide) (.slice (some ⟨zb, 0, none⟩) 0 0) 0 [] rfl HE1.out ⟨g, 0, none⟩ m c (intsV s.calls.dropLast) rfl Hlv.out HNw.out (fun u hu => by obtain ⟨z, -, rfl⟩ := List.mem_map.1 hu; rfl) (by omega) (by omega) Ha5.out.size ?_); intro v2 w6 hown2 hgr2 hpl2; obtain ⟨q3, c3, rfl, -, -⟩ := row_shape hown2; have Ho2 := Lib.hid hown2; have Hp2 := Lib.hid hpl2; have hg2 : Chg (fun j => j = zb) w5 w6 := (Chg.refl (fun j => j = zb) w5).grown hgr2 fun j hj => .inl (Option.some.inj hj).symm; have hc6 : Chg NoB w4 w6 := Ha5.out.transR hg2 fun j hj e => (by have e2 : j = zb := e; have h1 := Hzb.out; exact absurd hj (by omega)); have y2c := hc6.keep Y2.out; have yfc := hc6.frozen Y2.out id Yf.out)
      obtain ⟨v2, hv2⟩ : ∃ z, z = Value.slice q3 (0 + m) c3 := ⟨_, rfl⟩
      have hown2 := Ho2.out
      have hpl2 := Hp2.out
      rw [← hv2] at hown2 hpl2
      have hr6 : w6.ownsRow lo 3 1 v2 s.calls.dropLast.length (intsV s.calls.dropLast) := by
        have e1 : s.calls.dropLast.length = m := by rw [List.length_dropLast, Hk.out, Nat.add_sub_cancel]
        rw [e1]
        have h2 : w6.ownsRow w4.heap.size 3 1 v2 m (intsV s.calls.dropLast) := by simpa using hown2
        exact ⟨h2.1, h2.2.imp id fun ⟨g, cap, cur, e, h, rest⟩ => ⟨g, cap, cur, e, Nat.le_trans Hm4.out.lo.2 h, rest⟩⟩
      have HP := Lib.hid (Hm4.out.callsS (sv := v2) (l := s.calls.dropLast) (hc6.mono fun _ _ h => h.elim) hr6 (fun j hj => by
        rcases hpl2 with e | e
        · rw [e] at hj
          have e2 : zb = j := Option.some.inj hj
          have := Hzb.out
          exact .inr (by omega)
        · rw [hj] at e; cases e; exact .inr Ha5.out.size))
      rw [hv2, Nat.zero_add] at HP
      go_end0
      exact ⟨rfl, _, (Hs1.out.trans HA.out.2).trans HP.out.2, by rw [Hr.out]; exact HP.out.1⟩
  · have Hr := Lib.hid (show r = failS 44 s from hr)
    have hw : tx (wordL 30) = ⟨#[102, 97, 105, 108]⟩ := rfl
    clear hr hm y0 y1 y2 y3 y4 y5 y6 y7
    go_enter Tryz.func56, Tryz.ntmps56
    go_upto_region 1 with fail
    rw [Hw1.out, ← Hx1.out]
    go_wp2_with fail
    refine (HE.out 44).mono ?_
    rintro e w9 ⟨rfl, F9, hs9, hm9⟩
    have H9 := Lib.hid (And.intro (Hs1.out.trans hs9) hm9)
    clear hs9 hm9
    go_wp2_with fail
    first | go_end0 | refine bodyPost_ret (results_none rfl _ _ _) rfl ?_
    exact ⟨rfl, F9, H9.out.1, by rw [Hr.out]; exact H9.out.2⟩
end Go.Proofs.YthehpmffkkogpaaGreatDoor
