/- A node that may be written over: its cells' kinds down to a height; it stays one when any node of its kind is written over with the zero node; the statement's spoil. Condition: its blocks are not frozen. -/
import Derived.Test.YtodcbagjmbdafaaDoorSxDec
namespace Go.Proofs.YtodcbagjmbdafaaDoor
set_option linter.unusedVariables false
open Go.ChangeShapes Go.WideShapes Go.ChangeAt Go.RowKit
/- three cells of a node at block g, from the j-th on -/
def Is3 (w : World) (g j : Nat) : Prop := ∃ l a q n c, w.cell? ⟨g, j, none⟩ = some (.bool l) ∧ w.cell? ⟨g, j + 1, none⟩ = some (.string a) ∧ w.cell? ⟨g, j + 2, none⟩ = some (.slice q n c)
inductive Sp (w : World) (S : Nat → Prop) : Nat → Nat → Nat → Prop
  | mk (h b o : Nat) (l : Bool) (a : ByteArray) (q : Option Addr) (n c kb ko : Nat)
      (c0 : w.cell? ⟨b, o, none⟩ = some (.bool l)) (c1 : w.cell? ⟨b, o + 1, none⟩ = some (.string a)) (c2 : w.cell? ⟨b, o + 2, none⟩ = some (.slice q n c))
      (hs : S b) (hz : ∀ j, w.frozen? ⟨b, j, none⟩ = false) (hc : n ≤ c) (hm : c ≤ maxLen) (hq : n ≠ 0 → q = some ⟨kb, ko, none⟩) (hk : ∀ i, i < n → Sp w S h kb (ko + i * 3)) : Sp w S (h + 1) b o
/- a slice of such nodes -/
structure SpS (w : World) (S : Nat → Prop) (h : Nat) (v : Value) (n kb ko : Nat) : Prop where
  sh : ∃ q c, v = .slice q n c ∧ n ≤ c ∧ c ≤ maxLen ∧ (n ≠ 0 → q = some ⟨kb, ko, none⟩)
  at' : ∀ i, i < n → Sp w S h kb (ko + i * 3)
def zero3 (w : World) (g j : Nat) : World := ((w.setCell ⟨g, j, none⟩ (.bool false)).setCell ⟨g, j + 1, none⟩ (.string ⟨#[]⟩)).setCell ⟨g, j + 2, none⟩ (.slice none 0 0)
theorem ne_addr {a b i j : Nat} (h : ¬ (a = b ∧ i = j)) : (⟨a, i, none⟩ : Addr) ≠ ⟨b, j, none⟩ := by
  intro e
  simp only [Addr.mk.injEq, and_true] at e
  exact h e
theorem zero3_far (w : World) (g j b o : Nat) (h : ¬ (b = g ∧ (o = j ∨ o = j + 1 ∨ o = j + 2))) : (zero3 w g j).cell? ⟨b, o, none⟩ = w.cell? ⟨b, o, none⟩ := by
  unfold zero3
  rw [World.cell?_setCell_other (h := ne_addr (by omega)), World.cell?_setCell_other (h := ne_addr (by omega)), World.cell?_setCell_other (h := ne_addr (by omega))]
theorem zero3_frozen (w : World) (g j : Nat) (p : Addr) : (zero3 w g j).frozen? p = w.frozen? p := by simp [zero3]
theorem zero3_at {w : World} {g j : Nat} (h : Is3 w g j) : (zero3 w g j).cell? ⟨g, j, none⟩ = some (.bool false) ∧ (zero3 w g j).cell? ⟨g, j + 1, none⟩ = some (.string ⟨#[]⟩) ∧ (zero3 w g j).cell? ⟨g, j + 2, none⟩ = some (.slice none 0 0) := by
  obtain ⟨l, a, q, n, c, c0, c1, c2⟩ := h
  unfold zero3
  refine ⟨?_, ?_, ?_⟩
  · rw [World.cell?_setCell_other (h := ne_addr (by omega)), World.cell?_setCell_other (h := ne_addr (by omega)), World.cell?_setCell_same (h := c0)]
  · rw [World.cell?_setCell_other (h := ne_addr (by omega))]
    have e1 : (w.setCell ⟨g, j, none⟩ (.bool false)).cell? ⟨g, j + 1, none⟩ = some (.string a) := by rw [World.cell?_setCell_other (h := ne_addr (by omega))]; exact c1
    exact World.cell?_setCell_same _ _ _ e1
  · have e2 : ((w.setCell ⟨g, j, none⟩ (.bool false)).setCell ⟨g, j + 1, none⟩ (.string ⟨#[]⟩)).cell? ⟨g, j + 2, none⟩ = some (.slice q n c) := by rw [World.cell?_setCell_other (h := ne_addr (by omega)), World.cell?_setCell_other (h := ne_addr (by omega))]; exact c2
    exact World.cell?_setCell_same _ _ _ e2
theorem Sp.is3 {w : World} {S : Nat → Prop} {h b o : Nat} (hp : Sp w S h b o) : Is3 w b o := by
  cases hp with
  | mk h _ _ l a q n c kb ko c0 c1 c2 => exact ⟨l, a, q, n, c, c0, c1, c2⟩
theorem Sp.zero {w : World} {S : Nat → Prop} {h b o : Nat} (hp : Sp w S h b o) {g j : Nat} (hg : Is3 w g j) : Sp (zero3 w g j) S h b o := by
  have hz3 := zero3_at hg
  induction hp with
  | mk h b o l a q n c kb ko c0 c1 c2 hs hz hc hm hq hk ih =>
    have hzf : ∀ i, (zero3 w g j).frozen? ⟨b, i, none⟩ = false := fun i => (zero3_frozen w g j _).trans (hz i)
    by_cases e : b = g ∧ o = j
    · obtain ⟨rfl, rfl⟩ := e
      exact .mk h b o _ _ _ 0 0 0 0 hz3.1 hz3.2.1 hz3.2.2 hs hzf (Nat.le_refl _) (Nat.zero_le _) (fun x => absurd rfl x) (fun i hi => absurd hi (Nat.not_lt_zero _))
    · obtain ⟨l', a', q', n', c', d0, d1, d2⟩ := hg
      have hf : ∀ x, b = g → x = o ∨ x = o + 1 ∨ x = o + 2 → ¬ (x = j ∨ x = j + 1 ∨ x = j + 2) := by
        rintro x rfl hx hy
        have ho : o = j ∨ o = j + 1 ∨ o = j + 2 ∨ j = o + 1 ∨ j = o + 2 := by omega
        rcases ho with r | r | r | r | r
        · exact e ⟨rfl, r⟩
        · subst r; rw [c0] at d1; simp at d1
        · subst r; rw [c0] at d2; simp at d2
        · subst r; rw [c1] at d0; simp at d0
        · subst r; rw [c2] at d0; simp at d0
      have k0 := (zero3_far w g j b o fun x => hf o x.1 (.inl rfl) x.2).trans c0
      have k1 := (zero3_far w g j b (o + 1) fun x => hf _ x.1 (.inr (.inl rfl)) x.2).trans c1
      have k2 := (zero3_far w g j b (o + 2) fun x => hf _ x.1 (.inr (.inr rfl)) x.2).trans c2
      exact .mk h b o l a q n c kb ko k0 k1 k2 hs hzf hc hm hq ih
theorem Sp.keep {w w' : World} {S T : Nat → Prop} (hc : Chg T w w') (hST : ∀ k, S k → ¬ T k) {h b o : Nat} (hp : Sp w S h b o) : Sp w' S h b o := by
  induction hp with
  | mk h b o l a q n c kb ko c0 c1 c2 hs hz h1 h2 hq hk ih =>
    refine .mk h b o l a q n c kb ko (hc.cell c0 (hST b hs)) (hc.cell c1 (hST b hs)) (hc.cell c2 (hST b hs)) hs (fun j => ?_) h1 h2 hq ih
    have hb := hc.block b (World.block_lt_of_cell? w _ c0) (hST b hs)
    have := hz j
    unfold World.frozen? at this ⊢
    simp only [hb]
    exact this
theorem Sp.mono {w : World} {S T : Nat → Prop} (hST : ∀ k, S k → T k) {h b o : Nat} (hp : Sp w S h b o) : Sp w T h b o := by
  induction hp with
  | mk h b o l a q n c kb ko c0 c1 c2 hs hz h1 h2 hq hk ih => exact .mk h b o l a q n c kb ko c0 c1 c2 (hST b hs) hz h1 h2 hq ih
theorem Sp.up {w : World} {S : Nat → Prop} {h b o : Nat} (hp : Sp w S h b o) : Sp w S (h + 1) b o := by
  induction hp with
  | mk h b o l a q n c kb ko c0 c1 c2 hs hz h1 h2 hq hk ih => exact .mk _ b o l a q n c kb ko c0 c1 c2 hs hz h1 h2 hq ih
theorem Sp.le {w : World} {S : Nat → Prop} {h h' b o : Nat} (hp : Sp w S h b o) (hl : h ≤ h') : Sp w S h' b o := by
  induction hl with
  | refl => exact hp
  | step _ ih => exact ih.up
/- a node in cells that are not frozen is such a node -/
theorem NdC.sp {w : World} {S : Nat → Prop} (hz : ∀ k, S k → ∀ j, w.frozen? ⟨k, j, none⟩ = false) {b o : Nat} {n : Nd} (hn : NdC w S b o n) : Sp w S n.count b o := by
  induction hn with
  | mk b o l a ks q c kb ko c0 c1 c2 hs ha h1 h2 hq hk ih =>
    have e : Nd.count (.mk l a ks) = Nd.counts ks + a.size + 1 := by
      rw [Nd.count]; omega
    rw [e]
    refine .mk _ b o l a q ks.length c kb ko c0 c1 c2 hs (hz b hs) h1 h2 (fun x => hq fun y => x (by rw [y]; rfl)) fun i hi => ?_
    exact (ih i hi).le (by have := Nd.counts_get ks i hi; omega)
/- spoil: writes over nodes of S alone, and leaves every such node one -/
def SpoilP (S : Nat → Prop) (w : World) (e : Ending) (w' : World) : Prop := e = .returned (.tuple #[]) ∧ Chg S w w' ∧ ∀ h b o, Sp w S h b o → Sp w' S h b o
set_option maxHeartbeats 2000000 in
set_option maxRecDepth 20000 in
theorem spoil_any (N : Nat) : ∀ (S : Nat → Prop) (v : Value) (n kb ko : Nat) (l : Bool) (a : ByteArray) (w : World), SpS w S N v n kb ko → (∀ k, S k → k < w.heap.size) →
    Calls Tryd.prog 22 #[.agg #[.bool l, .string a, v]] w (SpoilP S w) := by
  induction N using Nat.strongRecOn with
  | ind N ih =>
    intro S v n kb ko l a w hs hS
    have IH := Lib.hid ih
    clear ih
    obtain ⟨⟨q, c, rfl, hnc, hcm, hq⟩, hk⟩ := hs
    have Hk := Lib.hid hk
    have Hq := Lib.hid hq
    have HS := Lib.hid hS
    unfold maxLen at hcm
    clear hk hq hS
    have hal := (Chg.refl NoB w).alloc (.cells #[.bool l, .string a, .slice q n c] 24)
    obtain ⟨v0, v1, v2⟩ := var3 (heap_alloc_new w (.cells #[.bool l, .string a, .slice q n c] 24))
    have hg : ¬ S w.heap.size := fun h => Nat.lt_irrefl _ (HS.out _ h)
    have Hal := Lib.hid hal
    have Hg := Lib.hid hg
    have V2 := Lib.hid v2
    clear hal hg
    go_enter Tryd.func22, Tryd.ntmps22
    go_wp2_with fail
    generalize w.alloc (.cells #[.bool l, .string a, .slice q n c] 24) = w1 at *
    have hsz := Hal.out.size
    obtain ⟨g, hg⟩ : ∃ g, g = w.heap.size := ⟨_, rfl⟩
    rw [← hg] at V2 Hg ⊢
    clear hg v0 v1 v2
    go_loopw [2, 6] (fun _ i wr => ∃ k : Nat, k ≤ n ∧ i = .int .i64 k ∧ Chg S w1 wr ∧ ∀ h b o, Sp w S h b o → Sp wr S h b o) (fun _ i _ => n - (intOf i).toNat)
    case atStart => exact ⟨0, Nat.zero_le _, rfl, Chg.refl _ _, fun h b o hp => hp.keep Hal.out fun _ _ => id⟩
    case round =>
      obtain ⟨k, hk, rfl, hch, hsp⟩ := hrel
      have Hch := Lib.hid hch
      have Hsp := Lib.hid hsp
      clear hsp
      have f2 := hch.cell V2.out Hg.out
      clear hch
      by_cases hlt : k < n
      · obtain rfl := Hq.out (by omega)
        have hkk := Hsp.out _ _ _ (Hk.out k hlt)
        obtain ⟨M, hM⟩ : ∃ M, N = M + 1 := by cases hkk; exact ⟨_, rfl⟩
        subst hM
        have Hkk := Lib.hid hkk
        obtain ⟨l', a', q', n', c', kb', ko', c0, c1, c2, hsp'⟩ : ∃ l' a' q' n' c' kb' ko', wr.cell? ⟨kb, ko + k * 3, none⟩ = some (.bool l') ∧ wr.cell? ⟨kb, ko + k * 3 + 1, none⟩ = some (.string a') ∧ wr.cell? ⟨kb, ko + k * 3 + 2, none⟩ = some (.slice q' n' c') ∧ SpS wr S M (.slice q' n' c') n' kb' ko' := by
          cases hkk with
          | mk _ _ _ l' a' q' n' c' kb' ko' c0 c1 c2 hs hz h1 h2 hq hk => exact ⟨l', a', q', n', c', kb', ko', c0, c1, c2, ⟨q', c', rfl, h1, h2, hq⟩, hk⟩
        have hSr : ∀ k, S k → k < wr.heap.size := fun k hk => by have h1 := HS.out k hk; have h2 := Hch.out.size; omega
        have Hcall := Lib.hid (IH.out M (Nat.lt_succ_self M) S _ n' kb' ko' l' a' wr hsp' hSr)
        clear hkk hsp' hSr
        go_wp2_with fail
        refine Hcall.out.mono ?_
        rintro e w5 ⟨rfl, hc5, hsp5⟩
        have f5 := hc5.cell f2 Hg.out
        have hk5 := hsp5 _ _ _ Hkk.out
        have Hk5 := Lib.hid hk5
        have Hc5 := Lib.hid hc5
        have Hsp5 := Lib.hid hsp5
        obtain ⟨l5, a5, q5, n5, cc5, d0, d1, d2, z5, hS5⟩ : ∃ l' a' q' n' c', w5.cell? ⟨kb, ko + k * 3, none⟩ = some (.bool l') ∧ w5.cell? ⟨kb, ko + k * 3 + 1, none⟩ = some (.string a') ∧ w5.cell? ⟨kb, ko + k * 3 + 2, none⟩ = some (.slice q' n' c') ∧ (∀ j, w5.frozen? ⟨kb, j, none⟩ = false) ∧ S kb := by
          cases hk5 with
          | mk _ _ _ l' a' q' n' c' kb' ko' c0 c1 c2 hs hz h1 h2 hq hk => exact ⟨l', a', q', n', c', c0, c1, c2, hz, hs⟩
        have Hs5 := Lib.hid hS5
        clear hc5 hsp5 hk5 hS5 c0 c1 c2 f2
        go_wp2_with fail
        go_roundw
        case rel =>
          refine ⟨k + 1, by omega, by go_num, ?_, ?_⟩
          · exact (((Hch.out.trans Hc5.out).setCell (.inl Hs5.out) _).setCell (.inl Hs5.out) _).setCell (.inl Hs5.out) _
          · exact fun h b o hp => (Hsp5.out _ _ _ (Hsp.out _ _ _ hp)).zero Hk5.out.is3
        case measure => simp [intOf]; omega
      · obtain rfl : k = n := by omega
        go_wp2_with fail
        go_end0
        exact ⟨rfl, (Hal.out.mono fun _ _ => False.elim).trans Hch.out, Hsp.out⟩
end Go.Proofs.YtodcbagjmbdafaaDoor
