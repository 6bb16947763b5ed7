/- A range over an iterator, whose rounds turn blocks that are no cells and lay ahead of the range (a map): a round leaves what is no cells and lies at the range's world or beyond it. No condition. -/
import Derived.Test.YtaihgciokfkonaaDoorSpOver
namespace Go.Proofs.YtaihgciokfkonaaDoor
set_option linter.unusedVariables false
open Go.ChangeShapes Go.WideShapes Go.ChangeAt Go.RowKit Go.Shelf
theorem RecX.keepsF {b : Nat} {r : Loop} {W W' : World} (h : RecX b r W) (hk : KeepsFrom b W W') : RecX b r W' := ⟨hk.same _ _ (by omega) h.lp rfl, hk.same _ _ (Nat.le_refl _) h.df rfl⟩
section
variable {F : Fence} {n : Nat} {P : Program}
set_option maxHeartbeats 1000000 in
theorem wpIn_range_f {α : Type} {g : Operand} {ps : Array Tmp} {assign body : Code} {Q : Exit → Act → World → Prop} {a : Act} {w : World}
    (hro : F.round = none) (h1 : 1 ≤ n) {gf : Nat} {lb : Array Value} (hg : a.eval g = .func (.func gf) #[] lb) (hFg : F.fn gf) (eg : ∀ args w, (callFunc gf args).run P w = .ok (.enter gf args) w)
    {encs : α → Array Value} {Kp : World → World → Prop} {T : Nat → Prop} {S Sp : List α → Prop} {N : Nat} (hT : ∀ k, T k → k < w.heap.size) (hseq : SeqX F (n - 1) P gf lb encs Kp T S Sp N w)
    (hKt : ∀ {A B C : World}, Kp A B → Kp B C → Kp A C) (hKb : ∀ (W : World) (l : Nat) (o o' : Obj), W.heap[l]? = some o → o.isCells = false → Kp W (W.putObj l o')) (hps : ∀ x, (encs x).size = ps.size)
    (I : List α → World → Prop) (Ix : Code → List α → World → Prop) (hI : FreeX w.heap.size T I) (hIx : ∀ c, FreeX w.heap.size T (Ix c)) (h0 : I [] w) (a₁ : α → Act)
    (hassign : ∀ (l : Nat) (x : α) (W : World) (K : Act → World → Prop), K (a₁ x) W →
      assign.wpIn (F.inRound l) (n - 1 - 1) P (Exit.then K (fun _ _ _ => False)) { tmps := (ps.zip (encs x)).foldl (fun t (p, v) => t.setIfInBounds p v) a.tmps, defers := [] } W)
    (hbody : ∀ (l : Nat) (pre : List α) (x : α) (W : World), I pre W → pre.length < N → body.wpIn (F.inRound l) (n - 1 - 1) P (ownPostG w.heap.size Kp I Ix (pre ++ [x]) W) (a₁ x) W)
    (hdone : ∀ (D : Nat) (xs : List α) (W : World), w.heap.size ≤ D → S xs → I xs W → W.heap[D]? = some (.deferred (some [])) → Q .normal { a with defers := { target := .collected D, args := #[] } :: a.defers } W)
    (hstop : ∀ (D : Nat) (c : Code) (pre : List α) (W : World), w.heap.size ≤ D → Sp pre → Ix c pre W → W.heap[D]? = some (.deferred (some [])) → c.wpIn F n P Q { a with defers := { target := .collected D, args := #[] } :: a.defers } W) :
    (Code.rangeFunc g ps assign body).wpIn F n P Q a w := by
  obtain ⟨b, hb⟩ : ∃ b, b = w.heap.size := ⟨_, rfl⟩
  rw [← hb] at hI hIx hdone hstop hT
  refine wpIn_rangeFunc fun fn hfn => ?_
  rw [hro]
  obtain ⟨r0, hr0⟩ : ∃ r0 : Loop, r0 = { state := .ready, pending := none, fn, tmps := a.tmps, params := ps, assign, body, defers := b } := ⟨_, rfl⟩
  obtain ⟨V, hV⟩ : ∃ V, (w.alloc (.deferred (some []))).alloc (.loop r0) = V := ⟨_, rfl⟩
  have hVs : V.heap.size = b + 2 := by rw [← hV, World.size_alloc, World.size_alloc, hb]
  have hV0 : RecX b r0 V := by
    constructor
    · have h := World.alloc_heap_new (w.alloc (.deferred (some []))) (.loop r0)
      rw [World.size_alloc, ← hb] at h
      rw [← hV]; exact h
    · rw [← hV, hb]
      exact (Below.heap_alloc _ _ _ (by rw [World.size_alloc]; omega)).trans (World.alloc_heap_new w _)
  have hVI : I [] V := by rw [← hV]; exact hI.own.alloc _ (hI.own.alloc _ h0)
  have hVb : Below w.heap.size w V := by
    rw [← hV]
    exact ((Below.refl _ w).alloc (Nat.le_refl _) _).alloc (by rw [World.size_alloc]; omega) _
  refine ⟨b + 1, [{ target := .collected b, args := #[] }], V, { target := .fn (.func gf) lb, args := #[.func (.yield (b + 1)) #[] #[]] }, V, gf, #[.func (.yield (b + 1)) #[] #[]] ++ lb, V, ?_, ?_, ?_, ?_, fun _ => h1, ?_⟩
  · rw [← hV, hr0, hb]; exact run_enterLoop_outer _ _ _ _ _
  · simp only [resolve, hg]
    simp [go_sem]
  · intro f' hf'
    simp [Target.leads] at hf'
    subst hf'
    exact hFg
  · simp [invoke, go_sem, eg]
  have hturn : ∀ {A : World} {row : Option Nat}, (∀ r, row = some r → (V.heap.size ≤ r ∧ ∃ o : Obj, A.heap[r]? = some o ∧ o.isCells = false) ∨ T r) → ∀ r, row = some r → (b ≤ r ∧ ∃ o : Obj, A.heap[r]? = some o ∧ o.isCells = false) ∨ T r := fun h r e => (h r e).imp (fun x => ⟨by have := x.1; omega, x.2⟩) id
  have hrow : ∀ {A : World} {row : Option Nat}, (∀ r, row = some r → (V.heap.size ≤ r ∧ ∃ o : Obj, A.heap[r]? = some o ∧ o.isCells = false) ∨ T r) → ∀ k, row = some k → b + 2 ≤ k ∨ k < b := fun h r e => (h r e).imp (fun x => by have := x.1; omega) (hT r)
  refine (hseq (b + 1) (fun pre W => I pre W ∧ RecX b r0 W) (fun pre W => ∃ c, Ix c pre W ∧ RecX b { r0 with state := .done, pending := some c } W) V hVb (by omega)
    (fun s A B row hs hgr hr => ⟨hI s A B row hs.1 hgr (hturn hr), hs.2.grown hgr (hrow hr)⟩)
    (fun s A B row hs hgr hr => by
      obtain ⟨c, hc, hrec⟩ := hs
      exact ⟨c, hIx c s A B row hc hgr (hturn hr), hrec.grown hgr (hrow hr)⟩) ?_ ⟨hVI, hV0⟩).mono ?_
  · rintro pre x W ⟨hi, hrec⟩ hlen hsz
    have hy := run_yield (P := P) (args := encs x) hrec.lp (by rw [hr0]; exact hps x)
    rw [hr0] at hy
    have hrun := run_beginRound (P := P) hrec.lp (by rw [hr0])
    have hW2 := hrec.put { r0 with state := .busy }
    obtain ⟨X, hX⟩ : ∃ X, W.putObj (b + 1) (.loop { r0 with state := .busy }) = X := ⟨_, rfl⟩
    rw [hX] at hrun hW2
    have hXI : I pre X := by rw [← hX]; exact hI.own.putObj _ hi (by omega) hrec.lp rfl
    have hXK : Kp W X := by rw [← hX]; exact hKb _ _ _ _ hrec.lp rfl
    have hXF : KeepsFrom V.heap.size W X := by rw [← hX]; exact xkeeps_put (by omega) _
    refine ⟨fn, _, assign, body, hy, roundIn_of_wpIn hfn (hassign _ x W _ ⟨X, hrun, ?_⟩)⟩
    have hbd := hbody (b + 1) pre x X hXI hlen
    rw [← hb] at hbd
    refine wpIn_mono hbd ?_
    have hend : ∀ (j : Option Code) (Y : World), KeepsFrom b X Y → ∃ Z, (Instr.endRound (b + 1) j).run P Y = .ok (.bool j.isNone) Z ∧ Z = Y.putObj (b + 1) (.loop { r0 with state := if j.isNone then .ready else .done, pending := j }) ∧
        RecX b { r0 with state := if j.isNone then .ready else .done, pending := j } Z ∧ RecX b { r0 with state := .busy } Y ∧ KeepsFrom V.heap.size W Z := fun j Y hk => by
      have hY := hW2.keepsF hk
      exact ⟨_, run_endRound j hY.lp, rfl, hY.put _, hY, (hXF.trans ⟨hk.size, fun k o hB => hk.same k o (by omega)⟩).trans (xkeeps_put (by omega) _)⟩
    have hr00 : { r0 with state := LoopState.ready, pending := none } = r0 := by rw [hr0]
    intro e a' Y hp
    cases e with
    | normal =>
      obtain ⟨hk, hkp, hi'⟩ := hp
      obtain ⟨Z, hrun', hZ, hrec', hY, hkf⟩ := hend none Y hk
      have hrec2 : RecX b r0 Z := by have h := hrec'; simp only [Option.isNone_none, if_true] at h; rw [hr00] at h; exact h
      exact ⟨_, Z, hrun', hkf, .inl ⟨rfl, ⟨by rw [hZ]; exact hI.own.putObj _ hi' (by omega) hY.lp rfl, hrec2⟩, hKt (hKt hXK hkp) (by rw [hZ]; exact hKb _ _ _ _ hY.lp rfl)⟩⟩
    | ret =>
      obtain ⟨hk, hi'⟩ := hp
      obtain ⟨Z, hrun', hZ, hrec', hY, hkf⟩ := hend (some .ret) Y hk
      exact ⟨_, Z, hrun', hkf, .inr ⟨rfl, .ret, by rw [hZ]; exact (hIx _).own.putObj _ hi' (by omega) hY.lp rfl, hrec'⟩⟩
    | exit id =>
      obtain ⟨hk, hi'⟩ := hp
      obtain ⟨Z, hrun', hZ, hrec', hY, hkf⟩ := hend (some (.exit id)) Y hk
      exact ⟨_, Z, hrun', hkf, .inr ⟨rfl, .exit id, by rw [hZ]; exact (hIx _).own.putObj _ hi' (by omega) hY.lp rfl, hrec'⟩⟩
    | goto t =>
      obtain ⟨hk, hi'⟩ := hp
      obtain ⟨Z, hrun', hZ, hrec', hY, hkf⟩ := hend (some (.goto t)) Y hk
      exact ⟨_, Z, hrun', hkf, .inr ⟨rfl, .goto t, by rw [hZ]; exact (hIx _).own.putObj _ hi' (by omega) hY.lp rfl, hrec'⟩⟩
    | panic ch => exact hp.elim
    | outgrown => exact hp.elim
  · rintro e Y ⟨⟨v, rfl⟩, (⟨xs, hS, hi, hrec⟩ | ⟨pre, hSp, c, hi, hrec⟩)⟩
    · refine ⟨_, _, run_endLoop hrec.lp (by rw [hr0]; simp), ?_⟩
      rw [hr0]
      exact hdone b xs _ (Nat.le_refl _) hS (hI.own.putObj _ hi (by omega) hrec.lp rfl) ((World.putObj_heap_other (by omega)).trans hrec.df)
    · refine ⟨_, _, run_endLoop hrec.lp (by simp), ?_⟩
      exact hstop b c pre _ (Nat.le_refl _) hSp ((hIx c).own.putObj _ hi (by omega) hrec.lp rfl) ((World.putObj_heap_other (by omega)).trans hrec.df)
end
end Go.Proofs.YtaihgciokfkonaaDoor
