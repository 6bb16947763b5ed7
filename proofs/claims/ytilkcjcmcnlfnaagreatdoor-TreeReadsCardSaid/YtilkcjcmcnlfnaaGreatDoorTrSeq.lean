/- The iterator that behind makes: what stands behind a place, file by file, until a round says no more. Condition: the files' block and the two variables' are not among those that the body writes. -/
import Derived.Test.YtilkcjcmcnlfnaaGreatDoorTrRnames
import Derived.Test.YtilkcjcmcnlfnaaGreatDoorTrCut
import Derived.Test.YtilkcjcmcnlfnaaGreatDoorKeepT
import Derived.RangeFuncWrites
namespace Go.Proofs.YtilkcjcmcnlfnaaGreatDoor
set_option linter.unusedVariables false
open Go.ChangeShapes Go.WideShapes Go.ChangeAt Go.RowKit Go.Shelf
attribute [local go_sem] Oper.semAt_some
theorem InpS.keepT {w w' : World} {S T : Nat → Prop} (hc : KeepT T w w') (hST : ∀ k, S k → ¬ T k) {v : Value} {xs : List FileL} {kb ko : Nat} (h : InpS w S v xs kb ko) : InpS w' S v xs kb ko := by
  obtain ⟨hsh, hat⟩ := h
  refine ⟨hsh, fun i hi => ?_⟩
  obtain ⟨q, c, _, _, _, hq⟩ := hsh
  have hne : xs ≠ [] := by rintro rfl; simp at hi
  have hS := (hq hne).2
  exact ⟨hc.cell (hat i hi).1 (hST kb hS), hc.cell (hat i hi).2 (hST kb hS)⟩
theorem abides_chg {β : Type} {B : Nat} {J : β → World → Prop} (h : AbidesFrom B J) {s : β} {W W' : World} (hc : Chg NoB W W') (hs : J s W) : J s W' :=
  h s W W' none hs ⟨hc.os, hc.tape, hc.output, hc.size, fun k hk _ => hc.block k hk id⟩ fun r e => by cases e
theorem behind_take {d : List UInt8} {t : List FileL} {k : Nat} (h : k < t.length) : behindL d (t.take (k + 1)) = behindL d (t.take k) ++ (if (undL d t[k].1).2 = true then [(undL d t[k].1).1] else []) := by
  unfold behindL
  rw [List.take_add_one, List.getElem?_eq_getElem h]
  show List.map _ (cutL d (t.take k ++ [t[k]])) = _
  rw [cutL_snoc, List.map_append]
  split <;> rfl
theorem behind_pre {d : List UInt8} (a b : List FileL) : behindL d a <+: behindL d (a ++ b) := by
  unfold behindL
  rw [cutL_map, cutL_map, List.filterMap_append, List.map_append]
  exact List.prefix_append _ _
theorem behind_len (d : List UInt8) (t : List FileL) : (behindL d t).length ≤ t.length := by
  unfold behindL
  rw [List.length_map]
  exact cutL_len t
set_option maxRecDepth 100000 in
set_option maxHeartbeats 4000000 in
theorem behind1_in (m l fb db : Nat) (T S : Nat → Prop) (t : List FileL) (d : List UInt8) (ht : t.length ≤ 1048576) (hw : ∀ x ∈ t, x.1.length ≤ 131072) (hdl : d.length ≤ 262144) (fv : Value) (kb ko : Nat)
    (hST : ∀ k, S k → ¬ T k) (hfT : ¬ T fb) (hdT : ¬ T db) (J Jx : List (List UInt8) → World → Prop) (W : World) (hJ : AbidesFrom W.heap.size J) (hm : ∀ W', KeepT T W W' → Pth.Ml W')
    (hY : ∀ pre x W, x.length ≤ 131072 → J pre W → pre.length < (behindL d t).length → YieldAt Fence.wide (m - 1) Tryz.prog l #[.string (tx x)] W fun e W' =>
      (e = .returned (.bool true) ∧ J (pre ++ [x]) W' ∧ KeepT T W W') ∨ (e = .returned (.bool false) ∧ Jx (pre ++ [x]) W'))
    (hf : W.cell? ⟨fb, 0, none⟩ = some fv) (hdc : W.cell? ⟨db, 0, none⟩ = some (.string (tx d))) (hs : InpS W S fv t kb ko) (h0 : J [] W) :
    CallsIn Fence.wide m Tryz.prog 78 #[.func (.yield l) #[] #[], .pointer (some ⟨fb, 0, none⟩), .pointer (some ⟨db, 0, none⟩)] W fun e W' => (∃ v, e = .returned v) ∧
      ((∃ ys, ys = behindL d t ∧ J ys W') ∨ (∃ pre, pre <+: behindL d t ∧ Jx pre W')) := by
  have Hs := Lib.hid hs
  obtain ⟨⟨q, c, rfl, h1, h2, h3⟩, hat⟩ := hs
  have H3 := Lib.hid h3
  unfold maxLen at h2
  obtain ⟨n, hn⟩ : ∃ n, n = t.length := ⟨_, rfl⟩
  rw [← hn] at h1 ht hf Hs
  have Hn := Lib.hid hn
  have HJ := Lib.hid hJ
  have HY := Lib.hid hY
  have HM := Lib.hid hm
  have Hw := Lib.hid hw
  have Hdc := Lib.hid hdc
  have Hf := Lib.hid hf
  have HdT := Lib.hid hdT
  have HfT := Lib.hid hfT
  have HST := Lib.hid hST
  have H0 := Lib.hid h0
  clear hn hJ hY hm hw hdc hdT hfT hST h0 h3 hat
  refine callsIn_of_wp Tryz.func78 rfl trivial ?_ rfl
  simp only [Tryz.ntmps78, List.size_toArray, List.length_cons, List.length_nil, Nat.reduceAdd, Nat.reduceSub, Array.replicate_succ, Array.replicate_zero, List.push_toArray, List.append_toArray, List.nil_append, List.cons_append]
  gi_wp2
  clear hf
  gi_loopw [10] (fun i wr => ∃ k : Nat, k ≤ n ∧ i = .int .i64 k ∧ J (behindL d (t.take k)) wr ∧ KeepT T W wr) (fun i _ => n - (intOf i).toNat)
  case atStart => exact ⟨0, Nat.zero_le _, rfl, by rw [List.take_zero]; exact H0.out, KeepT.refl _ _⟩
  case round =>
    obtain ⟨k, hk, rfl, hJr, hkr⟩ := hrel
    have HJr := Lib.hid hJr
    have Hkr := Lib.hid hkr
    clear hJr hkr
    by_cases hlt : k < n
    · have hlt' : k < t.length := by rw [← Hn.out]; exact hlt
      obtain ⟨rfl, -⟩ := H3.out (by intro e; rw [e] at hlt'; simp at hlt')
      obtain ⟨-, hat⟩ := Hs.out.keepT Hkr.out HST.out
      obtain ⟨c0, c1⟩ := hat k hlt'
      have hxl := Hw.out _ (List.getElem_mem hlt')
      have Htk := Lib.hid (behind_take (d := d) hlt')
      have Hpre := Lib.hid (show behindL d (t.take (k + 1)) <+: behindL d t from by
        have := behind_pre (d := d) (t.take (k + 1)) (t.drop (k + 1))
        rwa [List.take_append_drop] at this)
      generalize t[k] = x at *
      obtain ⟨x1, x2⟩ := x
      simp only at c0 c1 hxl Htk
      have HU := Lib.hid (fun w' (h : KeepT T W w') => tunder_any d x1 w' hdl (by omega) (HM.out w' h))
      obtain ⟨u1, hu1⟩ : ∃ u, u = (undL d x1).1 := ⟨_, rfl⟩
      obtain ⟨u2, hu2⟩ : ∃ u, u = (undL d x1).2 := ⟨_, rfl⟩
      rw [← hu1, ← hu2] at HU Htk
      have hul : u1.length ≤ 131072 := by rw [hu1]; exact Nat.le_trans und_short hxl
      have Hul := Lib.hid hul
      clear hlt' hat hu1 hu2 hxl hul
      have hal := (Chg.refl NoB wr).alloc (.cells #[.string (tx x1), .string (tx x2)] 33)
      obtain ⟨g0, g1⟩ := var2 (heap_alloc_new wr (.cells #[.string (tx x1), .string (tx x2)] 33))
      have Hal := Lib.hid hal
      have Hk7 := Lib.hid (Hkr.out.trans (Chg.keepT hal fun _ => False.elim))
      have d0 := Hk7.out.cell Hdc.out HdT.out
      have HU2 := Lib.hid ((callsIn_wide (n := m - 1)).2 (HU.out _ Hk7.out))
      clear hal
      cases u2 with
      | false =>
        have Htk' := Lib.hid (show behindL d (t.take (k + 1)) = behindL d (t.take k) by rw [Htk.out]; simp)
        gi_wp2
        refine ⟨trivial, fun h => (by cases h), ?_⟩
        refine HU2.out.mono ?_
        rintro e W3 ⟨hc3, rfl⟩
        gi_wp2
        refine ⟨fun _ h => (by cases h), ?_⟩
        gi_wp2
        go_roundw
        case rel => exact ⟨k + 1, by omega, by go_num, by rw [Htk'.out]; exact abides_chg HJ.out (Hal.out.trans hc3) HJr.out, Hk7.out.trans (Chg.keepT hc3 fun _ => False.elim)⟩
        case measure => simp [intOf]; omega
      | true =>
        have Htk' := Lib.hid (show behindL d (t.take (k + 1)) = behindL d (t.take k) ++ [u1] by rw [Htk.out, if_pos rfl])
        have HYk := Lib.hid (fun W3 (hc3 : Chg NoB (wr.alloc (.cells #[.string (tx x1), .string (tx x2)] 33)) W3) => HY.out (behindL d (t.take k)) u1 W3 Hul.out (abides_chg HJ.out (Hal.out.trans hc3) HJr.out) (by have h := Hpre.out.length_le; rw [Htk'.out, List.length_append] at h; simp at h; omega))
        gi_wp2
        refine ⟨trivial, fun h => (by cases h), ?_⟩
        refine HU2.out.mono ?_
        rintro e W3 ⟨hc3, rfl⟩
        obtain ⟨fn, tmps, assign, body, hy, hR⟩ := HYk.out W3 hc3
        have HR := Lib.hid hR
        have Hc3 := Lib.hid hc3
        clear hc3 hR
        gi_wp2
        refine ⟨fun h => (by cases h), ?_⟩
        refine HR.out.mono ?_
        rintro e W4 (⟨rfl, hJ4, hk4⟩ | ⟨rfl, hx4⟩)
        · gi_wp2
          go_roundw
          case rel => exact ⟨k + 1, by omega, by go_num, by rw [Htk'.out]; exact hJ4, (Hk7.out.trans (Chg.keepT Hc3.out fun _ => False.elim)).trans hk4⟩
          case measure => simp [intOf]; omega
        · gi_wp2
          refine bodyPost_ret (results_none rfl _ _ _) rfl ?_
          exact ⟨⟨_, rfl⟩, .inr ⟨_, by rw [← Htk'.out]; exact Hpre.out, hx4⟩⟩
    · obtain rfl : k = n := by omega
      have htk : t.take k = t := by rw [Hn.out, List.take_length]
      rw [htk] at HJr
      clear htk hlt
      gi_wp2
      go_end0
      exact ⟨⟨_, rfl⟩, .inl ⟨_, rfl, HJr.out⟩⟩
/- texts that are not too long -/
abbrev B17 := { x : List UInt8 // x.length ≤ 131072 }
def clip (x : List UInt8) : B17 := if h : x.length ≤ 131072 then ⟨x, h⟩ else ⟨[], by decide⟩
theorem clip_val {x : List UInt8} (h : x.length ≤ 131072) : (clip x).1 = x := by unfold clip; rw [dif_pos h]
theorem clip_of (x : B17) : clip x.1 = x := Subtype.ext (clip_val x.2)
theorem behind1_stops (m fb db : Nat) (T S : Nat → Prop) (t : List FileL) (d : List UInt8) (ht : t.length ≤ 1048576) (hw : ∀ x ∈ t, x.1.length ≤ 131072) (hdl : d.length ≤ 262144) (fv : Value) (kb ko : Nat) (w : World)
    (hST : ∀ k, S k → ¬ T k) (hfT : ¬ T fb) (hdT : ¬ T db) (hm : ∀ W', KeepT T w W' → Pth.Ml W') (hf : w.cell? ⟨fb, 0, none⟩ = some fv) (hdc : w.cell? ⟨db, 0, none⟩ = some (.string (tx d))) (hs : InpS w S fv t kb ko) :
    SeqStopsK Fence.wide m Tryz.prog 78 #[.pointer (some ⟨fb, 0, none⟩), .pointer (some ⟨db, 0, none⟩)] (fun x : B17 => #[Value.string (tx x.1)]) (KeepT T) (fun ys => ys = (behindL d t).map clip) (fun pre => pre <+: (behindL d t).map clip) (behindL d t).length w := fun l J Jx W hW hJ hJx hY h0 => by
  have hc : Chg NoB w W := ⟨hW.os, hW.tape, hW.output, hW.size, fun k hk _ => hW.block k hk⟩
  refine (behind1_in m l fb db T S t d ht hw hdl fv kb ko hST hfT hdT (fun ys => J (ys.map clip)) (fun ys => Jx (ys.map clip)) W (fun s A B row hs hg hr => hJ _ A B row hs hg hr) (fun W' h => hm W' ((Chg.keepT hc fun _ => False.elim).trans h)) (fun pre x V hx hj hl => ?_) (hc.keep hf) (hc.keep hdc) (hs.keep hc fun _ _ => id) h0).mono ?_
  · have h := hY (pre.map clip) (clip x) V hj (by rw [List.length_map]; exact hl)
    simp only [clip_val hx] at h
    refine h.mono fun e W' h => ?_
    rw [List.map_append]
    exact h
  · rintro e W' ⟨hv, (⟨ys, rfl, hj⟩ | ⟨pre, ⟨r, hr⟩, hj⟩)⟩
    · exact ⟨hv, .inl ⟨_, rfl, hj⟩⟩
    · exact ⟨hv, .inr ⟨_, ⟨r.map clip, by rw [← List.map_append, hr]⟩, hj⟩⟩
end Go.Proofs.YtilkcjcmcnlfnaaGreatDoor
namespace Go.Proofs.YtilkcjcmcnlfnaaGreatDoor
set_option linter.unusedVariables false
open Go.ChangeShapes Go.WideShapes Go.ChangeAt Go.RowKit Go.Shelf
/- abides whatever is turned at or beyond B -/
def FreeFrom {β : Type} (B : Nat) (I : β → World → Prop) : Prop := ∀ s W W' row, I s W → W.grownBy W' row → (∀ r, row = some r → B ≤ r) → I s W'
theorem FreeFrom.own {β : Type} {B : Nat} {I : β → World → Prop} (h : FreeFrom B I) : OwnFrom B I := fun s W W' row hs hg hr => h s W W' row hs hg fun r e => (hr r e).1
theorem FreeFrom.abides {β : Type} {B : Nat} {I : β → World → Prop} (h : FreeFrom B I) : AbidesFrom B I := fun s W W' row hs hg hr => h s W W' row hs hg fun r e => (hr r e).1
def SeqO {α : Type} (F : Fence) (n : Nat) (P : Program) (g : Nat) (lb : Array Value) (encs : α → Array Value) (Kp : World → World → Prop) (S Sp : List α → Prop) (N : Nat) (w : World) : Prop :=
  ∀ (l : Nat) (J Jx : List α → World → Prop) (W : World), Below w.heap.size w W → l < W.heap.size → FreeFrom W.heap.size J → FreeFrom W.heap.size Jx →
    (∀ pre x W1, J pre W1 → pre.length < N → W.heap.size ≤ W1.heap.size → YieldAt F (n - 1) P l (encs x) W1 fun e W' =>
      KeepsFrom W.heap.size W1 W' ∧ ((e = .returned (.bool true) ∧ J (pre ++ [x]) W' ∧ Kp W1 W') ∨ (e = .returned (.bool false) ∧ Jx (pre ++ [x]) W'))) →
    J [] W →
    CallsIn F n P g (#[.func (.yield l) #[] #[]] ++ lb) W fun e W' => (∃ v, e = .returned v) ∧ ((∃ xs, S xs ∧ J xs W') ∨ (∃ pre, Sp pre ∧ Jx pre W'))
/- the loop's record at b + 1, the block for the rounds' deferred calls at b -/
structure Rec (b : Nat) (r : Loop) (W : World) : Prop where
  lp : W.heap[b + 1]? = some (.loop r)
  df : W.heap[b]? = some (.deferred (some []))
theorem Rec.lt {b : Nat} {r : Loop} {W : World} (h : Rec b r W) : b + 1 < W.heap.size := (Array.getElem?_eq_some_iff.1 h.lp).1
theorem Rec.put {b : Nat} {r : Loop} {W : World} (h : Rec b r W) (r' : Loop) : Rec b r' (W.putObj (b + 1) (.loop r')) :=
  ⟨World.putObj_heap_same h.lt, (World.putObj_heap_other (by omega)).trans h.df⟩
theorem Rec.grown {b : Nat} {r : Loop} {W W' : World} {row : Option Nat} (h : Rec b r W) (hg : W.grownBy W' row) (hr : ∀ k, row = some k → b + 2 ≤ k) : Rec b r W' := by
  have hl := h.lt
  exact ⟨(hg.block (b + 1) hl fun e => by have := hr _ e.symm; omega).trans h.lp, (hg.block b (by omega) fun e => by have := hr _ e.symm; omega).trans h.df⟩
theorem Rec.keeps {b : Nat} {r : Loop} {W W' : World} (h : Rec b r W) (hk : KeepsOthers W W') : Rec b r W' := ⟨hk.same _ _ h.lp rfl, hk.same _ _ h.df rfl⟩
theorem keepsFrom_put {B b : Nat} {W : World} (hb : b < B) (o : Obj) : KeepsFrom B W (W.putObj b o) :=
  ⟨by simp, fun k o' hB hk _ => (World.putObj_heap_other (by omega)).trans hk⟩
section
variable {F : Fence} {n : Nat} {P : Program}
set_option maxHeartbeats 1000000 in
theorem wpIn_range_over {α : Type} {g : Operand} {ps : Array Tmp} {assign body : Code} {Q : Exit → Act → World → Prop} {a : Act} {w : World}
    (hro : F.round = none) (h1 : 1 ≤ n) {gf : Nat} {lb : Array Value} (hg : a.eval g = .func (.func gf) #[] lb) (hFg : F.fn gf) (eg : ∀ args w, (callFunc gf args).run P w = .ok (.enter gf args) w)
    {encs : α → Array Value} {Kp : World → World → Prop} {S Sp : List α → Prop} {N : Nat} (hseq : SeqO F (n - 1) P gf lb encs Kp S Sp N w)
    (hKt : ∀ {A B C : World}, Kp A B → Kp B C → Kp A C) (hKb : ∀ (W : World) (l : Nat) (o o' : Obj), W.heap[l]? = some o → o.isCells = false → Kp W (W.putObj l o')) (hps : ∀ x, (encs x).size = ps.size)
    (I : List α → World → Prop) (Ix : Code → List α → World → Prop) (hI : FreeFrom w.heap.size I) (hIx : ∀ c, FreeFrom w.heap.size (Ix c)) (h0 : I [] w) (a₁ : α → Act)
    (hassign : ∀ (l : Nat) (x : α) (W : World) (K : Act → World → Prop), K (a₁ x) W →
      assign.wpIn (F.inRound l) (n - 1 - 1) P (Exit.then K (fun _ _ _ => False)) { tmps := (ps.zip (encs x)).foldl (fun t (p, v) => t.setIfInBounds p v) a.tmps, defers := [] } W)
    (hbody : ∀ (l : Nat) (pre : List α) (x : α) (W : World), I pre W → pre.length < N → body.wpIn (F.inRound l) (n - 1 - 1) P (ownPostK Kp I Ix (pre ++ [x]) W) (a₁ x) W)
    (hdone : ∀ (D : Nat) (xs : List α) (W : World), w.heap.size ≤ D → S xs → I xs W → W.heap[D]? = some (.deferred (some [])) → Q .normal { a with defers := { target := .collected D, args := #[] } :: a.defers } W)
    (hstop : ∀ (D : Nat) (c : Code) (pre : List α) (W : World), w.heap.size ≤ D → Sp pre → Ix c pre W → W.heap[D]? = some (.deferred (some [])) → c.wpIn F n P Q { a with defers := { target := .collected D, args := #[] } :: a.defers } W) :
    (Code.rangeFunc g ps assign body).wpIn F n P Q a w := by
  obtain ⟨b, hb⟩ : ∃ b, b = w.heap.size := ⟨_, rfl⟩
  rw [← hb] at hI hIx hdone hstop
  refine wpIn_rangeFunc fun fn hfn => ?_
  rw [hro]
  obtain ⟨r0, hr0⟩ : ∃ r0 : Loop, r0 = { state := .ready, pending := none, fn, tmps := a.tmps, params := ps, assign, body, defers := b } := ⟨_, rfl⟩
  obtain ⟨V, hV⟩ : ∃ V, (w.alloc (.deferred (some []))).alloc (.loop r0) = V := ⟨_, rfl⟩
  have hVs : V.heap.size = b + 2 := by rw [← hV, World.size_alloc, World.size_alloc, hb]
  have hV0 : Rec b r0 V := by
    constructor
    · have h := World.alloc_heap_new (w.alloc (.deferred (some []))) (.loop r0)
      rw [World.size_alloc, ← hb] at h
      rw [← hV]; exact h
    · rw [← hV, hb]
      exact (Below.heap_alloc _ _ _ (by rw [World.size_alloc]; omega)).trans (World.alloc_heap_new w _)
  have hVI : I [] V := by rw [← hV]; exact hI.own.alloc _ (hI.own.alloc _ h0)
  have hVb : Below w.heap.size w V := by
    rw [← hV]
    exact ((Below.refl _ w).alloc (Nat.le_refl _) _).alloc (by rw [World.size_alloc]; omega) _
  refine ⟨b + 1, [{ target := .collected b, args := #[] }], V, { target := .fn (.func gf) lb, args := #[.func (.yield (b + 1)) #[] #[]] }, V, gf, #[.func (.yield (b + 1)) #[] #[]] ++ lb, V, ?_, ?_, ?_, ?_, fun _ => h1, ?_⟩
  · rw [← hV, hr0, hb]; exact run_enterLoop_outer _ _ _ _ _
  · simp only [resolve, hg]
    simp [go_sem]
  · intro f' hf'
    simp [Target.leads] at hf'
    subst hf'
    exact hFg
  · simp [invoke, go_sem, eg]
  have hturn : ∀ {row : Option Nat}, (∀ r, row = some r → V.heap.size ≤ r) → ∀ r, row = some r → b ≤ r := fun h r e => by have := h r e; omega
  refine (hseq (b + 1) (fun pre W => I pre W ∧ Rec b r0 W) (fun pre W => ∃ c, Ix c pre W ∧ Rec b { r0 with state := .done, pending := some c } W) V hVb (by omega)
    (fun s A B row hs hgr hr => ⟨hI s A B row hs.1 hgr (hturn hr), hs.2.grown hgr fun k e => by have := hr k e; omega⟩)
    (fun s A B row hs hgr hr => by
      obtain ⟨c, hc, hrec⟩ := hs
      exact ⟨c, hIx c s A B row hc hgr (hturn hr), hrec.grown hgr fun k e => by have := hr k e; omega⟩) ?_ ⟨hVI, hV0⟩).mono ?_
  · rintro pre x W ⟨hi, hrec⟩ hlen hsz
    have hy := run_yield (P := P) (args := encs x) hrec.lp (by rw [hr0]; exact hps x)
    rw [hr0] at hy
    have hrun := run_beginRound (P := P) hrec.lp (by rw [hr0])
    have hW2 := hrec.put { r0 with state := .busy }
    obtain ⟨X, hX⟩ : ∃ X, W.putObj (b + 1) (.loop { r0 with state := .busy }) = X := ⟨_, rfl⟩
    rw [hX] at hrun hW2
    have hXI : I pre X := by rw [← hX]; exact hI.own.putObj _ hi (by omega) hrec.lp rfl
    have hXK : Kp W X := by rw [← hX]; exact hKb _ _ _ _ hrec.lp rfl
    have hXF : KeepsFrom V.heap.size W X := by rw [← hX]; exact keepsFrom_put (by omega) _
    refine ⟨fn, _, assign, body, hy, roundIn_of_wpIn hfn (hassign _ x W _ ⟨X, hrun, ?_⟩)⟩
    refine wpIn_mono (hbody _ pre x X hXI hlen) ?_
    have hend : ∀ (j : Option Code) (Y : World), KeepsOthers X Y → ∃ Z, (Instr.endRound (b + 1) j).run P Y = .ok (.bool j.isNone) Z ∧ Z = Y.putObj (b + 1) (.loop { r0 with state := if j.isNone then .ready else .done, pending := j }) ∧
        Rec b { r0 with state := if j.isNone then .ready else .done, pending := j } Z ∧ Rec b { r0 with state := .busy } Y ∧ KeepsFrom V.heap.size W Z := fun j Y hk => by
      have hY := hW2.keeps hk
      exact ⟨_, run_endRound j hY.lp, rfl, hY.put _, hY, (hXF.trans (hk.from _)).trans (keepsFrom_put (by omega) _)⟩
    have hr00 : { r0 with state := LoopState.ready, pending := none } = r0 := by rw [hr0]
    intro e a' Y hp
    cases e with
    | normal =>
      obtain ⟨hk, hkp, hi'⟩ := hp
      obtain ⟨Z, hrun', hZ, hrec', hY, hkf⟩ := hend none Y hk
      have hrec2 : Rec b r0 Z := by have h := hrec'; simp only [Option.isNone_none, if_true] at h; rw [hr00] at h; exact h
      exact ⟨_, Z, hrun', hkf, .inl ⟨rfl, ⟨by rw [hZ]; exact hI.own.putObj _ hi' (by omega) hY.lp rfl, hrec2⟩, hKt (hKt hXK hkp) (by rw [hZ]; exact hKb _ _ _ _ hY.lp rfl)⟩⟩
    | ret =>
      obtain ⟨hk, hi'⟩ := hp
      obtain ⟨Z, hrun', hZ, hrec', hY, hkf⟩ := hend (some .ret) Y hk
      exact ⟨_, Z, hrun', hkf, .inr ⟨rfl, .ret, by rw [hZ]; exact (hIx _).own.putObj _ hi' (by omega) hY.lp rfl, hrec'⟩⟩
    | exit id =>
      obtain ⟨hk, hi'⟩ := hp
      obtain ⟨Z, hrun', hZ, hrec', hY, hkf⟩ := hend (some (.exit id)) Y hk
      exact ⟨_, Z, hrun', hkf, .inr ⟨rfl, .exit id, by rw [hZ]; exact (hIx _).own.putObj _ hi' (by omega) hY.lp rfl, hrec'⟩⟩
    | goto t =>
      obtain ⟨hk, hi'⟩ := hp
      obtain ⟨Z, hrun', hZ, hrec', hY, hkf⟩ := hend (some (.goto t)) Y hk
      exact ⟨_, Z, hrun', hkf, .inr ⟨rfl, .goto t, by rw [hZ]; exact (hIx _).own.putObj _ hi' (by omega) hY.lp rfl, hrec'⟩⟩
    | panic ch => exact hp.elim
    | outgrown => exact hp.elim
  · rintro e Y ⟨⟨v, rfl⟩, (⟨xs, hS, hi, hrec⟩ | ⟨pre, hSp, c, hi, hrec⟩)⟩
    · refine ⟨_, _, run_endLoop hrec.lp (by rw [hr0]; simp), ?_⟩
      rw [hr0]
      exact hdone b xs _ (Nat.le_refl _) hS (hI.own.putObj _ hi (by omega) hrec.lp rfl) ((World.putObj_heap_other (by omega)).trans hrec.df)
    · refine ⟨_, _, run_endLoop hrec.lp (by simp), ?_⟩
      exact hstop b c pre _ (Nat.le_refl _) hSp ((hIx c).own.putObj _ hi (by omega) hrec.lp rfl) ((World.putObj_heap_other (by omega)).trans hrec.df)
end
end Go.Proofs.YtilkcjcmcnlfnaaGreatDoor
namespace Go.Proofs.YtilkcjcmcnlfnaaGreatDoor
set_option linter.unusedVariables false
open Go.ChangeShapes Go.WideShapes Go.ChangeAt Go.RowKit Go.Shelf
attribute [local go_sem] Oper.semAt_some
theorem scut_any (l : List UInt8) (w : World) (hm : Pth.Ml w) (hs : l.length ≤ 131072) :
    Calls Tryz.prog 57 #[.string (tx l), .string ⟨#[47]⟩] w fun e w' => Chg NoB w w' ∧ ∃ p r b, p.length ≤ 131072 ∧ nmL l = (if b = true then dirL p else p) ∧ e = .returned (.tuple #[.string (tx p), .string (tx r), .bool b]) := by
  obtain ⟨m, hm⟩ := hm
  refine (Tryz.strings_Cut (tx l) ⟨#[47]⟩ m w (by rw [tx_size]; omega) hm).mono ?_
  rintro e w' ⟨rfl, n, rfl⟩
  refine ⟨Chg.drewN (Chg.refl _ _) n, ?_⟩
  rw [tx_list]
  have : (ByteArray.mk #[47]).data.toList = [47] := rfl
  rw [this, cut_eq]
  cases hc : cutC 47 l with
  | none => exact ⟨l, [], false, hs, nmL_free (cutC_none.1 hc), rfl⟩
  | some pr =>
    obtain ⟨p, r⟩ := pr
    obtain ⟨rfl, hp⟩ := cutC_some.1 hc
    exact ⟨p, r, true, by rw [List.length_append] at hs; omega, nmL_cut hp, rfl⟩
def lastN (last : List UInt8) (l : List (List UInt8)) : List UInt8 := l.getLastD last
theorem adjN_snoc (s : List UInt8) : ∀ (l : List (List UInt8)) (last : List UInt8), adjN last (l ++ [s]) = adjN last l ++ (if s = l.getLastD last then [] else [s])
  | [], last => by rw [List.nil_append, adjN, adjN]; simp [adjN]
  | x :: r, last => by
    have e : (x :: r).getLastD last = r.getLastD x := by cases r <;> rfl
    rw [List.cons_append, adjN, adjN, e]
    by_cases h : x = last
    · subst h; rw [if_pos rfl, if_pos rfl]; exact adjN_snoc s r x
    · rw [if_neg h, if_neg h, adjN_snoc s r x, List.cons_append]
theorem adjN_pre {a b : List (List UInt8)} (h : a <+: b) (last : List UInt8) : adjN last a <+: adjN last b := by
  obtain ⟨r, rfl⟩ := h
  induction a generalizing last with
  | nil => rw [adjN]; exact List.nil_prefix
  | cons x a ih =>
    rw [List.cons_append, adjN, adjN]
    split
    · exact ih _
    · exact List.prefix_cons_inj _ |>.2 (ih _)
theorem adjN_len (l : List (List UInt8)) (last : List UInt8) : (adjN last l).length ≤ l.length := by
  induction l generalizing last with
  | nil => exact Nat.le_refl _
  | cons x l ih => rw [adjN]; split <;> simp <;> have := ih last <;> have := ih x <;> omega
def nmS (pre : List B17) : List (List UInt8) := pre.map fun x => nmL x.1
theorem nmS_snoc (pre : List B17) (x : B17) : nmS (pre ++ [x]) = nmS pre ++ [nmL x.1] := by unfold nmS; rw [List.map_append]; rfl
theorem last_snoc (pre : List B17) (x : B17) : (nmS (pre ++ [x])).getLastD [] = nmL x.1 := by rw [nmS_snoc]; simp
theorem nmS_behind {d : List UInt8} {t : List FileL} (hw : ∀ x ∈ t, x.1.length ≤ 131072) : nmS ((behindL d t).map clip) = (behindL d t).map nmL := by
  unfold nmS
  rw [List.map_map]
  apply List.map_congr_left
  intro r hr
  have hl : r.length ≤ 131072 := by
    unfold behindL at hr
    obtain ⟨y, hy, rfl⟩ := List.mem_map.1 hr
    rw [cutL_map] at hy
    obtain ⟨z, hz, hzy⟩ := List.mem_filterMap.1 hy
    cases hu : Pth.underL d z.1 with
    | none => rw [hu] at hzy; cases hzy
    | some p =>
      rw [hu] at hzy
      cases hzy
      have h := und_short (d := d) (s := z.1)
      unfold undL at h
      rw [hu] at h
      exact Nat.le_trans h (hw z hz)
  show nmL (clip r).1 = nmL r
  rw [clip_val hl]
theorem KeepT.keepsFrom {W W' : World} (h : Chg NoB W W') (B : Nat) : KeepsFrom B W W' := ⟨h.size, fun k o _ hk _ => (h.block k (Array.getElem?_eq_some_iff.1 hk).1 id).trans hk⟩
theorem keepsFrom_up {B B' : Nat} {W W' : World} (h : KeepsFrom B W W') (hb : B ≤ B') : KeepsFrom B' W W' := ⟨h.size, fun k o hk => h.same k o (Nat.le_trans hb hk)⟩
theorem FreeFrom.chg {β : Type} {B : Nat} {J : β → World → Prop} (h : FreeFrom B J) {s : β} {W W' : World} (hc : Chg NoB W W') (hs : J s W) : J s W' :=
  h s W W' none hs ⟨hc.os, hc.tape, hc.output, hc.size, fun k hk _ => hc.block k hk id⟩ fun r e => by cases e
theorem FreeFrom.set {β : Type} {B : Nat} {J : β → World → Prop} (h : FreeFrom B J) {s : β} {W : World} {b : Nat} (v : Value) (hb : B ≤ b) (hs : J s W) : J s (W.setCell ⟨b, 0, none⟩ v) :=
  h s W _ (some b) hs (grownBy_setCell' W b v) fun r e => by cases e; exact hb
theorem KeepT.less {T : Nat → Prop} {w W W' : World} {b : Nat} (hc : Chg NoB w W) (hb : w.heap.size ≤ b) (h : KeepT (fun k => T k ∨ k = b) W W') : KeepT T w W' :=
  ⟨Nat.le_trans hc.size h.size, fun k o hk ho ht => h.same k o (row_kept hc hk id) ho fun x => by
    have h1 := (Array.getElem?_eq_some_iff.1 hk).1
    rcases x with x | x
    · exact ht x
    · omega⟩
structure NI (T : Nat → Prop) (l : Nat) (w W V : World) (la : List UInt8) : Prop where
  yb : Boxed V W.heap.size 50 (.func (.yield l) #[] #[])
  lb : Boxed V (W.heap.size + 1) 9 (.string (tx la))
  kt : KeepT T w V
  sz : W.heap.size + 2 ≤ V.heap.size
theorem NI.grown {T : Nat → Prop} {l : Nat} {w W V V' : World} {la : List UInt8} {row : Option Nat} (h : NI T l w W V la) (hw : w.heap.size ≤ W.heap.size) (hg : V.grownBy V' row) (hr : ∀ r, row = some r → W.heap.size + 2 ≤ r) : NI T l w W V' la :=
  ⟨h.yb.kept hg fun e => by have := hr _ e.symm; omega, h.lb.kept hg fun e => by have := hr _ e.symm; omega,
    ⟨Nat.le_trans h.kt.size hg.size, fun k o hk ho ht => by
      have h1 := h.kt.same k o hk ho ht
      have h2 := (Array.getElem?_eq_some_iff.1 hk).1
      exact (hg.block k (Array.getElem?_eq_some_iff.1 h1).1 fun e => by have := hr _ e.symm; omega).trans h1⟩, Nat.le_trans h.sz hg.size⟩
theorem NI.chg {T : Nat → Prop} {l : Nat} {w W V V' : World} {la : List UInt8} (h : NI T l w W V la) (hw : w.heap.size ≤ W.heap.size) (hc : Chg NoB V V') : NI T l w W V' la :=
  h.grown hw (row := none) ⟨hc.os, hc.tape, hc.output, hc.size, fun k hk _ => hc.block k hk id⟩ fun r e => by cases e
theorem NI.step {T : Nat → Prop} {l : Nat} {w W V : World} {la : List UInt8} (h : NI T l w W V la) (hw : w.heap.size ≤ W.heap.size) (s : List UInt8) : NI T l w W (V.setCell ⟨W.heap.size + 1, 0, none⟩ (.string (tx s))) s := by
  have hg := grownBy_setCell' V (W.heap.size + 1) (.string (tx s))
  exact ⟨h.yb.other (by omega) _, h.lb.set _, ⟨Nat.le_trans h.kt.size hg.size, fun k o hk ho ht => by
      have h1 := h.kt.same k o hk ho ht
      have h2 := (Array.getElem?_eq_some_iff.1 hk).1
      exact (hg.block k (Array.getElem?_eq_some_iff.1 h1).1 fun e => by cases e; omega).trans h1⟩, Nat.le_trans h.sz hg.size⟩
theorem NI.round {T : Nat → Prop} {l : Nat} {w W V V' : World} {la : List UInt8} (h : NI T l w W V la) (hw : w.heap.size ≤ W.heap.size) (hT : ∀ k, T k → k < w.heap.size) (hk : KeepT T V V') : NI T l w W V' la :=
  ⟨hk.row h.yb fun x => by have := hT _ x; omega, hk.row h.lb fun x => by have := hT _ x; omega, h.kt.trans hk, Nat.le_trans h.sz hk.size⟩
theorem KeepT.wide {T U : Nat → Prop} {W W' : World} (h : KeepT T W W') : KeepT (fun k => T k ∨ U k) W W' := ⟨h.size, fun k o hk ho ht => h.same k o hk ho fun x => ht (.inl x)⟩
set_option maxRecDepth 100000 in
set_option maxHeartbeats 8000000 in
theorem names1_seq (m nb fb db : Nat) (hm1 : 1 ≤ m) (T S : Nat → Prop) (t : List FileL) (d : List UInt8) (ht : t.length ≤ 1048576) (hw : ∀ x ∈ t, x.1.length ≤ 131072) (hdl : d.length ≤ 262144) (fv : Value) (kb ko : Nat) (w : World)
    (hST : ∀ k, S k → ¬ T k) (hSw : ∀ k, S k → k < w.heap.size) (hTw : ∀ k, T k → k < w.heap.size) (hfT : ¬ T fb) (hdT : ¬ T db) (hfw : fb < w.heap.size) (hdw : db < w.heap.size) (hm : ∀ W', KeepT T w W' → Pth.Ml W')
    (hn : w.cell? ⟨nb, 0, none⟩ = some (.func (.func 78) #[] #[.pointer (some ⟨fb, 0, none⟩), .pointer (some ⟨db, 0, none⟩)])) (hf : w.cell? ⟨fb, 0, none⟩ = some fv) (hdc : w.cell? ⟨db, 0, none⟩ = some (.string (tx d))) (hs : InpS w S fv t kb ko) :
    SeqO Fence.wide m Tryz.prog 56 #[.pointer (some ⟨nb, 0, none⟩)] (fun x : List UInt8 => #[Value.string (tx x)]) (KeepT T) (fun ys => ys = namesL d t) (fun pre => pre <+: namesL d t) (behindL d t).length w := by
  intro l J Jx W hW hlW hJ hJx hY h0
  have hc : Chg NoB w W := ⟨hW.os, hW.tape, hW.output, hW.size, fun k hk _ => hW.block k hk⟩
  have hwW : w.heap.size ≤ W.heap.size := hc.size
  obtain ⟨W1, hW1⟩ : ∃ W1, W.alloc (.cells #[.func (.yield l) #[] #[]] 50) = W1 := ⟨_, rfl⟩
  have c1 : Chg NoB W W1 := by rw [← hW1]; exact (Chg.refl NoB W).alloc _
  have s1 : W1.heap.size = W.heap.size + 1 := by rw [← hW1]; exact alloc_size _ _
  have b1 : W1.heap[W.heap.size]? = some (.cells #[.func (.yield l) #[] #[]] 50 (0, 0)) := by rw [← hW1]; exact heap_alloc_new W _
  obtain ⟨W2, hW2⟩ : ∃ W2, W1.alloc (.cells #[.string ⟨#[]⟩] 9) = W2 := ⟨_, rfl⟩
  have c2 : Chg NoB W1 W2 := by rw [← hW2]; exact (Chg.refl NoB W1).alloc _
  have s2 : W2.heap.size = W.heap.size + 2 := by rw [← hW2, alloc_size, s1]
  have b2 : W2.heap[W.heap.size + 1]? = some (.cells #[.string ⟨#[]⟩] 9 (0, 0)) := by rw [← hW2, ← s1]; exact heap_alloc_new W1 _
  have cw2 : Chg NoB w W2 := hc.trans (c1.trans c2)
  have hNI : NI T l w W W2 [] := ⟨row_kept c2 b1 id, b2, Chg.keepT cw2 fun _ => False.elim, by omega⟩
  have hJ2 : J [] W2 := hJ.chg (c1.trans c2) h0
  have n0 := cw2.keep hn
  rw [← hW2, ← hW1] at n0
  have Hbeh := Lib.hid (behind1_stops (m - 1) fb db (fun k => T k ∨ k = W.heap.size + 1) S t d ht hw hdl fv kb ko W2 (fun k hk x => by rcases x with x | x; exact hST k hk x; have := hSw k hk; omega) (fun x => by rcases x with x | x; exact hfT x; omega) (fun x => by rcases x with x | x; exact hdT x; omega)
    (fun W' h => hm W' (h.less cw2 (by omega))) (cw2.keep hf) (cw2.keep hdc) (hs.keep cw2 fun _ _ => id))
  have HW1 := Lib.hid hW1
  have HW2 := Lib.hid hW2
  have HS2 := Lib.hid s2
  have Hcw2 := Lib.hid cw2
  have HNI := Lib.hid hNI
  have HJ2 := Lib.hid hJ2
  have HJ := Lib.hid hJ
  have HJx := Lib.hid hJx
  have HY := Lib.hid hY
  have HwW := Lib.hid hwW
  have HM := Lib.hid hm
  have Hw := Lib.hid hw
  have HT := Lib.hid hTw
  clear hc c1 c2 b1 b2 cw2 hNI hJ2 hJ hJx hY hm hw hn hf hdc hs hW1 hW2 h0 hW hST hSw hfT hdT hfw hdw s1 s2 hTw hwW
  refine callsIn_of_wp_marks Tryz.func56 rfl trivial ?_ rfl
  simp only [Tryz.ntmps56, List.size_toArray, List.length_cons, List.length_nil, Nat.reduceAdd, Nat.reduceSub, Array.replicate_succ, Array.replicate_zero, List.push_toArray, List.append_toArray, List.nil_append, List.cons_append]
  gi_wp2
  rw [HW1.out, HW2.out]
  clear n0
  have hj0 := HJ2.out
  refine wpIn_rangeFunc_ownG (α := B17) rfl hm1 (gf := 78) (lb := #[.pointer (some ⟨fb, 0, none⟩), .pointer (some ⟨db, 0, none⟩)]) rfl trivial (enters_of Tryz.func78 (by kernel_rfl) rfl)
    Hbeh.out KeepT.trans (fun W l o o' _ h hc _ => KeepT.putObj W l o o' h hc) (Below.refl _ _) (fun _ => rfl)
    (fun pre V => J (adjN [] (nmS pre)) V ∧ NI T l w W V ((nmS pre).getLastD []))
    (fun co pre V => co = .ret ∧ Jx (adjN [] (nmS pre)) V)
    (fun s A B row hs hg hr => ⟨HJ.out _ A B row hs.1 hg fun r e => by have h1 := (hr r e).1; have := HS2.out; omega, hs.2.grown HwW.out hg fun r e => by have h1 := (hr r e).1; have := HS2.out; omega⟩)
    (fun co s A B row hs hg hr => ⟨hs.1, HJx.out _ A B row hs.2 hg fun r e => by have h1 := (hr r e).1; have := HS2.out; omega⟩)
    ⟨hj0, HNI.out⟩
    (fun x => { tmps := #[.func (.yield l) #[] #[], .pointer (some ⟨nb, 0, none⟩), .pointer (some ⟨W.heap.size, 0, none⟩), .pointer (some ⟨W.heap.size + 1, 0, none⟩), .string (tx x.1), undef, undef, undef, .func (.func 78) #[] #[.pointer (some ⟨fb, 0, none⟩), .pointer (some ⟨db, 0, none⟩)], .string (tx x.1), undef, undef, undef, undef, undef, undef, undef, undef, undef, undef, undef, undef, undef, undef, undef, undef, undef, undef, undef], defers := [] }) ?assign ?body ?done ?stop
  case assign =>
    intro l' x V K hK
    gi_wp2
    exact hK
  case body =>
    rintro l' pre x V ⟨hj, hni⟩ hlen
    obtain ⟨la, hla⟩ : ∃ la, la = (nmS pre).getLastD [] := ⟨_, rfl⟩
    rw [← hla] at hni
    have Hla := Lib.hid hla
    have Hj := Lib.hid hj
    have Hni := Lib.hid hni
    have HC := Lib.hid (scut_any x.1 V (HM.out V Hni.out.kt) x.2)
    clear hla hj hni hj0
    try dsimp only
    gi_wp2
    refine ⟨trivial, fun h => (by cases h), ?_⟩
    refine (CallsIn.inRound l' ((callsIn_wide (n := m - 1 - 1 - 1)).2 HC.out)).mono ?_
    rintro e V3 ⟨hc3, p, r, b, hpl, hnm, rfl⟩
    have Hc3 := Lib.hid hc3
    have Hni3 := Lib.hid (Hni.out.chg HwW.out hc3)
    have HJ3 := Lib.hid (HJ.out.chg hc3 Hj.out)
    clear hc3 HC
    obtain ⟨nm, hnm0⟩ : ∃ q, q = nmL x.1 := ⟨_, rfl⟩
    rw [← hnm0] at hnm
    have Hnm := Lib.hid hnm0
    clear hnm0
    cases b with
    | true =>
      replace hnm : nm = dirL p := by simpa using hnm
      have hdir : tx p ++ (⟨#[47]⟩ : ByteArray) = tx nm := by rw [tx_dir, hnm]
      have hps : (tx p).size ≤ 1048576 := by rw [tx_size]; omega
      clear hnm
      by_cases he : nm = la
      · subst he
        have hr := tx_beq nm nm
        rw [decide_eq_true rfl] at hr
        have Hjj := Lib.hid (show adjN [] (nmS (pre ++ [x])) = adjN [] (nmS pre) by rw [nmS_snoc, adjN_snoc, ← Hla.out, ← Hnm.out, if_pos rfl, List.append_nil])
        have y0 := Hni3.out.yb.cell
        have l0 := Hni3.out.lb.cell
        have l1 := Hni3.out.lb.frozen
        gi_wp2
        refine ⟨fun _ h => (by cases h), ?_⟩
        gi_wp2
        refine ⟨(KeepT.keepsFrom Hc3.out _).trans ((KeepsOthers.setCell _ _ _).from _), (Chg.keepT Hc3.out fun _ => False.elim).trans (((Chg.refl (fun k => k = W.heap.size + 1) V3).setCell (p := ⟨W.heap.size + 1, 0, none⟩) (.inl rfl) _).keepT fun k h => .inr h), by rw [Hjj.out]; exact HJ.out.set _ (by omega) HJ3.out, by rw [last_snoc, ← Hnm.out]; exact Hni3.out.step HwW.out _⟩
      · have hr := tx_beq nm la
        rw [decide_eq_false he] at hr
        have Hjj := Lib.hid (show adjN [] (nmS (pre ++ [x])) = adjN [] (nmS pre) ++ [nm] by rw [nmS_snoc, adjN_snoc, ← Hla.out, ← Hnm.out, if_neg he])
        have y0 := Hni3.out.yb.cell
        have l0 := Hni3.out.lb.cell
        have l1 := Hni3.out.lb.frozen
        obtain ⟨fn, tmps, assign, body, hy, hR⟩ := HY.out (adjN [] (nmS pre)) nm V3 HJ3.out (Nat.lt_of_le_of_lt (Nat.le_trans (adjN_len _ _) (by unfold nmS; rw [List.length_map]; exact Nat.le_refl _)) hlen) (by have := Hni3.out.sz; omega)
        have HR := Lib.hid hR
        clear hR he
        gi_wp2
        refine ⟨fun h => (by cases h), ?_⟩
        refine (RoundIn.anyDepth (F := Fence.wide.inRound l') rfl (show RoundIn (Fence.wide.inRound l') (m - 1) _ _ _ _ _ _ _ _ from HR.out)).mono ?_
        rintro e V4 ⟨hkf, (⟨rfl, hJ4, hk4⟩ | ⟨rfl, hx4⟩)⟩
        · have Hni4 := Lib.hid (Hni3.out.round HwW.out HT.out hk4)
          have Hkf := Lib.hid hkf
          have Hk4 := Lib.hid hk4
          have HJ4 := Lib.hid hJ4
          clear y0 l0 l1 hkf hk4 hJ4
          have l0 := Hni4.out.lb.cell
          have l1 := Hni4.out.lb.frozen
          gi_wp2
          refine ⟨((KeepT.keepsFrom Hc3.out _).trans (keepsFrom_up Hkf.out (by have := HS2.out; omega))).trans ((KeepsOthers.setCell _ _ _).from _), ((Chg.keepT Hc3.out fun _ => False.elim).trans Hk4.out.wide).trans (((Chg.refl (fun k => k = W.heap.size + 1) V4).setCell (p := ⟨W.heap.size + 1, 0, none⟩) (.inl rfl) _).keepT fun k h => .inr h), by rw [Hjj.out]; exact HJ.out.set _ (by omega) HJ4.out, by rw [last_snoc, ← Hnm.out]; exact Hni4.out.step HwW.out _⟩
        · have Hkf := Lib.hid hkf
          have Hx4 := Lib.hid hx4
          clear hkf hx4
          gi_wp2
          exact ⟨(KeepT.keepsFrom Hc3.out _).trans (keepsFrom_up Hkf.out (by have := HS2.out; omega)), rfl, by rw [Hjj.out]; exact Hx4.out⟩
    | false =>
      replace hnm : nm = p := by simpa using hnm
      subst hnm
      by_cases he : nm = la
      · subst he
        have hr := tx_beq nm nm
        rw [decide_eq_true rfl] at hr
        have Hjj := Lib.hid (show adjN [] (nmS (pre ++ [x])) = adjN [] (nmS pre) by rw [nmS_snoc, adjN_snoc, ← Hla.out, ← Hnm.out, if_pos rfl, List.append_nil])
        have y0 := Hni3.out.yb.cell
        have l0 := Hni3.out.lb.cell
        have l1 := Hni3.out.lb.frozen
        gi_wp2
        refine ⟨fun _ h => (by cases h), ?_⟩
        gi_wp2
        refine ⟨(KeepT.keepsFrom Hc3.out _).trans ((KeepsOthers.setCell _ _ _).from _), (Chg.keepT Hc3.out fun _ => False.elim).trans (((Chg.refl (fun k => k = W.heap.size + 1) V3).setCell (p := ⟨W.heap.size + 1, 0, none⟩) (.inl rfl) _).keepT fun k h => .inr h), by rw [Hjj.out]; exact HJ.out.set _ (by omega) HJ3.out, by rw [last_snoc, ← Hnm.out]; exact Hni3.out.step HwW.out _⟩
      · have hr := tx_beq nm la
        rw [decide_eq_false he] at hr
        have Hjj := Lib.hid (show adjN [] (nmS (pre ++ [x])) = adjN [] (nmS pre) ++ [nm] by rw [nmS_snoc, adjN_snoc, ← Hla.out, ← Hnm.out, if_neg he])
        have y0 := Hni3.out.yb.cell
        have l0 := Hni3.out.lb.cell
        have l1 := Hni3.out.lb.frozen
        obtain ⟨fn, tmps, assign, body, hy, hR⟩ := HY.out (adjN [] (nmS pre)) nm V3 HJ3.out (Nat.lt_of_le_of_lt (Nat.le_trans (adjN_len _ _) (by unfold nmS; rw [List.length_map]; exact Nat.le_refl _)) hlen) (by have := Hni3.out.sz; omega)
        have HR := Lib.hid hR
        clear hR he
        gi_wp2
        refine ⟨fun h => (by cases h), ?_⟩
        refine (RoundIn.anyDepth (F := Fence.wide.inRound l') rfl (show RoundIn (Fence.wide.inRound l') (m - 1) _ _ _ _ _ _ _ _ from HR.out)).mono ?_
        rintro e V4 ⟨hkf, (⟨rfl, hJ4, hk4⟩ | ⟨rfl, hx4⟩)⟩
        · have Hni4 := Lib.hid (Hni3.out.round HwW.out HT.out hk4)
          have Hkf := Lib.hid hkf
          have Hk4 := Lib.hid hk4
          have HJ4 := Lib.hid hJ4
          clear y0 l0 l1 hkf hk4 hJ4
          have l0 := Hni4.out.lb.cell
          have l1 := Hni4.out.lb.frozen
          gi_wp2
          refine ⟨((KeepT.keepsFrom Hc3.out _).trans (keepsFrom_up Hkf.out (by have := HS2.out; omega))).trans ((KeepsOthers.setCell _ _ _).from _), ((Chg.keepT Hc3.out fun _ => False.elim).trans Hk4.out.wide).trans (((Chg.refl (fun k => k = W.heap.size + 1) V4).setCell (p := ⟨W.heap.size + 1, 0, none⟩) (.inl rfl) _).keepT fun k h => .inr h), by rw [Hjj.out]; exact HJ.out.set _ (by omega) HJ4.out, by rw [last_snoc, ← Hnm.out]; exact Hni4.out.step HwW.out _⟩
        · have Hkf := Lib.hid hkf
          have Hx4 := Lib.hid hx4
          clear hkf hx4
          gi_wp2
          exact ⟨(KeepT.keepsFrom Hc3.out _).trans (keepsFrom_up Hkf.out (by have := HS2.out; omega)), rfl, by rw [Hjj.out]; exact Hx4.out⟩
  case done =>
    rintro D ys V hD rfl ⟨hj, hni⟩ hK
    have hj' : J (namesL d t) V := by rw [nmS_behind Hw.out] at hj; exact hj
    have Hj' := Lib.hid hj'
    have HK := Lib.hid hK
    clear hj hj' hni hj0
    gi_wp2
    refine ⟨by simp, .inl ⟨_, _, rfl, run_takeDeferred HK.out, ?_⟩⟩
    exact ⟨_, results_none rfl _ _ _, ⟨_, rfl⟩, .inl ⟨_, rfl, HJ.out.own.putObj _ Hj'.out (by have := HS2.out; omega) HK.out rfl⟩⟩
  case stop =>
    rintro D co pre V hD hpre ⟨rfl, hjx⟩ hK
    have Hp := Lib.hid (show adjN [] (nmS pre) <+: namesL d t by
      unfold namesL
      rw [← nmS_behind Hw.out]
      obtain ⟨r, hr⟩ := hpre
      exact adjN_pre ⟨nmS r, by rw [← hr]; unfold nmS; rw [List.map_append]⟩ [])
    have Hjx := Lib.hid hjx
    have HK := Lib.hid hK
    clear hjx hpre hj0
    gi_wp2
    refine ⟨by simp, .inl ⟨_, _, rfl, run_takeDeferred HK.out, ?_⟩⟩
    exact ⟨_, results_none rfl _ _ _, ⟨_, rfl⟩, .inr ⟨_, Hp.out, HJx.out.own.putObj _ Hjx.out (by have := HS2.out; omega) HK.out rfl⟩⟩
end Go.Proofs.YtilkcjcmcnlfnaaGreatDoor
