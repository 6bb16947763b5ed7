/- The contract of Assemble. Conditions: the text is not too long; the library's variables and the list of words read as listed. -/
import Derived.Test.YtaihgciokfkonaaDoorAmAsm
import Derived.Stop.RegionWithIn

namespace Go.Proofs.YtaihgciokfkonaaDoor
set_option linter.unusedVariables false
open Go.ChangeShapes Go.WideShapes Go.ChangeAt Go.RowKit Go.ChangeMaps Go.MapKept
attribute [local go_sem] Oper.semAt_some
theorem SrcM.grown {A B : World} {row : Option Nat} {lo ob mb : Nat} {s : SrcL} (h : SrcM A lo ob mb s) (hg : A.grownBy B row) (hr : ∀ r, row = some r → (lo ≤ r ∧ ∃ o : Obj, A.heap[r]? = some o ∧ o.isCells = false) ∨ (r < lo ∧ r ≠ ob ∧ r ≠ mb)) (h1 : ob < lo) (h2 : mb < lo) : SrcM B lo ob mb s := by
  obtain ⟨q, c, e1, e2⟩ := h.row
  have hk : ∀ b o, b < lo → b = ob ∨ b = mb → A.heap[b]? = some o → B.heap[b]? = some o := fun b o h1 h2 h3 => (hg.block b (Array.getElem?_eq_some_iff.1 h3).1 fun e => by rcases hr b e.symm with x | x <;> omega).trans h3
  refine ⟨⟨q, c, hk _ _ h1 (.inl rfl) e1, ?_⟩, ?_, h.nd, h.wf⟩
  · refine ownsRow_chg e2 ((Chg.refl (fun k => row = some k) A).grown hg fun j e => .inl e) fun k hk' e => ?_
    rcases hr k e with ⟨-, o, ho, hc⟩ | x
    · rcases e2.2 with ⟨e3, -⟩ | ⟨g', cap, cur, e3, hb, hh, -⟩
      · rw [e3] at hk'; cases hk'
      · rw [e3] at hk'; cases hk'
        rw [hh] at ho; cases ho; cases hc
    · have := (World.ownsRow.lt e2 k hk').1
      omega
  · obtain ⟨es, clock, hb, hrr⟩ := h.map
    exact ⟨es, clock, hk _ _ h2 (.inr rfl) hb, hrr⟩
theorem keepsDrew {B : Nat} {W X : World} (h : KeepsFrom B W X) : KeepsFrom B W X.drew := ⟨h.size, h.same⟩
theorem addF_err {s : SrcL} {t : List UInt8} {no x : Int} (h : addF s t no = .error x) : x ≠ 0 := by
  unfold addF at h
  split at h
  · cases h
  · split at h
    · split at h
      · cases h; decide
      · cases h
    · cases hi : insF t with
      | none => rw [hi] at h; cases h; decide
      | some y => rw [hi] at h; cases h
def TBA (lo b2 b3 b4 ob mb nb sb : Nat) (k : Nat) : Prop := k = b2 ∨ k = b3 ∨ k = b4 ∨ k = ob ∨ k = mb ∨ k = nb ∨ k = sb ∨ lo ≤ k
def TBR (lo b2 b3 b4 ob mb nb : Nat) (k : Nat) : Prop := k = b2 ∨ k = b3 ∨ k = b4 ∨ k = ob ∨ k = mb ∨ k = nb ∨ lo ≤ k
structure AsmI (w8 V : World) (b2 b3 b4 ob mb nb sb : Nat) (s : SrcL) (k : Nat) : Prop where
  chg : Chg (TBA w8.heap.size b2 b3 b4 ob mb nb sb) w8 V
  r2 : V.heap[b2]? = some (.cells #[.slice none 0 0] 23 (0, 0))
  r3 : V.heap[b3]? = some (.cells #[.int .i64 0] 3 (0, 0))
  r4 : V.heap[b4]? = some (.cells #[.int .i64 0] 24 (0, 0))
  rn : V.heap[nb]? = some (.cells #[.int .i64 (k : Int)] 3 (0, 0))
  src : SrcM V w8.heap.size ob mb s
theorem AsmI.grown {w8 A B : World} {b2 b3 b4 ob mb nb sb : Nat} {s : SrcL} {k : Nat} {row : Option Nat} (h : AsmI w8 A b2 b3 b4 ob mb nb sb s k) (hg : A.grownBy B row) (hr : ∀ r, row = some r → (w8.heap.size ≤ r ∧ ∃ o : Obj, A.heap[r]? = some o ∧ o.isCells = false) ∨ r = sb)
    (hlt : b2 < w8.heap.size ∧ b3 < w8.heap.size ∧ b4 < w8.heap.size ∧ ob < w8.heap.size ∧ mb < w8.heap.size ∧ nb < w8.heap.size ∧ sb < w8.heap.size) (hne : b2 ≠ sb ∧ b3 ≠ sb ∧ b4 ≠ sb ∧ ob ≠ sb ∧ mb ≠ sb ∧ nb ≠ sb) : AsmI w8 B b2 b3 b4 ob mb nb sb s k := by
  have hk : ∀ b o, b < w8.heap.size → b ≠ sb → A.heap[b]? = some o → B.heap[b]? = some o := fun b o h1 h2 h3 => (hg.block b (Array.getElem?_eq_some_iff.1 h3).1 fun e => by rcases hr b e.symm with x | x <;> omega).trans h3
  refine ⟨h.chg.grown hg fun j e => (hr j e).symm.imp (fun x => .inr (.inr (.inr (.inr (.inr (.inr (.inl x))))))) And.left, hk _ _ hlt.1 hne.1 h.r2, hk _ _ hlt.2.1 hne.2.1 h.r3, hk _ _ hlt.2.2.1 hne.2.2.1 h.r4, hk _ _ hlt.2.2.2.2.2.1 hne.2.2.2.2.2 h.rn, ?_⟩
  exact h.src.grown hg (fun r e => (hr r e).imp id fun x => by subst x; exact ⟨hlt.2.2.2.2.2.2, fun e => hne.2.2.2.1 e.symm, fun e => hne.2.2.2.2.1 e.symm⟩) hlt.2.2.2.1 hlt.2.2.2.2.1
/- the three results are laid, the call ends -/
theorem res_cells3 {fn : Func} {p t u : Tmp} {ty ty' ty'' : TypeId} (h : fn.results = #[.cell p ty, .cell t ty', .cell u ty'']) (tmps : Array Value) {P : Program} {w : World} {a b c : Addr} {v v' v'' : Value} (hp : tmps.getD p undef = .pointer (some a)) (hl : (loadVar ty a).run P w = .ok v w) (ht : tmps.getD t undef = .pointer (some b)) (hm : (loadVar ty' b).run P w = .ok v' w) (hu : tmps.getD u undef = .pointer (some c)) (hn : (loadVar ty'' c).run P w = .ok v'' w) :
    (results fn tmps).run P w = .ok (.tuple #[v, v', v'']) w := by
  rw [Array.getD_eq_getD_getElem?] at hp ht hu
  simp only [results, h]
  simp [Result.andThen, hp, ht, hu, asAddr, hl, hm, hn]
theorem res_asm {w : World} {b2 b3 b4 : Nat} {v : Value} {j k : Int} (tmps : Array Value) (h2 : w.heap[b2]? = some (.cells #[v] 23 (0, 0))) (h3 : w.heap[b3]? = some (.cells #[.int .i64 j] 3 (0, 0))) (h4 : w.heap[b4]? = some (.cells #[.int .i64 k] 24 (0, 0))) (e2 : tmps.getD 2 undef = .pointer (some ⟨b2, 0, none⟩)) (e3 : tmps.getD 3 undef = .pointer (some ⟨b3, 0, none⟩)) (e4 : tmps.getD 4 undef = .pointer (some ⟨b4, 0, none⟩)) :
    (results Tryd.f10 tmps).run Tryd.prog w = .ok (.tuple #[v, .int .i64 j, .int .i64 k]) w := by
  have z2 := var1 h2
  have z3 := var1 h3
  have z4 := var1 h4
  exact res_cells3 (p := 2) (t := 3) (u := 4) (ty := 23) (ty' := 3) (ty'' := 24) rfl _ e2 (by simp [go_sem, loadVar, z2]) e3 (by simp [go_sem, loadVar, z3]) e4 (by simp [go_sem, loadVar, z4])
theorem store_asm {V : World} {b2 b3 b4 : Nat} {u v : Value} {i j k l : Int} (h2 : V.heap[b2]? = some (.cells #[u] 23 (0, 0))) (h3 : V.heap[b3]? = some (.cells #[.int .i64 i] 3 (0, 0))) (h4 : V.heap[b4]? = some (.cells #[.int .i64 j] 24 (0, 0))) (hne : b2 ≠ b3 ∧ b2 ≠ b4 ∧ b3 ≠ b4) :
    (((V.setCell ⟨b2, 0, none⟩ v).setCell ⟨b3, 0, none⟩ (.int .i64 k)).setCell ⟨b4, 0, none⟩ (.int .i64 l)).heap[b2]? = some (.cells #[v] 23 (0, 0)) ∧ (((V.setCell ⟨b2, 0, none⟩ v).setCell ⟨b3, 0, none⟩ (.int .i64 k)).setCell ⟨b4, 0, none⟩ (.int .i64 l)).heap[b3]? = some (.cells #[.int .i64 k] 3 (0, 0)) ∧ (((V.setCell ⟨b2, 0, none⟩ v).setCell ⟨b3, 0, none⟩ (.int .i64 k)).setCell ⟨b4, 0, none⟩ (.int .i64 l)).heap[b4]? = some (.cells #[.int .i64 l] 24 (0, 0)) ∧
    Chg (fun x => x = b2 ∨ x = b3 ∨ x = b4) V (((V.setCell ⟨b2, 0, none⟩ v).setCell ⟨b3, 0, none⟩ (.int .i64 k)).setCell ⟨b4, 0, none⟩ (.int .i64 l)) ∧ KeepsOthers V (((V.setCell ⟨b2, 0, none⟩ v).setCell ⟨b3, 0, none⟩ (.int .i64 k)).setCell ⟨b4, 0, none⟩ (.int .i64 l)) := by
  have c2 : Chg (fun k => k = b2) V (V.setCell ⟨b2, 0, none⟩ v) := (Chg.refl (fun k => k = b2) V).setCell (p := ⟨b2, 0, none⟩) (.inl rfl) _
  have r2 := heap_set h2 (i := 0) v
  have r3 := row_kept c2 h3 (fun e => hne.1 e.symm)
  have r4 := row_kept c2 h4 (fun e => hne.2.1 e.symm)
  have k2 : KeepsOthers V (V.setCell ⟨b2, 0, none⟩ v) := KeepsOthers.setCell _ _ _
  generalize V.setCell ⟨b2, 0, none⟩ v = V2 at *
  have c3 : Chg (fun k => k = b3) V2 (V2.setCell ⟨b3, 0, none⟩ (.int .i64 k)) := (Chg.refl (fun k => k = b3) V2).setCell (p := ⟨b3, 0, none⟩) (.inl rfl) _
  have s3 := heap_set r3 (i := 0) (.int .i64 k)
  have s2 := row_kept c3 r2 hne.1
  have s4 := row_kept c3 r4 (fun e => hne.2.2 e.symm)
  have k3 : KeepsOthers V2 (V2.setCell ⟨b3, 0, none⟩ (.int .i64 k)) := KeepsOthers.setCell _ _ _
  generalize V2.setCell ⟨b3, 0, none⟩ (.int .i64 k) = V3 at *
  have c4 : Chg (fun k => k = b4) V3 (V3.setCell ⟨b4, 0, none⟩ (.int .i64 l)) := (Chg.refl (fun k => k = b4) V3).setCell (p := ⟨b4, 0, none⟩) (.inl rfl) _
  exact ⟨row_kept c4 s2 hne.2.1, row_kept c4 s3 hne.2.2, heap_set s4 (i := 0) _, ((c2.mono fun _ _ x => .inl x).trans (c3.mono fun _ _ x => .inr (.inl x))).trans (c4.mono fun _ _ x => .inr (.inr x)), (k2.trans k3).trans (KeepsOthers.setCell _ _ _)⟩
/- the results are laid, the rounds' deferred calls are taken -/
theorem asm_fin {w V : World} {b2 b3 b4 D : Nat} {u v : Value} {i j k l : Int} (h2 : V.heap[b2]? = some (.cells #[u] 23 (0, 0))) (h3 : V.heap[b3]? = some (.cells #[.int .i64 i] 3 (0, 0))) (h4 : V.heap[b4]? = some (.cells #[.int .i64 j] 24 (0, 0))) (hne : b2 ≠ b3 ∧ b2 ≠ b4 ∧ b3 ≠ b4) (hc : Chg NoB w V) (hb : w.heap.size ≤ b2 ∧ w.heap.size ≤ b3 ∧ w.heap.size ≤ b4) (hK : V.heap[D]? = some (.deferred (some []))) (hD : w.heap.size ≤ D) :
    (((V.setCell ⟨b2, 0, none⟩ v).setCell ⟨b3, 0, none⟩ (.int .i64 k)).setCell ⟨b4, 0, none⟩ (.int .i64 l)).heap[D]? = some (.deferred (some [])) ∧
    ((((V.setCell ⟨b2, 0, none⟩ v).setCell ⟨b3, 0, none⟩ (.int .i64 k)).setCell ⟨b4, 0, none⟩ (.int .i64 l)).putObj D (.deferred none)).heap[b2]? = some (.cells #[v] 23 (0, 0)) ∧
    ((((V.setCell ⟨b2, 0, none⟩ v).setCell ⟨b3, 0, none⟩ (.int .i64 k)).setCell ⟨b4, 0, none⟩ (.int .i64 l)).putObj D (.deferred none)).heap[b3]? = some (.cells #[.int .i64 k] 3 (0, 0)) ∧
    ((((V.setCell ⟨b2, 0, none⟩ v).setCell ⟨b3, 0, none⟩ (.int .i64 k)).setCell ⟨b4, 0, none⟩ (.int .i64 l)).putObj D (.deferred none)).heap[b4]? = some (.cells #[.int .i64 l] 24 (0, 0)) ∧
    Chg NoB w ((((V.setCell ⟨b2, 0, none⟩ v).setCell ⟨b3, 0, none⟩ (.int .i64 k)).setCell ⟨b4, 0, none⟩ (.int .i64 l)).putObj D (.deferred none)) ∧
    Chg (fun x => x = b2 ∨ x = b3 ∨ x = b4 ∨ x = D) V ((((V.setCell ⟨b2, 0, none⟩ v).setCell ⟨b3, 0, none⟩ (.int .i64 k)).setCell ⟨b4, 0, none⟩ (.int .i64 l)).putObj D (.deferred none)) := by
  obtain ⟨a1, a2, a3, a4, a5⟩ := store_asm (v := v) (k := k) (l := l) h2 h3 h4 hne
  have hK' := a5.same D _ hK rfl
  have hW := hc.above a4 fun x hx => by rcases hx with rfl | rfl | rfl <;> omega
  have hg := grownBy_putObj' (((V.setCell ⟨b2, 0, none⟩ v).setCell ⟨b3, 0, none⟩ (.int .i64 k)).setCell ⟨b4, 0, none⟩ (.int .i64 l)) D (.deferred none)
  generalize ((V.setCell ⟨b2, 0, none⟩ v).setCell ⟨b3, 0, none⟩ (.int .i64 k)).setCell ⟨b4, 0, none⟩ (.int .i64 l) = V3 at *
  have hnd : ∀ (b' : Nat) (cs : Array Value) (t : TypeId) (f : Nat × Nat), V3.heap[b']? = some (.cells cs t f) → (V3.putObj D (.deferred none)).heap[b']? = some (.cells cs t f) := fun b' cs t f e =>
    (World.putObj_heap_other (fun e2 => by subst e2; rw [hK'] at e; cases e)).trans e
  exact ⟨hK', hnd _ _ _ _ a1, hnd _ _ _ _ a2, hnd _ _ _ _ a3, hW.grown hg fun k e => .inr (by cases e; omega), (a4.mono fun _ _ x => by rcases x with x | x | x; exact .inl x; exact .inr (.inl x); exact .inr (.inr (.inl x))).grown hg fun k e => .inl (by cases e; exact .inr (.inr (.inr rfl)))⟩
set_option maxHeartbeats 4000000 in
set_option maxRecDepth 20000 in
theorem asm_long (t : List UInt8) (w : World) (h : 65536 < t.length) : Calls Tryd.prog 10 #[.string (tx t)] w (ProgP (asmF t) w) := by
  have Hr := Lib.hid (show asmF t = ([], 0, 3) from if_pos h)
  have hal_ := (Chg.refl NoB w).alloc (.cells #[.slice none 0 0] 23)
  have hb_ := heap_alloc_new w (.cells #[.slice none 0 0] 23)
  obtain ⟨b2, hxb_⟩ : ∃ b, b = w.heap.size := ⟨_, rfl⟩
  obtain ⟨w2, hw_⟩ : ∃ w_, w.alloc (.cells #[.slice none 0 0] 23) = w_ := ⟨_, rfl⟩
  have hz_ : w2.heap.size = b2 + 1 := by rw [← hw_, hxb_]; exact alloc_size _ _
  rw [hw_] at hal_ hb_
  rw [← hxb_] at hb_
  have Hw2 := Lib.hid hw_
  have Hx2 := Lib.hid hxb_
  have Ha2 := Lib.hid hal_
  have Hb2 := Lib.hid hb_
  have Hz2 := Lib.hid hz_
  clear hal_ hb_ hxb_ hw_ hz_
  have hal_ := (Chg.refl NoB w2).alloc (.cells #[.int .i64 0] 3)
  have hb_ := heap_alloc_new w2 (.cells #[.int .i64 0] 3)
  obtain ⟨b3, hxb_⟩ : ∃ b, b = w2.heap.size := ⟨_, rfl⟩
  obtain ⟨w3, hw_⟩ : ∃ w_, w2.alloc (.cells #[.int .i64 0] 3) = w_ := ⟨_, rfl⟩
  have hz_ : w3.heap.size = b3 + 1 := by rw [← hw_, hxb_]; exact alloc_size _ _
  rw [hw_] at hal_ hb_
  rw [← hxb_] at hb_
  have Hw3 := Lib.hid hw_
  have Hx3 := Lib.hid hxb_
  have Ha3 := Lib.hid hal_
  have Hb3 := Lib.hid hb_
  have Hz3 := Lib.hid hz_
  clear hal_ hb_ hxb_ hw_ hz_
  have hal_ := (Chg.refl NoB w3).alloc (.cells #[.int .i64 0] 24)
  have hb_ := heap_alloc_new w3 (.cells #[.int .i64 0] 24)
  obtain ⟨b4, hxb_⟩ : ∃ b, b = w3.heap.size := ⟨_, rfl⟩
  obtain ⟨w4, hw_⟩ : ∃ w_, w3.alloc (.cells #[.int .i64 0] 24) = w_ := ⟨_, rfl⟩
  have hz_ : w4.heap.size = b4 + 1 := by rw [← hw_, hxb_]; exact alloc_size _ _
  rw [hw_] at hal_ hb_
  rw [← hxb_] at hb_
  have Hw4 := Lib.hid hw_
  have Hx4 := Lib.hid hxb_
  have Ha4 := Lib.hid hal_
  have Hb4 := Lib.hid hb_
  have Hz4 := Lib.hid hz_
  clear hal_ hb_ hxb_ hw_ hz_
  have h34 : b2 + 1 = b3 := by rw [Hx3.out, Hz2.out]
  have h44 : b3 + 1 = b4 := by rw [Hx4.out, Hz3.out]
  have H34 := Lib.hid h34
  have H44 := Lib.hid h44
  have Hr2 := Lib.hid (row_kept (Ha3.out.trans Ha4.out) Hb2.out id)
  have Hr3 := Lib.hid (row_kept Ha4.out Hb3.out id)
  have Hc4 := Lib.hid (Ha2.out.trans (Ha3.out.trans Ha4.out))
  have hz : (tx t).size = t.length := tx_size t
  have f0 : (65536 : Int) < (t.length : Int) := by omega
  obtain r0 := var1 Hr2.out
  obtain s0 := var1 Hr3.out
  obtain t0 := var1 Hb4.out
  have f2 := row_free Hr2.out
  have f3 := row_free Hr3.out
  have f4 := row_free Hb4.out
  have HS := Lib.hid (store_asm (v := .slice none 0 0) (k := 0) (l := 3) Hr2.out Hr3.out Hb4.out ⟨by omega, by omega, by omega⟩)
  have HC := Lib.hid (Hc4.out.above HS.out.2.2.2.1 fun k hk => by have := Hx2.out; rcases hk with rfl | rfl | rfl <;> omega)
  have n1 : b3 ≠ b2 := by omega
  have n2 : b4 ≠ b2 := by omega
  have n3 : b4 ≠ b3 := by omega
  clear h34 h44 h
  go_enter Tryd.func10, Tryd.ntmps10
  go_upto_region 1 with fail
  rw [Hw2.out, Hw3.out, Hw4.out, ← Hx2.out, H34.out, H44.out]
  go_wp2_with fail
  exact bodyPost_ret (res_asm _ HS.out.1 HS.out.2.1 HS.out.2.2.1 rfl rfl rfl) rfl ⟨HC.out, .slice none 0 0, by rw [Hr.out], by rw [Hr.out]; exact World.ownsRow_nil _ _ _ _⟩
set_option maxHeartbeats 8000000 in
set_option maxRecDepth 20000 in
theorem asm_main (base : Nat) (t : List UInt8) (w : World) (h : t.length ≤ 65536) (hv : Av base w) (hml : 3 < base) : Calls Tryd.prog 10 #[.string (tx t)] w (ProgP (asmF t) w) := by
  have Hr := Lib.hid (show asmF t = match linesF (Pth.pcs 10 t) 0 ⟨[], []⟩ with | .error x => ([], x.1, x.2) | .ok r => endF r from if_neg (by omega))
  have Hv := Lib.hid hv
  have Hml := Lib.hid hml
  have hal_ := (Chg.refl NoB w).alloc (.cells #[.slice none 0 0] 23)
  have hb_ := heap_alloc_new w (.cells #[.slice none 0 0] 23)
  obtain ⟨b2, hxb_⟩ : ∃ b, b = w.heap.size := ⟨_, rfl⟩
  obtain ⟨w2, hw_⟩ : ∃ w_, w.alloc (.cells #[.slice none 0 0] 23) = w_ := ⟨_, rfl⟩
  have hz_ : w2.heap.size = b2 + 1 := by rw [← hw_, hxb_]; exact alloc_size _ _
  rw [hw_] at hal_ hb_
  rw [← hxb_] at hb_
  have Hw2 := Lib.hid hw_
  have Hx2 := Lib.hid hxb_
  have Ha2 := Lib.hid hal_
  have Hb2 := Lib.hid hb_
  have Hz2 := Lib.hid hz_
  clear hal_ hb_ hxb_ hw_ hz_
  have hal_ := (Chg.refl NoB w2).alloc (.cells #[.int .i64 0] 3)
  have hb_ := heap_alloc_new w2 (.cells #[.int .i64 0] 3)
  obtain ⟨b3, hxb_⟩ : ∃ b, b = w2.heap.size := ⟨_, rfl⟩
  obtain ⟨w3, hw_⟩ : ∃ w_, w2.alloc (.cells #[.int .i64 0] 3) = w_ := ⟨_, rfl⟩
  have hz_ : w3.heap.size = b3 + 1 := by rw [← hw_, hxb_]; exact alloc_size _ _
  rw [hw_] at hal_ hb_
  rw [← hxb_] at hb_
  have Hw3 := Lib.hid hw_
  have Hx3 := Lib.hid hxb_
  have Ha3 := Lib.hid hal_
  have Hb3 := Lib.hid hb_
  have Hz3 := Lib.hid hz_
  clear hal_ hb_ hxb_ hw_ hz_
  have hal_ := (Chg.refl NoB w3).alloc (.cells #[.int .i64 0] 24)
  have hb_ := heap_alloc_new w3 (.cells #[.int .i64 0] 24)
  obtain ⟨b4, hxb_⟩ : ∃ b, b = w3.heap.size := ⟨_, rfl⟩
  obtain ⟨w4, hw_⟩ : ∃ w_, w3.alloc (.cells #[.int .i64 0] 24) = w_ := ⟨_, rfl⟩
  have hz_ : w4.heap.size = b4 + 1 := by rw [← hw_, hxb_]; exact alloc_size _ _
  rw [hw_] at hal_ hb_
  rw [← hxb_] at hb_
  have Hw4 := Lib.hid hw_
  have Hx4 := Lib.hid hxb_
  have Ha4 := Lib.hid hal_
  have Hb4 := Lib.hid hb_
  have Hz4 := Lib.hid hz_
  clear hal_ hb_ hxb_ hw_ hz_
  have h34 : b2 + 1 = b3 := by rw [Hx3.out, Hz2.out]
  have h44 : b3 + 1 = b4 := by rw [Hx4.out, Hz3.out]
  have H34 := Lib.hid h34
  have H44 := Lib.hid h44
  have Hr2 := Lib.hid (row_kept (Ha3.out.trans Ha4.out) Hb2.out id)
  have Hr3 := Lib.hid (row_kept Ha4.out Hb3.out id)
  have Hc4 := Lib.hid (Ha2.out.trans (Ha3.out.trans Ha4.out))
  have hz : (tx t).size = t.length := tx_size t
  have f0 : ¬ ((65536 : Int) < (t.length : Int)) := by omega
  obtain ⟨w5, hw5⟩ : ∃ W, w4.alloc (.map #[] 0) = W := ⟨_, rfl⟩
  obtain ⟨mb, hmb⟩ : ∃ b, b = w4.heap.size := ⟨_, rfl⟩
  have Hw5 := Lib.hid hw5
  have Hmb := Lib.hid hmb
  have Ha5 := Lib.hid (show Chg NoB w4 w5 by rw [← hw5]; exact (Chg.refl NoB w4).alloc _)
  have Hm5 := Lib.hid (show w5.ownsMap Tryd.prog 9 (plainElem Tryd.prog 3) mb 0 (.map [] : DW) by rw [← hw5, hmb]; exact World.ownsMap_made w4 Tryd.prog 9 _)
  have Hz5 := Lib.hid (show w5.heap.size = mb + 1 by rw [← hw5, hmb, aSize])
  have hal_ := (Chg.refl NoB w5).alloc (.cells #[.map (some mb), .slice none 0 0] 44)
  have hb_ := heap_alloc_new w5 (.cells #[.map (some mb), .slice none 0 0] 44)
  obtain ⟨ob, hxb_⟩ : ∃ b, b = w5.heap.size := ⟨_, rfl⟩
  obtain ⟨w6, hw_⟩ : ∃ w_, w5.alloc (.cells #[.map (some mb), .slice none 0 0] 44) = w_ := ⟨_, rfl⟩
  have hz_ : w6.heap.size = ob + 1 := by rw [← hw_, hxb_]; exact alloc_size _ _
  rw [hw_] at hal_ hb_
  rw [← hxb_] at hb_
  have Hw6 := Lib.hid hw_
  have Hx6 := Lib.hid hxb_
  have Ha6 := Lib.hid hal_
  have Hb6 := Lib.hid hb_
  have Hz6 := Lib.hid hz_
  clear hal_ hb_ hxb_ hw_ hz_
  have hal_ := (Chg.refl NoB w6).alloc (.cells #[.int .i64 0] 3)
  have hb_ := heap_alloc_new w6 (.cells #[.int .i64 0] 3)
  obtain ⟨nb, hxb_⟩ : ∃ b, b = w6.heap.size := ⟨_, rfl⟩
  obtain ⟨w7, hw_⟩ : ∃ w_, w6.alloc (.cells #[.int .i64 0] 3) = w_ := ⟨_, rfl⟩
  have hz_ : w7.heap.size = nb + 1 := by rw [← hw_, hxb_]; exact alloc_size _ _
  rw [hw_] at hal_ hb_
  rw [← hxb_] at hb_
  have Hw7 := Lib.hid hw_
  have Hx7 := Lib.hid hxb_
  have Ha7 := Lib.hid hal_
  have Hb7 := Lib.hid hb_
  have Hz7 := Lib.hid hz_
  clear hal_ hb_ hxb_ hw_ hz_
  have h54 : b4 + 1 = mb := by rw [hmb, Hz4.out]
  have h64 : mb + 1 = ob := by rw [Hx6.out, Hz5.out]
  have h74 : ob + 1 = nb := by rw [Hx7.out, Hz6.out]
  have H54 := Lib.hid h54
  have H64 := Lib.hid h64
  have H74 := Lib.hid h74
  have Hc7 := Lib.hid (((Hc4.out.trans Ha5.out).trans Ha6.out).trans Ha7.out)
  have Hc47 := Lib.hid ((Ha5.out.trans Ha6.out).trans Ha7.out)
  have HS := Lib.hid (show Calls Tryd.prog 18 #[.string (tx t), .string ⟨#[10]⟩] w7 _ from splitseq_any t [10] w7)
  have H := Lib.hid h
  clear h34 h44 h54 h64 h74 h hv hw5 hmb hml
  refine (callsIn_wide (n := 4)).1 ?_
  refine callsIn_of_wp_marks Tryd.func10 rfl trivial ?_ rfl
  simp only [Tryd.ntmps10, List.size_toArray, List.length_cons, List.length_nil, Nat.reduceAdd, Nat.reduceSub, Array.replicate_succ, Array.replicate_zero, List.push_toArray, List.append_toArray, List.nil_append, List.cons_append]
  refine wpIn_wide.2 ?_
  go_upto_region 1 with fail
  rw [Hw2.out, Hw3.out, Hw4.out, ← Hx2.out, H34.out, H44.out]
  have hmk := fun W => run_makeMap (P := Tryd.prog) 41 W
  go_upto_region 3 with fail
  go_wp2_with fail
  rw [← Hmb.out, Hw5.out, Hw6.out, Hw7.out, H64.out, H74.out]
  refine HS.out.mono ?_
  rintro e w8 ⟨pb, sb, zb, rfl, hM, hlo, hc8⟩
  have HM := Lib.hid hM
  have Hlo := Lib.hid hlo
  have Hc8 := Lib.hid hc8
  have Hv8 := Lib.hid (Hv.out.keep (Hc7.out.trans hc8))
  have Hord := Lib.hid (show w.heap.size ≤ b2 ∧ b2 < b3 ∧ b3 < b4 ∧ b4 < mb ∧ mb < ob ∧ ob < nb ∧ nb < w7.heap.size ∧ w7.heap.size ≤ w8.heap.size ∧ sb < w8.heap.size ∧ pb < w8.heap.size ∧ zb < w8.heap.size ∧ base ≤ w.heap.size from by
    have := Hx2.out; have := H34.out; have := H44.out; have := H54.out; have := H64.out; have := H74.out; have := Hz7.out; have := hc8.size; have := Hv.out.lb.le
    have g1 := (Array.getElem?_eq_some_iff.1 hM.s').1; have g2 := (Array.getElem?_eq_some_iff.1 hM.p').1; have g3 := (Array.getElem?_eq_some_iff.1 hM.z').1; omega)
  obtain ⟨mx, hmx⟩ := Hv8.out.lb.ml
  have hml3 : 3 < base ∨ True := .inr trivial
  have hmx' := hmx w8 (Below.refl _ _)
  have Hseq := Lib.hid (seq1_x (4 - 1) sb pb zb (TBR w8.heap.size b2 b3 b4 ob mb nb) t [10] (by simp) H.out (by decide) (by have := Hord.out; have := hlo.2.1; unfold TBR; omega) (by have := Hord.out; have := hlo.1; unfold TBR; omega) (by have := Hord.out; have := hlo.2.2; unfold TBR; omega) (by have := Hord.out; have := Hml.out; unfold TBR; omega) hM.ps hM.zs (by have := Hord.out; have := hlo.2.1; have := Hml.out; omega) mx w8 hmx' hM.s' (var1 hM.p') (var1 hM.z'))
  have hall := Hc47.out.trans hc8
  have hsrc : SrcM w8 w8.heap.size ob mb ⟨[], []⟩ := by
    refine ⟨⟨none, 0, row_kept (Ha7.out.trans Hc8.out) Hb6.out id, World.ownsRow_nil _ _ _ _⟩, ?_, List.nodup_nil, ?_⟩
    · obtain ⟨es, clock, hb, hrr⟩ := Hm5.out
      exact ⟨es, clock, row_kept ((Ha6.out.trans Ha7.out).trans Hc8.out) hb id, hrr⟩
    · exact ⟨fun l hl => (List.not_mem_nil hl).elim, Nat.zero_le _, Nat.zero_le _⟩
  have HI0 := Lib.hid (show AsmI w8 w8 b2 b3 b4 ob mb nb sb ⟨[], []⟩ 0 from ⟨Chg.refl _ _, row_kept hall Hr2.out id, row_kept hall Hr3.out id, row_kept hall Hb4.out id, row_kept Hc8.out Hb7.out id, hsrc⟩)
  have H00 := Lib.hid (show (∀ l ∈ (⟨[], []⟩ : SrcL).list, l.lab.length ≤ 65536) ∧ (∀ x ∈ (⟨[], []⟩ : SrcL).labs, 0 ≤ x.2 ∧ x.2 ≤ ((⟨[], []⟩ : SrcL).list.length : Int)) from ⟨fun l hl => (List.not_mem_nil hl).elim, fun l hl => (List.not_mem_nil hl).elim⟩)
  have Hsl := Lib.hid (show (Lib.split t [10]).length ≤ 65537 by have := (spl_len (sep := [10]) (by simp) t.length t (Nat.le_refl _)).2; have := H.out; omega)
  clear hM hlo hc8 hmx hmx' HS hall hml3
  go_wp2_with fail
  refine (wpIn_wide (n := 4)).1 ?_
  refine wpIn_range_f (α := B20) rfl (by decide) (gf := 52) (lb := #[.pointer (some ⟨pb, 0, none⟩), .pointer (some ⟨sb, 0, none⟩), .pointer (some ⟨zb, 0, none⟩)]) rfl trivial (enters_of Tryd.func52 (by kernel_rfl) rfl)
    (T := fun k => k = sb) (fun k hk => by subst hk; exact (Array.getElem?_eq_some_iff.1 HM.out.s').1) Hseq.out KeepT.trans (fun W l o o' h hc => KeepT.putObj W l o o' h hc) (fun _ => rfl)
    (fun pre V => ∃ s, linesS pre = .ok s ∧ AsmI w8 V b2 b3 b4 ob mb nb sb s pre.length ∧ (∀ l ∈ s.list, l.lab.length ≤ 65536) ∧ (∀ x ∈ s.labs, 0 ≤ x.2 ∧ x.2 ≤ (s.list.length : Int)))
    (fun co pre V => co = .ret ∧ ∃ k x, linesS pre = .error (k, x) ∧ Chg (TBA w8.heap.size b2 b3 b4 ob mb nb sb) w8 V ∧ V.heap[b2]? = some (.cells #[.slice none 0 0] 23 (0, 0)) ∧ V.heap[b3]? = some (.cells #[.int .i64 k] 3 (0, 0)) ∧ V.heap[b4]? = some (.cells #[.int .i64 x] 24 (0, 0)))
    ?own ?ownx ⟨⟨[], []⟩, rfl, HI0.out, H00.out⟩ ?a1 ?assign ?body ?done ?stop
  case own =>
    rintro s' A B row ⟨s, h1, h2, h3⟩ hg hr
    exact ⟨s, h1, h2.grown hg hr (by have := Hord.out; omega) (by have := Hord.out; have := Hlo.out.2.1; omega), h3⟩
  case ownx =>
    rintro co s' A B row ⟨h0, k, x, h1, h2, h3, h4, h5⟩ hg hr
    have hk : ∀ b o, b < w8.heap.size → b ≠ sb → A.heap[b]? = some o → B.heap[b]? = some o := fun b o h1 h2 h3 => (hg.block b (Array.getElem?_eq_some_iff.1 h3).1 fun e => by rcases hr b e.symm with x | x <;> omega).trans h3
    exact ⟨h0, k, x, h1, h2.grown hg fun j e => (hr j e).symm.imp (fun x => .inr (.inr (.inr (.inr (.inr (.inr (.inl x))))))) And.left, hk _ _ (by have := Hord.out; omega) (by have := Hord.out; have := Hlo.out.2.1; omega) h3, hk _ _ (by have := Hord.out; omega) (by have := Hord.out; have := Hlo.out.2.1; omega) h4, hk _ _ (by have := Hord.out; omega) (by have := Hord.out; have := Hlo.out.2.1; omega) h5⟩
  case assign =>
    intro l' x V K hK
    gi_wp2
    exact hK
  case body =>
    rintro l' pre ⟨t1, ht1⟩ V ⟨s, hs, hT, hb1, hb2⟩ hlen
    have HT := Lib.hid hT
    have Hsn := Lib.hid (linesS_snoc hs ⟨t1, ht1⟩)
    have Hbd := Lib.hid (fun s' (h : addF s t1 ((pre.length : Int) + 1) = .ok s') => addF_bd h ht1 hb1 hb2)
    have hll : s.list.length ≤ pre.length ∧ s.labs.length ≤ pre.length := by
      have := linesF_len _ _ _ _ hs
      simpa using this
    have hpl : pre.length ≤ 65536 := by have := Hsl.out; omega
    have hset := (Chg.refl (fun k => k = nb) V).setCell (p := ⟨nb, 0, none⟩) (.inl rfl) (.int .i64 ((pre.length : Int) + 1))
    have Hn1 := Lib.hid (heap_set hT.rn (i := 0) (.int .i64 ((pre.length : Int) + 1)))
    have Hset := Lib.hid hset
    have hs1 := hT.src.chg hset (by have := Hord.out; omega) (by have := Hord.out; omega) (fun k _ hk => by have := Hord.out; omega)
    have hav1 := Hv8.out.chg (hT.chg.trans (hset.mono fun _ _ e => .inr (.inr (.inr (.inr (.inr (.inl e))))))) (fun k hk => by have := Hord.out; have := Hlo.out.2.1; unfold TBA at hk; omega)
    have HA := Lib.hid (add_any w8.heap.size ob mb base s t1 ((pre.length : Int) + 1) _ hs1 (by have := Hord.out; omega) (by have := Hord.out; omega) (by have := Hord.out; omega) (Nat.le_trans hT.chg.size hset.size) ht1 (by omega) (by omega) (by omega) hav1)
    have n0 := var1 hT.rn
    have fn := row_free hT.rn
    have R2 := Lib.hid (row_kept hset hT.r2 (by have := Hord.out; omega))
    have R3 := Lib.hid (row_kept hset hT.r3 (by have := Hord.out; omega))
    have R4 := Lib.hid (row_kept hset hT.r4 (by have := Hord.out; omega))
    have HK1 := Lib.hid (KeepsOthers.setCell V ⟨nb, 0, none⟩ (.int .i64 ((pre.length : Int) + 1)))
    clear hs hT hlen hset hs1 hav1 hb1 hb2
    try dsimp only
    gi_upto_region 8 with fail
    clear n0 fn
    generalize V.setCell ⟨nb, 0, none⟩ (.int .i64 ((pre.length : Int) + 1)) = W1 at *
    have n1 := var1 Hn1.out
    gi_wp2
    refine ⟨trivial, ?_⟩
    refine (CallsIn.inRound l' ((callsIn_wide (n := _)).2 HA.out)).mono ?_
    rintro e W2 ⟨hc2, hk2, he2⟩
    have hne0 := fun x (h : addF s t1 ((pre.length : Int) + 1) = .error x) => addF_err h
    generalize addF s t1 ((pre.length : Int) + 1) = ar at *
    cases ar with
    | error x =>
      obtain rfl : e = .returned (.int .i64 x) := he2
      have hx0 : ((x : Int) != 0) = true := by rw [bne_iff_ne]; exact hne0 x rfl
      have hab : ∀ b, b < w8.heap.size → b ≠ ob → b ≠ mb → ¬ AbS w8.heap.size ob mb b := fun b h1 h2 h3 h => by rcases h with h | h | h <;> omega
      have q2 := row_kept hc2 R2.out (hab _ (by have := Hord.out; omega) (by have := Hord.out; omega) (by have := Hord.out; omega))
      have q3 := row_kept hc2 R3.out (hab _ (by have := Hord.out; omega) (by have := Hord.out; omega) (by have := Hord.out; omega))
      have q4 := row_kept hc2 R4.out (hab _ (by have := Hord.out; omega) (by have := Hord.out; omega) (by have := Hord.out; omega))
      have qn := row_kept hc2 Hn1.out (hab _ (by have := Hord.out; omega) (by have := Hord.out; omega) (by have := Hord.out; omega))
      have r0 := var1 q2
      have s0 := var1 q3
      have t0 := var1 q4
      have u0 := var1 qn
      have f2 := row_free q2
      have f3 := row_free q3
      have f4 := row_free q4
      have n1' : b3 ≠ b2 := by have := Hord.out; omega
      have n2' : b4 ≠ b2 := by have := Hord.out; omega
      have n3' : b4 ≠ b3 := by have := Hord.out; omega
      have m1' : nb ≠ b2 := by have := Hord.out; omega
      have m2' : nb ≠ b3 := by have := Hord.out; omega
      have m3' : nb ≠ b4 := by have := Hord.out; omega
      have HS2 := Lib.hid (store_asm (V := W2) (v := .slice none 0 0) (k := (pre.length : Int) + 1) (l := x) q2 q3 q4 ⟨n1'.symm, n2'.symm, n3'.symm⟩)
      have Hc2 := Lib.hid hc2
      have Hk2 := Lib.hid hk2
      clear hc2 hk2 hab q2 q3 q4 qn
      gi_wp2
      gi_region_with (fail)
      all_goals
        gi_wp2
        refine ⟨((HK1.out.from w8.heap.size).trans Hk2.out).trans (keepsDrew (HS2.out.2.2.2.2.from w8.heap.size)), rfl, (pre.length : Int) + 1, x, Hsn.out, ?_, HS2.out.1, HS2.out.2.1, HS2.out.2.2.1⟩
        refine (((HT.out.chg.trans (Hset.out.mono fun _ _ e => .inr (.inr (.inr (.inr (.inr (.inl e))))))).trans (Hc2.out.mono fun k _ e => ?_)).trans (HS2.out.2.2.2.1.mono fun k _ e => ?_)).drew
        · unfold AbS at e; unfold TBA; omega
        · unfold TBA; omega
    | ok s' =>
      obtain ⟨rfl, hsm⟩ : e = .returned (.int .i64 0) ∧ SrcM W2 w8.heap.size ob mb s' := he2
      have Hc2 := Lib.hid hc2
      have Hk2 := Lib.hid hk2
      have Hsm := Lib.hid hsm
      clear hc2 hk2 hsm
      gi_wp2
      have hab : ∀ b, b < w8.heap.size → b ≠ ob → b ≠ mb → ¬ AbS w8.heap.size ob mb b := fun b h1 h2 h3 h => by rcases h with h | h | h <;> omega
      refine ⟨(HK1.out.from w8.heap.size).trans Hk2.out, ?_, s', Hsn.out, ⟨?_, ?_, ?_, ?_, ?_, Hsm.out⟩, Hbd.out s' rfl⟩
      · exact ((Hset.out.mono fun _ _ e => .inr (.inr (.inr (.inr (.inr (.inl e)))))).trans (Hc2.out.mono fun k _ e => by unfold AbS at e; unfold TBR; omega)).keepT fun _ e => e
      · exact (HT.out.chg.trans (Hset.out.mono fun _ _ e => .inr (.inr (.inr (.inr (.inr (.inl e))))))).trans (Hc2.out.mono fun k _ e => by unfold AbS at e; unfold TBA; omega)
      · exact row_kept Hc2.out R2.out (hab _ (by have := Hord.out; omega) (by have := Hord.out; omega) (by have := Hord.out; omega))
      · exact row_kept Hc2.out R3.out (hab _ (by have := Hord.out; omega) (by have := Hord.out; omega) (by have := Hord.out; omega))
      · exact row_kept Hc2.out R4.out (hab _ (by have := Hord.out; omega) (by have := Hord.out; omega) (by have := Hord.out; omega))
      · rw [List.length_append, List.length_singleton]
        exact row_kept Hc2.out Hn1.out (hab _ (by have := Hord.out; omega) (by have := Hord.out; omega) (by have := Hord.out; omega))
  case done =>
    rintro D' ys V hD rfl ⟨s, hs, hT, hb1, hb2⟩ hK
    rw [lines_all H.out] at hs
    have Hend := Lib.hid (show asmF t = endF s by rw [Hr.out, hs])
    have hbase : ∀ k, TBA w8.heap.size b2 b3 b4 ob mb nb sb k → w.heap.size ≤ k := fun k hk => by have := Hord.out; have := Hlo.out.2.1; unfold TBA at hk; omega
    have HV := Lib.hid ((Hc7.out.trans Hc8.out).above hT.chg hbase)
    have HP := Lib.hid (prog_any w8.heap.size ob mb base s V hT.src (Hv.out.keep HV.out) hb1 (fun x hx => by have := hb2 x hx; have := hT.src.wf.2.1; omega))
    have R2 := Lib.hid hT.r2
    have R3 := Lib.hid hT.r3
    have R4 := Lib.hid hT.r4
    have HK := Lib.hid hK
    have HD := Lib.hid hD
    generalize endF s = r at *
    obtain ⟨p, i, x⟩ := r
    clear hs hT hb1 hb2 hK hD hbase
    go_wp2_with fail
    refine HP.out.mono ?_
    rintro e W ⟨hcW, v, rfl, hrow⟩
    obtain ⟨q9, c9, rfl, -, -⟩ := row_shape hrow
    simp only at hrow
    have Q2 := Lib.hid (row_kept hcW R2.out id)
    have Q3 := Lib.hid (row_kept hcW R3.out id)
    have Q4 := Lib.hid (row_kept hcW R4.out id)
    have HKW := Lib.hid (row_kept hcW HK.out id)
    have HW := Lib.hid (HV.out.trans hcW)
    have Hrow := Lib.hid hrow
    have HsV := Lib.hid (show b2 < V.heap.size ∧ b3 < V.heap.size ∧ b4 < V.heap.size ∧ D' < V.heap.size from ⟨lt_of_block R2.out, lt_of_block R3.out, lt_of_block R4.out, (Array.getElem?_eq_some_iff.1 HK.out).1⟩)
    clear hcW hrow
    obtain r0 := var1 Q2.out
    obtain s0 := var1 Q3.out
    obtain t0 := var1 Q4.out
    have f2 := row_free Q2.out
    have f3 := row_free Q3.out
    have f4 := row_free Q4.out
    have n1' : b3 ≠ b2 := by have := Hord.out; omega
    have n2' : b4 ≠ b2 := by have := Hord.out; omega
    have n3' : b4 ≠ b3 := by have := Hord.out; omega
    have HF := Lib.hid (asm_fin (v := .slice q9 p.length c9) (k := i) (l := x) Q2.out Q3.out Q4.out ⟨n1'.symm, n2'.symm, n3'.symm⟩ HW.out (by have := Hord.out; omega) HKW.out (show w.heap.size ≤ D' by have := HD.out; have := Hord.out; omega))
    go_wp2_with fail
    refine ⟨by simp, .inl ⟨_, _, rfl, run_takeDeferred HF.out.1, ?_⟩⟩
    refine ⟨_, res_asm _ HF.out.2.1 HF.out.2.2.1 HF.out.2.2.2.1 rfl rfl rfl, HF.out.2.2.2.2.1, .slice q9 p.length c9, by rw [Hend.out], ?_⟩
    rw [Hend.out]
    refine ownsRow_low HV.out.size (ownsRow_chg Hrow.out HF.out.2.2.2.2.2 fun k e hx => ?_)
    have := (World.ownsRow.lt Hrow.out k e).1
    have := HsV.out
    omega
  case stop =>
    rintro D' co pre V hD hpre ⟨rfl, k, x, hn, hch, hr2, hr3, hr4⟩ hK
    have Hend := Lib.hid (show asmF t = ([], k, x) by
      have := linesS_prefix hpre hn
      rw [lines_all H.out] at this
      rw [Hr.out, this])
    have hg := grownBy_putObj' V D' (.deferred none)
    have HV := Lib.hid (((Hc7.out.trans Hc8.out).above hch (fun k hk => by have := Hord.out; have := Hlo.out.2.1; unfold TBA at hk; omega) : Chg NoB w V).grown hg fun k e => .inr (by cases e; have := (Hc7.out.trans Hc8.out).size; omega))
    have hnd : ∀ (b' : Nat) (cs : Array Value) (t : TypeId) (f : Nat × Nat), V.heap[b']? = some (.cells cs t f) → (V.putObj D' (.deferred none)).heap[b']? = some (.cells cs t f) := fun b' cs t f e =>
      (World.putObj_heap_other (fun e2 => by subst e2; rw [hK] at e; cases e)).trans e
    have HR2 := Lib.hid (hnd _ _ _ _ hr2)
    have HR3 := Lib.hid (hnd _ _ _ _ hr3)
    have HR4 := Lib.hid (hnd _ _ _ _ hr4)
    have HK := Lib.hid hK
    clear hn hch hr2 hr3 hr4 hK hg hpre hnd
    gi_wp2
    refine ⟨by simp, .inl ⟨_, _, rfl, run_takeDeferred HK.out, ?_⟩⟩
    exact ⟨_, res_asm _ HR2.out HR3.out HR4.out rfl rfl rfl, HV.out, .slice none 0 0, by rw [Hend.out], by rw [Hend.out]; exact World.ownsRow_nil _ _ _ _⟩
theorem asm_any (base : Nat) (t : List UInt8) (w : World) (hv : Av base w) (hml : 3 < base) : Calls Tryd.prog 10 #[.string (tx t)] w (ProgP (asmF t) w) := by
  by_cases h : 65536 < t.length
  · exact asm_long t w h
  · exact asm_main base t w (by omega) hv hml
end Go.Proofs.YtaihgciokfkonaaDoor
