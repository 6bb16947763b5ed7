/- The contract of Parse. Condition: the version's tables lie below (Pw). -/
import Derived.Test.YtaijhebjjbcdfaaGreatDoorSpTerm
import Derived.Test.YtaijhebjjbcdfaaGreatDoorSpNot
import Derived.OwnWalkIn
import Derived.Sort.CutIn

namespace Go.Proofs.YtaijhebjjbcdfaaGreatDoor
set_option linter.unusedVariables false
open Go.ChangeShapes Go.WideShapes Go.ChangeAt Go.RowKit
attribute [local go_sem] Oper.semAt_some
def noneT : List UInt8 := [110, 111, 110, 101]
def barT : List UInt8 := [32, 124, 32]
def stepP (o : Option (List GapL)) (t : List UInt8) : Option (List GapL) := o.bind fun gs => (termL t).map fun g => gs ++ [g]
def gapsL (s : List UInt8) : Option (List GapL) := (Lib.split s barT).foldl stepP (some [])
def foldP (l : List B20) : Option (List GapL) := (l.map fun x => x.1).foldl stepP (some [])
theorem foldP_snoc (l : List B20) (x : B20) : foldP (l ++ [x]) = stepP (foldP l) x.1 := by
  unfold foldP
  rw [List.map_append, List.foldl_append]
  rfl
theorem stepP_none (l : List (List UInt8)) : l.foldl stepP none = none := by
  induction l with
  | nil => rfl
  | cons a r ih => exact ih
theorem parse_pieces {s : List UInt8} (hs : s.length ≤ 65536) : foldP ((Lib.split s barT).map clip) = gapsL s := by
  unfold foldP gapsL
  rw [clip_all fun x hx => Nat.le_trans ((spl_len (by simp [barT]) s.length s (Nat.le_refl _)).1 x hx) hs]
theorem foldP_prefix {a b : List B20} (h : a <+: b) (hn : foldP a = none) : foldP b = none := by
  obtain ⟨r, rfl⟩ := h
  unfold foldP at hn ⊢
  rw [List.map_append, List.foldl_append, hn]
  exact stepP_none _
def BdG (g : GapL) : Prop := 0 ≤ g.1 ∧ g.2 ≤ allG
theorem term_bd {s : List UInt8} {g : GapL} (h : termL s = some g) : BdG g := by
  have key : ∀ (l : List (List UInt8)) (o : Option GapL), (∀ g, o = some g → BdG g) → ∀ g, l.foldl stepT o = some g → BdG g := by
    intro l
    induction l with
    | nil => exact fun o h g hg => h g hg
    | cons t r ih =>
      intro o ho g hg
      refine ih (stepT o t) (fun g' hg' => ?_) g hg
      cases o with
      | none => cases hg'
      | some a =>
        have ha := ho a rfl
        cases hc : compL t with
        | none => simp [stepT, hc] at hg'
        | some d =>
          simp only [stepT, hc, Option.bind_some, Option.map_some, Option.some.injEq] at hg'
          subst hg'
          unfold BdG commonG at *
          simp only
          omega
  exact key _ _ (fun g e => by cases e; exact ⟨Int.le_refl _, Int.le_refl _⟩) g h
theorem gaps_bd {s : List UInt8} {gs : List GapL} (h : gapsL s = some gs) : (∀ g ∈ gs, BdG g) ∧ gs.length = (Lib.split s barT).length := by
  have key : ∀ (l : List (List UInt8)) (a : List GapL), (∀ g ∈ a, BdG g) → ∀ gs, l.foldl stepP (some a) = some gs → (∀ g ∈ gs, BdG g) ∧ gs.length = a.length + l.length := by
    intro l
    induction l with
    | nil => exact fun a h gs hg => by cases hg; exact ⟨h, rfl⟩
    | cons t r ih =>
      intro a ha gs hg
      cases ht : termL t with
      | none =>
        have e : stepP (some a) t = none := by simp [stepP, ht]
        rw [List.foldl_cons, e, stepP_none] at hg
        cases hg
      | some g =>
        have e : stepP (some a) t = some (a ++ [g]) := by simp [stepP, ht]
        rw [List.foldl_cons, e] at hg
        obtain ⟨h1, h2⟩ := ih (a ++ [g]) (fun x hx => by
          rcases List.mem_append.1 hx with hx | hx
          · exact ha x hx
          · rw [List.mem_singleton] at hx; subst hx; exact term_bd ht) gs hg
        exact ⟨h1, by rw [h2, List.length_append, List.length_cons]; simp; omega⟩
  have := key _ _ (fun g hg => by cases hg) gs h
  simpa using this
def nilR (k : Int) : Ending := .returned (.tuple #[.slice none 0 0, .int .i64 k])
def PsP (s : List UInt8) (w : World) (e : Ending) (w' : World) : Prop := Chg NoB w w' ∧
  ((256 < s.length ∧ e = nilR 3) ∨ (s.length ≤ 256 ∧ s = noneT ∧ e = nilR 0) ∨ (s.length ≤ 256 ∧ s ≠ noneT ∧ gapsL s = none ∧ e = nilR 21) ∨
    (s.length ≤ 256 ∧ s ≠ noneT ∧ ∃ gs d, gapsL s = some gs ∧ chainG (-1) d = true ∧ (∀ n, 0 ≤ n → n < allG → inG d n = inG gs n) ∧
      ((16 < d.length ∧ e = nilR 13) ∨ (d.length ≤ 16 ∧ ∃ q c, e = .returned (.tuple #[.slice q d.length c, .int .i64 0]) ∧ w'.ownsRow w.heap.size 37 2 (.slice q d.length c) d.length (flatG d)))))
def TBP (b2 b3 b4 sb : Nat) (k : Nat) : Prop := k = b2 ∨ k = b3 ∨ k = b4 ∨ k = sb
structure ParI (w5 V : World) (b2 b3 b4 sb : Nat) (gs : List GapL) : Prop where
  chg : Chg (TBP b2 b3 b4 sb) w5 V
  r2 : V.heap[b2]? = some (.cells #[.slice none 0 0] 23 (0, 0))
  r3 : V.heap[b3]? = some (.cells #[.int .i64 0] 24 (0, 0))
  r4 : ∃ q c, V.heap[b4]? = some (.cells #[.slice q gs.length c] 23 (0, 0)) ∧ V.ownsRow w5.heap.size 37 2 (.slice q gs.length c) gs.length (flatG gs)
theorem ParI.grown {w5 A B : World} {b2 b3 b4 sb : Nat} {g : List GapL} {row : Option Nat} (h : ParI w5 A b2 b3 b4 sb g) (hg : A.grownBy B row) (hr : ∀ r, row = some r → (w5.heap.size ≤ r ∧ ∃ o : Obj, A.heap[r]? = some o ∧ o.isCells = false) ∨ r = sb) (hlt : b2 < w5.heap.size ∧ b3 < w5.heap.size ∧ b4 < w5.heap.size ∧ sb < w5.heap.size) (hne : b2 ≠ sb ∧ b3 ≠ sb ∧ b4 ≠ sb) : ParI w5 B b2 b3 b4 sb g := by
  have hk : ∀ b o, b < w5.heap.size → b ≠ sb → A.heap[b]? = some o → B.heap[b]? = some o := fun b o h1 h2 h3 => (hg.block b (Array.getElem?_eq_some_iff.1 h3).1 fun e => by rcases hr b e.symm with x | x <;> omega).trans h3
  obtain ⟨q, c, e1, e2⟩ := h.r4
  refine ⟨h.chg.grown hg fun k e => (hr k e).symm.imp (fun x => .inr (.inr (.inr x))) And.left, hk _ _ hlt.1 hne.1 h.r2, hk _ _ hlt.2.1 hne.2.1 h.r3, q, c, hk _ _ hlt.2.2.1 hne.2.2 e1, ?_⟩
  refine ownsRow_chg e2 ((Chg.refl (fun k => row = some k) A).grown hg fun j e => .inl e) fun k hk' e => ?_
  rcases hr k e with ⟨-, o, ho, hc⟩ | x
  · rcases e2.2 with ⟨e3, -⟩ | ⟨g', cap, cur, e3, hb, hh, -⟩
    · rw [e3] at hk'; cases hk'
    · rw [e3] at hk'; cases hk'
      rw [hh] at ho; cases ho; cases hc
  · have := (World.ownsRow.lt e2 k hk').1
    omega
theorem ParI.keep {w5 A B : World} {b2 b3 b4 sb : Nat} {g : List GapL} (h : ParI w5 A b2 b3 b4 sb g) (hc : Chg NoB A B) : ParI w5 B b2 b3 b4 sb g := by
  obtain ⟨q, c, e1, e2⟩ := h.r4
  exact ⟨h.chg.trans (hc.mono fun _ _ x => x.elim), row_kept hc h.r2 id, row_kept hc h.r3 id, q, c, row_kept hc e1 id, ownsRow_chg e2 hc fun _ _ => id⟩
theorem wpListIn_gap {F : Fence} {m : Nat} {w : World} {ops : Array Oper} {rest : List Oper} {o : Oper} {a : Act} {Q : Exit → Act → World → Prop} (hgd : o.guard = none) (s x : Operand)
    (ho : o.op = .call { callee := .builtin .append, args := #[s, x], argTypes := #[23, 23] })
    {base n : Nat} {v : Value} {l : List GapL} {b : Nat} {y : GapL} {f : Nat × Nat} (hs : a.eval s = v) (hx : a.eval x = .slice (some ⟨b, 0, none⟩) 1 1) (hn : n = l.length) {k : Nat} (hk : k = n + 1) (hown : w.ownsRow base 37 2 v n (flatG l)) (hb : w.heap[b]? = some (.cells #[.int .i64 y.1, .int .i64 y.2] 37 f)) (hl : n + 1 ≤ 1048576) (hbase : base ≤ w.heap.size)
    (h : ∀ v' w', w'.ownsRow base 37 2 v' k (flatG (l ++ [y])) → Chg (fun j => v.ownBlock = some j) w w' → wpListIn F m Tryz.prog ops Q rest (a.put o.dst v') w') : wpListIn F m Tryz.prog ops Q (o :: rest) a w := by
  obtain ⟨i0, hi, hz0, hz1, hz2⟩ := info_parts gapInfo
  refine wpListIn_append_own w hgd s x 23 ho base 37 i0 (.agg #[.int .i64 0, .int .i64 0]) 2 16 Tryz.underlying23 hi hz0 hz1 hz2 rfl (by decide) v n (flatG l) hs hown ⟨b, 0, none⟩ 1 1 (flatG [y]) hx rfl ?_ (flatG_one _) (by unfold maxLen; omega) (by omega) hbase ?_
  · intro j u hj
    rw [add_zero_off, cell_of_row w b j _ _ f hb]
    show (flatG [y]).toArray[j]? = some u
    rw [List.getElem?_toArray]
    exact hj
  · intro v' w' h1 h2 _
    rw [← flatG_app, ← hk] at h1
    exact h v' w' h1 ((Chg.refl _ w).grown h2 fun j hj => .inl hj)
/- both results are laid, the call ends -/
theorem res_row {w : World} {b2 b3 : Nat} {v : Value} {k : Int} {f : Tmp} (tmps : Array Value) (h2 : w.heap[b2]? = some (.cells #[v] 23 (0, 0))) (h3 : w.heap[b3]? = some (.cells #[.int .i64 k] 24 (0, 0))) (e2 : tmps.getD 2 undef = .pointer (some ⟨b2, 0, none⟩)) (e3 : tmps.getD 3 undef = .pointer (some ⟨b3, 0, none⟩)) : (results Tryz.f9 tmps).run Tryz.prog w = .ok (.tuple #[v, .int .i64 k]) w := by
  have z2 := var1 h2
  have z3 := var1 h3
  exact results_cells (p := 2) (t := 3) (ty := 23) (ty' := 24) rfl _ e2 (by simp [go_sem, loadVar, z2]) e3 (by simp [go_sem, loadVar, z3])
theorem store_res {V : World} {b2 b3 : Nat} {u v : Value} {j k : Int} (h2 : V.heap[b2]? = some (.cells #[u] 23 (0, 0))) (h3 : V.heap[b3]? = some (.cells #[.int .i64 j] 24 (0, 0))) (hne : b2 ≠ b3) :
    ((V.setCell ⟨b2, 0, none⟩ v).setCell ⟨b3, 0, none⟩ (.int .i64 k)).heap[b2]? = some (.cells #[v] 23 (0, 0)) ∧ ((V.setCell ⟨b2, 0, none⟩ v).setCell ⟨b3, 0, none⟩ (.int .i64 k)).heap[b3]? = some (.cells #[.int .i64 k] 24 (0, 0)) ∧
    Chg (fun k => k = b2 ∨ k = b3) V ((V.setCell ⟨b2, 0, none⟩ v).setCell ⟨b3, 0, none⟩ (.int .i64 k)) ∧ KeepsOthers V ((V.setCell ⟨b2, 0, none⟩ v).setCell ⟨b3, 0, none⟩ (.int .i64 k)) := by
  have c2 : Chg (fun k => k = b2) V (V.setCell ⟨b2, 0, none⟩ v) := (Chg.refl (fun k => k = b2) V).setCell (p := ⟨b2, 0, none⟩) (.inl rfl) _
  have r2 := heap_set h2 (i := 0) v
  have r3 := row_kept c2 h3 (fun e => hne e.symm)
  have k2 : KeepsOthers V (V.setCell ⟨b2, 0, none⟩ v) := KeepsOthers.setCell _ _ _
  generalize V.setCell ⟨b2, 0, none⟩ v = V2 at *
  have c3 : Chg (fun k => k = b3) V2 (V2.setCell ⟨b3, 0, none⟩ (.int .i64 k)) := (Chg.refl (fun k => k = b3) V2).setCell (p := ⟨b3, 0, none⟩) (.inl rfl) _
  exact ⟨row_kept c3 r2 hne, heap_set r3 (i := 0) (.int .i64 k), (c2.mono fun _ _ x => .inl x).trans (c3.mono fun _ _ x => .inr x), k2.trans (KeepsOthers.setCell _ _ _)⟩
theorem row_others {A B : World} {base : Nat} {v : Value} {n : Nat} {l : List GapL} (h : A.ownsRow base 37 2 v n (flatG l)) (hc : Chg (fun j => v.ownBlock = some j) A B) : KeepsOthers A B :=
  ⟨hc.size, fun k o hk ho => (hc.block k (Array.getElem?_eq_some_iff.1 hk).1 fun e => by
    rcases h.2 with ⟨e3, -⟩ | ⟨g', cap, cur, e3, hb, hh, -⟩
    · rw [e3] at e; cases e
    · rw [e3] at e; cases e
      rw [hh] at hk; cases hk; cases ho).trans hk⟩
/- the results are laid, the rounds' deferred calls are taken -/
theorem par_fin {w V : World} {b2 b3 D : Nat} {u v : Value} {j k : Int} (h2 : V.heap[b2]? = some (.cells #[u] 23 (0, 0))) (h3 : V.heap[b3]? = some (.cells #[.int .i64 j] 24 (0, 0))) (hne : b2 ≠ b3) (hc : Chg NoB w V) (hb : w.heap.size ≤ b2 ∧ w.heap.size ≤ b3) (hK : V.heap[D]? = some (.deferred (some []))) (hD : w.heap.size ≤ D) :
    ((V.setCell ⟨b2, 0, none⟩ v).setCell ⟨b3, 0, none⟩ (.int .i64 k)).heap[D]? = some (.deferred (some [])) ∧
    (((V.setCell ⟨b2, 0, none⟩ v).setCell ⟨b3, 0, none⟩ (.int .i64 k)).putObj D (.deferred none)).heap[b2]? = some (.cells #[v] 23 (0, 0)) ∧
    (((V.setCell ⟨b2, 0, none⟩ v).setCell ⟨b3, 0, none⟩ (.int .i64 k)).putObj D (.deferred none)).heap[b3]? = some (.cells #[.int .i64 k] 24 (0, 0)) ∧
    Chg NoB w (((V.setCell ⟨b2, 0, none⟩ v).setCell ⟨b3, 0, none⟩ (.int .i64 k)).putObj D (.deferred none)) ∧
    Chg (fun x => x = b2 ∨ x = b3 ∨ x = D) V (((V.setCell ⟨b2, 0, none⟩ v).setCell ⟨b3, 0, none⟩ (.int .i64 k)).putObj D (.deferred none)) := by
  obtain ⟨a1, a2, a3, a4⟩ := store_res (v := v) (k := k) h2 h3 hne
  have hK' := a4.same D _ hK rfl
  have hW := hc.above a3 fun x hx => by rcases hx with rfl | rfl <;> omega
  have hg := grownBy_putObj' ((V.setCell ⟨b2, 0, none⟩ v).setCell ⟨b3, 0, none⟩ (.int .i64 k)) D (.deferred none)
  generalize (V.setCell ⟨b2, 0, none⟩ v).setCell ⟨b3, 0, none⟩ (.int .i64 k) = V3 at *
  have hnd : ∀ (b' : Nat) (cs : Array Value) (t : TypeId) (f : Nat × Nat), V3.heap[b']? = some (.cells cs t f) → (V3.putObj D (.deferred none)).heap[b']? = some (.cells cs t f) := fun b' cs t f e =>
    (World.putObj_heap_other (fun e2 => by subst e2; rw [hK'] at e; cases e)).trans e
  exact ⟨hK', hnd _ _ _ _ a1, hnd _ _ _ _ a2, hW.grown hg fun k e => .inr (by cases e; omega), (a3.mono fun _ _ x => x.elim .inl fun y => .inr (.inl y)).grown hg fun k e => .inl (by cases e; exact .inr (.inr rfl))⟩
set_option maxHeartbeats 4000000 in
set_option maxRecDepth 20000 in
theorem parse_long (s : List UInt8) (w : World) (hl : s.length ≤ 1048576) (h1 : 256 < s.length) : Calls Tryz.prog 9 #[.string (tx s)] w (PsP s w) := by
  have hal_ := (Chg.refl NoB w).alloc (.cells #[.slice none 0 0] 23)
  have hb_ := heap_alloc_new w (.cells #[.slice none 0 0] 23)
  obtain ⟨b2, hxb_⟩ : ∃ b, b = w.heap.size := ⟨_, rfl⟩
  obtain ⟨w2, hw_⟩ : ∃ w_, w.alloc (.cells #[.slice none 0 0] 23) = w_ := ⟨_, rfl⟩
  have hz_ : w2.heap.size = b2 + 1 := by rw [← hw_, hxb_]; exact alloc_size _ _
  rw [hw_] at hal_ hb_
  rw [← hxb_] at hb_
  have Hw2 := Lib.hid hw_
  have Hx2 := Lib.hid hxb_
  have Ha2 := Lib.hid hal_
  have Hb2 := Lib.hid hb_
  have Hz2 := Lib.hid hz_
  clear hal_ hb_ hxb_ hw_ hz_
  have hal_ := (Chg.refl NoB w2).alloc (.cells #[.int .i64 0] 24)
  have hb_ := heap_alloc_new w2 (.cells #[.int .i64 0] 24)
  obtain ⟨b3, hxb_⟩ : ∃ b, b = w2.heap.size := ⟨_, rfl⟩
  obtain ⟨w3, hw_⟩ : ∃ w_, w2.alloc (.cells #[.int .i64 0] 24) = w_ := ⟨_, rfl⟩
  have hz_ : w3.heap.size = b3 + 1 := by rw [← hw_, hxb_]; exact alloc_size _ _
  rw [hw_] at hal_ hb_
  rw [← hxb_] at hb_
  have Hw3 := Lib.hid hw_
  have Hx3 := Lib.hid hxb_
  have Ha3 := Lib.hid hal_
  have Hb3 := Lib.hid hb_
  have Hz3 := Lib.hid hz_
  clear hal_ hb_ hxb_ hw_ hz_
  have h34 : b2 + 1 = b3 := by rw [Hx3.out, Hz2.out]
  have H34 := Lib.hid h34
  have Hr2 := Lib.hid (row_kept Ha3.out Hb2.out id)
  have Hc3 := Lib.hid (Ha2.out.trans Ha3.out)
  have hsz : (tx s).size = s.length := tx_size s
  have H1 := Lib.hid h1
  have f0 : decide ((256 : Int) < (s.length : Int)) = true := decide_eq_true (by omega)
  obtain r0 := var1 Hr2.out
  obtain s0 := var1 Hb3.out
  have f2 := row_free Hr2.out
  have f3 := row_free Hb3.out
  have hne : b3 ≠ b2 := by omega
  have HS := Lib.hid (store_res (v := .slice none 0 0) (k := 3) Hr2.out Hb3.out (by omega))
  have HC := Lib.hid (Hc3.out.above HS.out.2.2.1 fun k hk => by have := Hx2.out; rcases hk with rfl | rfl <;> omega)
  clear h34 h1
  go_enter Tryz.func9, Tryz.ntmps9
  go_upto_region 1 with fail
  rw [Hw2.out, Hw3.out, ← Hx2.out, H34.out]
  go_wp2_with fail
  exact bodyPost_ret (res_row (f := 0) _ HS.out.1 HS.out.2.1 rfl rfl) rfl ⟨HC.out, .inl ⟨H1.out, rfl⟩⟩
set_option maxHeartbeats 4000000 in
set_option maxRecDepth 20000 in
theorem parse_nothing (w : World) : Calls Tryz.prog 9 #[.string (tx noneT)] w (PsP noneT w) := by
  obtain ⟨s, hs⟩ : ∃ s, s = noneT := ⟨_, rfl⟩
  have h1 : s.length = 4 := by rw [hs]; rfl
  rw [← hs]
  have Hs := Lib.hid hs
  have e0 : ((tx s).toList == [110, 111, 110, 101]) = true := by rw [txL, hs]; rfl
  clear hs
  have hal_ := (Chg.refl NoB w).alloc (.cells #[.slice none 0 0] 23)
  have hb_ := heap_alloc_new w (.cells #[.slice none 0 0] 23)
  obtain ⟨b2, hxb_⟩ : ∃ b, b = w.heap.size := ⟨_, rfl⟩
  obtain ⟨w2, hw_⟩ : ∃ w_, w.alloc (.cells #[.slice none 0 0] 23) = w_ := ⟨_, rfl⟩
  have hz_ : w2.heap.size = b2 + 1 := by rw [← hw_, hxb_]; exact alloc_size _ _
  rw [hw_] at hal_ hb_
  rw [← hxb_] at hb_
  have Hw2 := Lib.hid hw_
  have Hx2 := Lib.hid hxb_
  have Ha2 := Lib.hid hal_
  have Hb2 := Lib.hid hb_
  have Hz2 := Lib.hid hz_
  clear hal_ hb_ hxb_ hw_ hz_
  have hal_ := (Chg.refl NoB w2).alloc (.cells #[.int .i64 0] 24)
  have hb_ := heap_alloc_new w2 (.cells #[.int .i64 0] 24)
  obtain ⟨b3, hxb_⟩ : ∃ b, b = w2.heap.size := ⟨_, rfl⟩
  obtain ⟨w3, hw_⟩ : ∃ w_, w2.alloc (.cells #[.int .i64 0] 24) = w_ := ⟨_, rfl⟩
  have hz_ : w3.heap.size = b3 + 1 := by rw [← hw_, hxb_]; exact alloc_size _ _
  rw [hw_] at hal_ hb_
  rw [← hxb_] at hb_
  have Hw3 := Lib.hid hw_
  have Hx3 := Lib.hid hxb_
  have Ha3 := Lib.hid hal_
  have Hb3 := Lib.hid hb_
  have Hz3 := Lib.hid hz_
  clear hal_ hb_ hxb_ hw_ hz_
  have h34 : b2 + 1 = b3 := by rw [Hx3.out, Hz2.out]
  have H34 := Lib.hid h34
  have Hr2 := Lib.hid (row_kept Ha3.out Hb2.out id)
  have Hc3 := Lib.hid (Ha2.out.trans Ha3.out)
  have hsz : (tx s).size = s.length := tx_size s
  have H1 := Lib.hid h1
  have f0 : decide ((256 : Int) < (s.length : Int)) = false := decide_eq_false (by omega)
  obtain r0 := var1 Hr2.out
  obtain s0 := var1 Hb3.out
  have f2 := row_free Hr2.out
  have f3 := row_free Hb3.out
  have hne : b3 ≠ b2 := by omega
  have HS := Lib.hid (store_res (v := .slice none 0 0) (k := 0) Hr2.out Hb3.out (by omega))
  have HC := Lib.hid (Hc3.out.above HS.out.2.2.1 fun k hk => by have := Hx2.out; rcases hk with rfl | rfl <;> omega)
  clear h34 h1
  go_enter Tryz.func9, Tryz.ntmps9
  go_upto_region 1 with fail
  rw [Hw2.out, Hw3.out, ← Hx2.out, H34.out]
  go_wp2_with fail
  exact bodyPost_ret (res_row (f := 0) _ HS.out.1 HS.out.2.1 rfl rfl) rfl ⟨HC.out, .inr (.inl ⟨by have := H1.out; omega, Hs.out, rfl⟩)⟩
set_option maxHeartbeats 4000000 in
set_option maxRecDepth 20000 in
theorem parse_main (low : Nat) (s : List UInt8) (w : World) (h1 : s.length ≤ 256) (h2 : s ≠ noneT) (hp : Pw low w) : Calls Tryz.prog 9 #[.string (tx s)] w (PsP s w) := by
  have e0 : ((tx s).toList == [110, 111, 110, 101]) = false := by rw [txL]; simpa [noneT] using h2
  have H2 := Lib.hid h2
  have Hp := Lib.hid hp
  clear h2 hp
  have hal_ := (Chg.refl NoB w).alloc (.cells #[.slice none 0 0] 23)
  have hb_ := heap_alloc_new w (.cells #[.slice none 0 0] 23)
  obtain ⟨b2, hxb_⟩ : ∃ b, b = w.heap.size := ⟨_, rfl⟩
  obtain ⟨w2, hw_⟩ : ∃ w_, w.alloc (.cells #[.slice none 0 0] 23) = w_ := ⟨_, rfl⟩
  have hz_ : w2.heap.size = b2 + 1 := by rw [← hw_, hxb_]; exact alloc_size _ _
  rw [hw_] at hal_ hb_
  rw [← hxb_] at hb_
  have Hw2 := Lib.hid hw_
  have Hx2 := Lib.hid hxb_
  have Ha2 := Lib.hid hal_
  have Hb2 := Lib.hid hb_
  have Hz2 := Lib.hid hz_
  clear hal_ hb_ hxb_ hw_ hz_
  have hal_ := (Chg.refl NoB w2).alloc (.cells #[.int .i64 0] 24)
  have hb_ := heap_alloc_new w2 (.cells #[.int .i64 0] 24)
  obtain ⟨b3, hxb_⟩ : ∃ b, b = w2.heap.size := ⟨_, rfl⟩
  obtain ⟨w3, hw_⟩ : ∃ w_, w2.alloc (.cells #[.int .i64 0] 24) = w_ := ⟨_, rfl⟩
  have hz_ : w3.heap.size = b3 + 1 := by rw [← hw_, hxb_]; exact alloc_size _ _
  rw [hw_] at hal_ hb_
  rw [← hxb_] at hb_
  have Hw3 := Lib.hid hw_
  have Hx3 := Lib.hid hxb_
  have Ha3 := Lib.hid hal_
  have Hb3 := Lib.hid hb_
  have Hz3 := Lib.hid hz_
  clear hal_ hb_ hxb_ hw_ hz_
  have h34 : b2 + 1 = b3 := by rw [Hx3.out, Hz2.out]
  have H34 := Lib.hid h34
  have Hr2 := Lib.hid (row_kept Ha3.out Hb2.out id)
  have Hc3 := Lib.hid (Ha2.out.trans Ha3.out)
  have hsz : (tx s).size = s.length := tx_size s
  have H1 := Lib.hid h1
  have f0 : decide ((256 : Int) < (s.length : Int)) = false := decide_eq_false (by omega)
  have hal_ := (Chg.refl NoB w3).alloc (.cells #[.slice none 0 0] 23)
  have hb_ := heap_alloc_new w3 (.cells #[.slice none 0 0] 23)
  obtain ⟨b4, hxb_⟩ : ∃ b, b = w3.heap.size := ⟨_, rfl⟩
  obtain ⟨w4, hw_⟩ : ∃ w_, w3.alloc (.cells #[.slice none 0 0] 23) = w_ := ⟨_, rfl⟩
  have hz_ : w4.heap.size = b4 + 1 := by rw [← hw_, hxb_]; exact alloc_size _ _
  rw [hw_] at hal_ hb_
  rw [← hxb_] at hb_
  have Hw4 := Lib.hid hw_
  have Hx4 := Lib.hid hxb_
  have Ha4 := Lib.hid hal_
  have Hb4 := Lib.hid hb_
  have Hz4 := Lib.hid hz_
  clear hal_ hb_ hxb_ hw_ hz_
  have h44 : b3 + 1 = b4 := by rw [Hx4.out, Hz3.out]
  have H44 := Lib.hid h44
  have HS := Lib.hid (show Calls Tryz.prog 24 #[.string (tx s), .string ⟨#[32, 124, 32]⟩] w4 _ from splitseq_any s barT w4)
  have Hc4 := Lib.hid (Hc3.out.trans Ha4.out)
  have Hr24 := Lib.hid (row_kept Ha4.out Hr2.out id)
  have Hr34 := Lib.hid (row_kept Ha4.out Hb3.out id)
  clear h34 h44 h1
  refine (callsIn_wide (n := 4)).1 ?_
  refine callsIn_of_wp_marks Tryz.func9 rfl trivial ?_ rfl
  simp only [Tryz.ntmps9, List.size_toArray, List.length_cons, List.length_nil, Nat.reduceAdd, Nat.reduceSub, Array.replicate_succ, Array.replicate_zero, List.push_toArray, List.append_toArray, List.nil_append, List.cons_append]
  refine wpIn_wide.2 ?_
  go_wp2_with fail
  rw [Hw2.out, Hw3.out, Hw4.out, ← Hx2.out, H34.out, H44.out]
  refine HS.out.mono ?_
  rintro e w5 ⟨pb, sb, zb, rfl, hM, hlo, hc5⟩
  have HM := Lib.hid hM
  have Hlo := Lib.hid hlo
  have Hc5 := Lib.hid hc5
  have Hp5 := Lib.hid (Hp.out.keep (Hc4.out.trans hc5) fun k h => h.elim)
  have Hord := Lib.hid (show b2 < w4.heap.size ∧ b3 < w4.heap.size ∧ b4 < w4.heap.size ∧ w.heap.size ≤ b2 ∧ w.heap.size ≤ b3 ∧ w.heap.size ≤ b4 ∧ 2 < w.heap.size ∧ b2 < b3 ∧ b3 < b4 ∧ w4.heap.size ≤ w5.heap.size ∧ sb < w5.heap.size ∧ pb < w5.heap.size ∧ zb < w5.heap.size from by have := Hx2.out; have := Hz4.out; have := H34.out; have := H44.out; have := Hp.out.le; have := hc5.size; have g1 := (Array.getElem?_eq_some_iff.1 hM.s').1; have g2 := (Array.getElem?_eq_some_iff.1 hM.p').1; have g3 := (Array.getElem?_eq_some_iff.1 hM.z').1; omega)
  obtain ⟨mx, hmx⟩ := Hp5.out.ml
  have Hseq := Lib.hid (seq1_x (4 - 1) sb pb zb (fun k => k = b2 ∨ k = b3 ∨ k = b4 ∨ w5.heap.size ≤ k) s barT (by simp [barT]) (by have := H1.out; omega) (by decide) (by have := Hord.out; have := hlo.2.1; omega) (by have := Hord.out; have := hlo.1; omega) (by have := Hord.out; have := hlo.2.2; omega) (by have := Hord.out; omega) hM.ps hM.zs (by have := Hord.out; have := hlo.2.1; omega) mx w5 hmx hM.s' (var1 hM.p') (var1 hM.z'))
  have HI0 := Lib.hid (show ParI w5 w5 b2 b3 b4 sb [] from ⟨Chg.refl _ _, row_kept hc5 Hr24.out id, row_kept hc5 Hr34.out id, none, 0, row_kept hc5 Hb4.out id, World.ownsRow_nil _ _ _ _⟩)
  have Hsl := Lib.hid (show (Lib.split s barT).length ≤ 257 by have := (spl_len (sep := barT) (by simp [barT]) s.length s (Nat.le_refl _)).2; have := H1.out; omega)
  clear hM hlo hc5 hmx HS
  go_wp2_with fail
  refine (wpIn_wide (n := 4)).1 ?_
  refine wpIn_range_x (α := B20) rfl (by decide) (gf := 59) (lb := #[.pointer (some ⟨pb, 0, none⟩), .pointer (some ⟨sb, 0, none⟩), .pointer (some ⟨zb, 0, none⟩)]) rfl trivial (enters_of Tryz.func59 (by kernel_rfl) rfl)
    (T := fun k => k = sb) (fun k hk => by subst hk; exact (Array.getElem?_eq_some_iff.1 HM.out.s').1) Hseq.out KeepT.trans (fun W l o o' h hc => KeepT.putObj W l o o' h hc) (fun _ => rfl)
    (fun pre V => ∃ gs, foldP pre = some gs ∧ gs.length = pre.length ∧ ParI w5 V b2 b3 b4 sb gs)
    (fun co pre V => co = .ret ∧ foldP pre = none ∧ Chg (TBP b2 b3 b4 sb) w5 V ∧ V.heap[b2]? = some (.cells #[.slice none 0 0] 23 (0, 0)) ∧ V.heap[b3]? = some (.cells #[.int .i64 21] 24 (0, 0)))
    ?own ?ownx ⟨[], rfl, rfl, HI0.out⟩ ?a1 ?assign ?body ?done ?stop
  case own =>
    rintro s' A B row ⟨gs, h1, h2, h3⟩ hg hr
    exact ⟨gs, h1, h2, h3.grown hg hr (by have := Hord.out; omega) (by have := Hord.out; have := Hlo.out.2.1; omega)⟩
  case ownx =>
    rintro co s' A B row ⟨h0, h1, h2, h3, h4⟩ hg hr
    have hk : ∀ b o, b < w5.heap.size → b ≠ sb → A.heap[b]? = some o → B.heap[b]? = some o := fun b o h1 h2 h3 => (hg.block b (Array.getElem?_eq_some_iff.1 h3).1 fun e => by rcases hr b e.symm with x | x <;> omega).trans h3
    exact ⟨h0, h1, h2.grown hg fun k e => (hr k e).symm.imp (fun x => .inr (.inr (.inr x))) And.left, hk _ _ (by have := Hord.out; omega) (by have := Hord.out; have := Hlo.out.2.1; omega) h3, hk _ _ (by have := Hord.out; omega) (by have := Hord.out; have := Hlo.out.2.1; omega) h4⟩
  case assign =>
    intro l' x V K hK
    gi_wp2
    exact hK
  case body =>
    rintro l' pre ⟨t, ht⟩ V ⟨gs, hgs, hgl, hT⟩ hlen
    have HT := Lib.hid hT
    have Hgs := Lib.hid hgs
    have Hgl := Lib.hid hgl
    have hPV := Hp5.out.keep hT.chg (fun k hk => by have := Hord.out; have := Hlo.out.2.1; have := Hp.out.le; rcases hk with rfl | rfl | rfl | rfl <;> omega)
    have HC := Lib.hid (term_any low t V ht hPV)
    have Hsn := Lib.hid (show foldP (pre ++ [⟨t, ht⟩]) = (termL t).map (fun g => gs ++ [g]) by rw [foldP_snoc, hgs]; rfl)
    have hgb : gs.length < 257 := by have := Hsl.out; omega
    have Hlen := Lib.hid hlen
    generalize termL t = cl at *
    clear hgs hT hPV hlen hgl
    cases cl with
    | none =>
      have HC2 := Lib.hid (show Calls Tryz.prog 25 #[.string (tx t)] V (fun e w' => e = .returned (.tuple #[.agg #[.int .i64 0, .int .i64 0], .bool false]) ∧ Chg NoB V w') from HC.out)
      try dsimp only
      gi_wp2
      refine ⟨trivial, ?_⟩
      refine (CallsIn.inRound l' ((callsIn_wide (n := _)).2 HC2.out)).mono ?_
      rintro e V3 ⟨rfl, hc3⟩
      have hal := (Chg.refl NoB V3).alloc (.cells #[.int .i64 0, .int .i64 0] 37)
      have hT4 := HT.out.keep (hc3.trans hal)
      have HT4 := Lib.hid hT4
      have HS2 := Lib.hid (store_res (v := .slice none 0 0) (k := 21) hT4.r2 hT4.r3 (by have := Hord.out; omega))
      have HK := Lib.hid ((hc3.trans hal).othersN)
      have r0 := var1 hT4.r2
      have s0 := var1 hT4.r3
      have f2 := row_free hT4.r2
      have f3 := row_free hT4.r3
      have hne : b3 ≠ b2 := by have := Hord.out; omega
      clear hal hT4 hc3 HC HC2
      gi_wp2
      exact ⟨HK.out.trans HS2.out.2.2.2, rfl, Hsn.out, HT4.out.chg.trans (HS2.out.2.2.1.mono fun _ _ x => x.elim .inl fun y => .inr (.inl y)), HS2.out.1, HS2.out.2.1⟩
    | some d =>
      obtain ⟨d1, d2⟩ := d
      have HC2 := Lib.hid (show Calls Tryz.prog 25 #[.string (tx t)] V (fun e w' => e = .returned (.tuple #[.agg #[.int .i64 d1, .int .i64 d2], .bool true]) ∧ Chg NoB V w') from HC.out)
      try dsimp only
      gi_wp2
      refine ⟨trivial, ?_⟩
      refine (CallsIn.inRound l' ((callsIn_wide (n := _)).2 HC2.out)).mono ?_
      rintro e V3 ⟨rfl, hc3⟩
      have hal_ := (Chg.refl NoB V3).alloc (.cells #[.int .i64 d1, .int .i64 d2] 37)
      have hb_ := heap_alloc_new V3 (.cells #[.int .i64 d1, .int .i64 d2] 37)
      obtain ⟨b6, hxb_⟩ : ∃ b, b = V3.heap.size := ⟨_, rfl⟩
      obtain ⟨W4, hw_⟩ : ∃ w_, V3.alloc (.cells #[.int .i64 d1, .int .i64 d2] 37) = w_ := ⟨_, rfl⟩
      have hz_ : W4.heap.size = b6 + 1 := by rw [← hw_, hxb_]; exact alloc_size _ _
      rw [hw_] at hal_ hb_
      rw [← hxb_] at hb_
      have Hw6 := Lib.hid hw_
      have Hx6 := Lib.hid hxb_
      have Ha6 := Lib.hid hal_
      have Hb6 := Lib.hid hb_
      have Hz6 := Lib.hid hz_
      clear hal_ hb_ hxb_ hw_ hz_
      have hal_ := (Chg.refl NoB W4).alloc (.cells #[.int .i64 d1, .int .i64 d2] 37)
      have hb_ := heap_alloc_new W4 (.cells #[.int .i64 d1, .int .i64 d2] 37)
      obtain ⟨lb, hxb_⟩ : ∃ b, b = W4.heap.size := ⟨_, rfl⟩
      obtain ⟨W5, hw_⟩ : ∃ w_, W4.alloc (.cells #[.int .i64 d1, .int .i64 d2] 37) = w_ := ⟨_, rfl⟩
      have hz_ : W5.heap.size = lb + 1 := by rw [← hw_, hxb_]; exact alloc_size _ _
      rw [hw_] at hal_ hb_
      rw [← hxb_] at hb_
      have Hw8 := Lib.hid hw_
      have Hx8 := Lib.hid hxb_
      have Ha8 := Lib.hid hal_
      have Hb8 := Lib.hid hb_
      have Hz8 := Lib.hid hz_
      clear hal_ hb_ hxb_ hw_ hz_
      obtain ⟨e0, e1⟩ := var2 Hb6.out
      have hT4 := HT.out.keep (hc3.trans Ha6.out)
      have HT5 := Lib.hid (hT4.keep Ha8.out)
      have Hc5' := Lib.hid (hc3.trans (Ha6.out.trans Ha8.out))
      obtain ⟨q, c, hb4, -⟩ := hT4.r4
      obtain ⟨q', c', hb4', hor'⟩ := HT5.out.r4
      have hqc : q = q' ∧ c = c' := by
        have h := row_kept Ha8.out hb4 id
        rw [h] at hb4'
        simpa using hb4'
      obtain ⟨rfl, rfl⟩ := hqc
      have Hor5 := Lib.hid hor'
      have q0 := var1 hb4
      have Hb45 := Lib.hid hb4'
      obtain ⟨n, hn⟩ : ∃ n, n = gs.length := ⟨_, rfl⟩
      rw [← hn] at q0 Hor5 hgb
      have Hn := Lib.hid hn
      have Hbase := Lib.hid (show w5.heap.size ≤ W5.heap.size from HT5.out.chg.size)
      clear hc3 hT4 hb4 hb4' hor' hn HC HC2
      gi_upto_region 11 with fail
      rw [Hw6.out, ← Hx6.out]
      gi_wp2_with (gi_at_builtin; go_loud (rw [← Hx8.out, Hw8.out]); go_loud (refine wpListIn_gap (v := .slice q n c) (y := (d1, d2)) rfl _ _ rfl rfl rfl Hn.out rfl Hor5.out Hb8.out (by omega) Hbase.out ?_); intro v9 w9 hown9 hch9; go_loud (obtain ⟨q9, c9, rfl, -, -⟩ := row_shape hown9); have Hown9 := Lib.hid hown9; have Hc9 := Lib.hid hch9; go_loud (have Hb49 := Lib.hid (row_kept hch9 Hb45.out (fun e => by have := (World.ownsRow.lt Hor5.out b4 e).1; have := Hord.out; omega))); have p0 := var1 Hb49.out; have f4 := row_free Hb49.out; clear hown9 hch9)
      have HF := Lib.hid (show ParI w5 (w9.setCell ⟨b4, 0, none⟩ (.slice q9 (n + 1) c9)) b2 b3 b4 sb (gs ++ [(d1, d2)]) ∧ KeepT (fun k => k = b2 ∨ k = b3 ∨ k = b4 ∨ w5.heap.size ≤ k) V (w9.setCell ⟨b4, 0, none⟩ (.slice q9 (n + 1) c9)) ∧ KeepsOthers V (w9.setCell ⟨b4, 0, none⟩ (.slice q9 (n + 1) c9)) from by
        have hown : ∀ k, (Value.slice q n c).ownBlock = some k → w5.heap.size ≤ k := fun k e => (World.ownsRow.lt Hor5.out k e).1
        have hset : Chg (fun k => k = b4) w9 (w9.setCell ⟨b4, 0, none⟩ (.slice q9 (n + 1) c9)) := (Chg.refl (fun k => k = b4) w9).setCell (p := ⟨b4, 0, none⟩) (.inl rfl) _
        have h5 := HT5.out
        have hlt := Hord.out
        have hne2 : b2 ≠ b4 := by omega
        have hne3 : b3 ≠ b4 := by omega
        have hl : n + 1 = (gs ++ [(d1, d2)]).length := by rw [List.length_append, ← Hn.out]; rfl
        refine ⟨⟨?_, row_kept hset (row_kept Hc9.out h5.r2 fun e => ?_) hne2, row_kept hset (row_kept Hc9.out h5.r3 fun e => ?_) hne3, q9, c9, ?_, ?_⟩, ?_, ?_⟩
        · exact (h5.chg.transR Hc9.out fun k hk e => absurd (hown k e) (by omega)).trans (hset.mono fun _ _ x => .inr (.inr (.inl x)))
        · have := hown b2 e; omega
        · have := hown b3 e; omega
        · rw [← hl]; exact heap_set Hb49.out (i := 0) _
        · rw [← hl]
          refine ownsRow_chg Hown9.out hset fun k e x => ?_
          have := (World.ownsRow.lt Hown9.out k e).1
          omega
        · exact ((Hc5'.out.keepT fun _ h => h.elim).trans (Hc9.out.keepT fun k e => .inr (.inr (.inr (hown k e))))).trans (hset.keepT fun k e => .inr (.inr (.inl e)))
        · exact (Hc5'.out.othersN.trans (row_others (n := n) (l := gs) Hor5.out Hc9.out)).trans (KeepsOthers.setCell _ _ _))
      exact ⟨HF.out.2.2, HF.out.2.1, gs ++ [(d1, d2)], Hsn.out, by rw [List.length_append, List.length_append, Hgl.out]; rfl, HF.out.1⟩
  case done =>
    rintro D' ys V hD rfl ⟨gs, hgs, hgl, hT⟩ hK
    rw [parse_pieces (by have := H1.out; omega)] at hgs
    have Hgs := Lib.hid hgs
    have HT := Lib.hid hT
    have HK := Lib.hid hK
    have hgb : gs.length ≤ 257 := by rw [hgl, List.length_map]; exact Hsl.out
    obtain ⟨q, c, hb4, hrow⟩ := hT.r4
    have q0 := var1 hb4
    have HTd := Lib.hid (tidy_any gs w5.heap.size (.slice q gs.length c) V hrow (by omega))
    have Hrow := Lib.hid hrow
    have HV := Lib.hid (((Hc4.out.trans Hc5.out).above hT.chg (fun k hk => by have := Hord.out; have := Hlo.out.2.1; rcases hk with rfl | rfl | rfl | rfl <;> omega) : Chg NoB w V))
    have HD := Lib.hid hD
    clear hgs hgl hT hb4 hrow hK hD
    go_wp2_with fail
    refine HTd.out.mono ?_
    rintro e w6 hTd
    have hown : ∀ k, (Value.slice q gs.length c).ownBlock = some k → w5.heap.size ≤ k := fun k e => (World.ownsRow.lt Hrow.out k e).1
    have hbd := (gaps_bd Hgs.out).1
    obtain ⟨d, q6, n6, c6, hn6, he6, hch6, hin6, hr6, hc6⟩ := op_end (w := w) (p := fun n => inG gs n) (fun g hg => hbd g hg) (fun _ _ _ => rfl) hTd HV.out (fun k e => by have := hown k e; have := Hord.out; omega)
    obtain ⟨dz, qx, nx, cx, hz1, hz2, hz3, hex, hrx, hcT⟩ := hTd
    clear hz1 hz2 hz3
    subst he6
    obtain ⟨rfl, rfl, rfl⟩ : q6 = qx ∧ n6 = nx ∧ c6 = cx := by simpa using hex
    have Hrx := Lib.hid (show ∀ k, (Value.slice q6 n6 c6).ownBlock = some k → V.heap.size ≤ k from fun k e => (World.ownsRow.lt hrx k e).1)
    have HVs := Lib.hid (show b2 < V.heap.size ∧ b3 < V.heap.size ∧ D' < V.heap.size from ⟨lt_of_block HT.out.r2, lt_of_block HT.out.r3, (Array.getElem?_eq_some_iff.1 HK.out).1⟩)
    have HR2 := Lib.hid (row_kept hcT HT.out.r2 fun e => by have := hown b2 e; have := Hord.out; omega)
    have HR3 := Lib.hid (row_kept hcT HT.out.r3 fun e => by have := hown b3 e; have := Hord.out; omega)
    have HK6 := Lib.hid ((row_others (l := gs) Hrow.out hcT).same D' _ HK.out rfl)
    have HO := Lib.hid (And.intro hn6 (And.intro hch6 (And.intro hin6 (And.intro hr6 hc6))))
    have r0 := var1 HR2.out
    have s0 := var1 HR3.out
    have f2 := row_free HR2.out
    have f3 := row_free HR3.out
    have hne : b3 ≠ b2 := by have := Hord.out; omega
    clear hown hbd hn6 hch6 hin6 hr6 hc6 hcT HTd q0 hex hrx
    go_wp2_with fail
    refine (few_any n6 c6 q6 w6).mono ?_
    rintro e w7 ⟨rfl, rfl⟩
    have HDw := Lib.hid (show w.heap.size ≤ D' by have := HD.out; have := Hord.out; omega)
    by_cases h16 : 16 < n6
    · rw [if_pos h16]
      have HP := Lib.hid (par_fin (v := .slice none 0 0) (k := 13) HR2.out HR3.out (by have := Hord.out; omega) HO.out.2.2.2.2 (by have := Hord.out; omega) HK6.out HDw.out)
      go_wp2_with fail
      refine ⟨by simp, .inl ⟨_, _, rfl, run_takeDeferred HP.out.1, ?_⟩⟩
      exact ⟨_, res_row (f := 0) _ HP.out.2.1 HP.out.2.2.1 rfl rfl, HP.out.2.2.2.1, .inr (.inr (.inr ⟨H1.out, H2.out, gs, d, Hgs.out, HO.out.2.1, HO.out.2.2.1, .inl ⟨by rw [← HO.out.1]; exact h16, rfl⟩⟩))⟩
    · rw [if_neg h16]
      have HP := Lib.hid (par_fin (v := .slice q6 n6 c6) (k := 0) HR2.out HR3.out (by have := Hord.out; omega) HO.out.2.2.2.2 (by have := Hord.out; omega) HK6.out HDw.out)
      have Hrf := Lib.hid (ownsRow_chg HO.out.2.2.2.1 HP.out.2.2.2.2 fun k e x => by have := Hrx.out k e; have := HVs.out; rcases x with x | x | x <;> omega)
      go_wp2_with fail
      refine ⟨by simp, .inl ⟨_, _, rfl, run_takeDeferred HP.out.1, ?_⟩⟩
      have hn6 := HO.out.1
      subst hn6
      exact ⟨_, res_row (f := 0) _ HP.out.2.1 HP.out.2.2.1 rfl rfl, HP.out.2.2.2.1, .inr (.inr (.inr ⟨H1.out, H2.out, gs, d, Hgs.out, HO.out.2.1, HO.out.2.2.1, .inr ⟨by omega, q6, c6, rfl, Hrf.out⟩⟩))⟩
  case stop =>
    rintro D' co pre V hD hpre ⟨rfl, hn, hch, hr2, hr3⟩ hK
    have Hn := Lib.hid (show gapsL s = none by rw [← parse_pieces (s := s) (by have := H1.out; omega)]; exact foldP_prefix hpre hn)
    have hg := grownBy_putObj' V D' (.deferred none)
    have HV := Lib.hid (((Hc4.out.trans Hc5.out).above hch (fun k hk => by have := Hord.out; have := Hlo.out.2.1; rcases hk with rfl | rfl | rfl | rfl <;> omega) : Chg NoB w V).grown hg fun k e => .inr (by cases e; have := (Hc4.out.trans Hc5.out).size; omega))
    have hnd : ∀ (b' : Nat) (cs : Array Value) (t : TypeId) (f : Nat × Nat), V.heap[b']? = some (.cells cs t f) → (V.putObj D' (.deferred none)).heap[b']? = some (.cells cs t f) := fun b' cs t f e =>
      (World.putObj_heap_other (fun e2 => by subst e2; rw [hK] at e; cases e)).trans e
    have HR2 := Lib.hid (hnd _ _ _ _ hr2)
    have HR3 := Lib.hid (hnd _ _ _ _ hr3)
    have HK := Lib.hid hK
    clear hn hch hr2 hr3 hK hg hpre hnd
    gi_wp2
    refine ⟨by simp, .inl ⟨_, _, rfl, run_takeDeferred HK.out, ?_⟩⟩
    exact ⟨_, res_row (f := 0) _ HR2.out HR3.out rfl rfl, HV.out, .inr (.inr (.inl ⟨H1.out, H2.out, Hn.out, rfl⟩))⟩
theorem ps_any (low : Nat) (s : List UInt8) (w : World) (hl : s.length ≤ 1048576) (hp : Pw low w) : Calls Tryz.prog 9 #[.string (tx s)] w (PsP s w) := by
  by_cases h1 : 256 < s.length
  · exact parse_long s w hl h1
  · by_cases h2 : s = noneT
    · subst h2; exact parse_nothing w
    · exact parse_main low s w (by omega) h2 hp
end Go.Proofs.YtaijhebjjbcdfaaGreatDoor
