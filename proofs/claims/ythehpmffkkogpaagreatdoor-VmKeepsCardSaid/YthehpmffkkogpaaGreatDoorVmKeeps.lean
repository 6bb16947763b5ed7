/- Proved: the statement VmKeeps holds for every program and every tree. Conditions: the listed package variables read as the program's text lays them (the card ties them); nothing else. -/
import Derived.Test.YthehpmffkkogpaaGreatDoorVqH
import Derived.Test.YthehpmffkkogpaaGreatDoorVqU


namespace Go.Proofs.YthehpmffkkogpaaGreatDoor
set_option linter.unusedVariables false
open Go.ChangeShapes Go.WideShapes Go.ChangeAt Go.RowKit
open Go.ChangeMaps (open_string shut_string)
theorem kcut {P : Program} {c : Code} {Q : Exit → Act → World → Prop} {a : Act} {w : World} (F : Act → Act → World → Prop) (h1 : c.wp P (fun e a' w' => e = .normal ∧ F a a' w') a w) (h2 : ∀ a' w', F a a' w' → Q .normal a' w') : c.wp P Q a w :=
  Code.wp_mono (fun e a' w' h => by obtain ⟨rfl, h⟩ := h; exact h2 a' w' h) h1
theorem InpS.newsK {w : World} {S : Nat → Prop} {q : Option Addr} {n c : Nat} {l : List FileL} {kb ko : Nat} (h : InpS w S (.slice q n c) l kb ko) : (∃ a, q = some a ∧ ∀ j u, (flatP l)[j]? = some u → w.cell? (a.add j) = some u) ∨ (q = none ∧ l.length = 0 ∧ flatP l = []) := by
  obtain ⟨⟨q', c', e', h1, h2, h3⟩, hat⟩ := h
  cases e'
  cases q with
  | none =>
    right
    obtain rfl : l = [] := by
      by_cases h : l = []
      · exact h
      · obtain ⟨h, -⟩ := h3 h; cases h
    exact ⟨rfl, rfl, rfl⟩
  | some a =>
    left
    refine ⟨a, rfl, fun j u hj => ?_⟩
    have hlt : j < (flatP l).length := (List.getElem?_eq_some_iff.1 hj).1
    rw [flatP_len] at hlt
    have hne : l ≠ [] := by rintro rfl; simp at hlt
    obtain ⟨ha, -⟩ := h3 hne
    cases ha
    have hd : j / 2 < l.length := by omega
    obtain ⟨g0, g1⟩ := flatP_at l (j / 2) hd
    obtain ⟨c0, c1⟩ := hat (j / 2) hd
    rcases Nat.mod_two_eq_zero_or_one j with hm | hm
    · have e : j / 2 * 2 = j := by omega
      rw [e] at g0 c0
      rw [g0] at hj
      cases hj
      rw [Go.WideShapes.add_plain]
      exact c0
    · have e : j / 2 * 2 + 1 = j := by omega
      rw [e] at g1
      rw [Nat.add_assoc, e] at c1
      rw [g1] at hj
      cases hj
      rw [Go.WideShapes.add_plain]
      exact c1
theorem InsS.newsK {w : World} {S : Nat → Prop} {q : Option Addr} {n c : Nat} {l : List InsL} {kb ko : Nat} (h : InsS w S (.slice q n c) l kb ko) : (∃ a, q = some a ∧ ∀ j u, (flatI l)[j]? = some u → w.cell? (a.add j) = some u) ∨ (q = none ∧ l.length = 0 ∧ flatI l = []) := by
  by_cases h0 : l = []
  · subst h0
    cases q with
    | none => exact .inr ⟨rfl, rfl, rfl⟩
    | some a => exact .inl ⟨a, rfl, fun j u hj => by simp [flatI] at hj⟩
  · have hn := h.news 0 l.length (by omega)
    obtain ⟨q', c', e', h1, h2, h3⟩ := h.sh
    cases e'
    obtain ⟨rfl, -⟩ := h3 h0
    refine .inl ⟨_, rfl, fun j u hj => ?_⟩
    have := hn j u (by rw [List.drop_zero, List.take_length]; exact hj)
    simpa using this
theorem kappend_none {P : Program} {w : World} (base : Nat) (t ty e : TypeId) (i : TypeInfo) (size c : Nat) (ht : P.underlying t = some (.slice e)) (hi : P.info? e = some i)
    (v : Value) (n : Nat) (xs : List Value) (hown : w.ownsRow base e size v n xs) : (Builtin.append_ #[t, t] ty #[v, .slice none 0 c]).run P w = .ok v w := by
  rcases hown.2 with ⟨rfl, rfl⟩ | ⟨g, cap, cur, rfl, _, _, hnc, _⟩
  · simp [Builtin.append_, run_underlying ht, sizeOf, typeInfo, hi, Builtin.lenOf, Builtin.firstCells]
  · simp [Builtin.append_, run_underlying ht, sizeOf, typeInfo, hi, Builtin.lenOf, Builtin.firstCells, hnc, storeCells]
theorem kgive {P Q : Prop} (h : P) (k : P → Q) : Q := k h
theorem kheap_alloc (w : World) (o : Obj) : (w.alloc o).heap = w.heap.push o := rfl
theorem ksize_drew (w : World) : w.drew.heap.size = w.heap.size := rfl
theorem ksize_alloc (w : World) (o : Obj) : (w.alloc o).heap.size = w.heap.size + 1 := alloc_size w o
theorem kheap_get (w : World) (o : Obj) (b : Nat) : (w.alloc o).heap[b]? = if b = w.heap.size then some o else w.heap[b]? := by rw [kheap_alloc, Array.getElem?_push]
theorem kdrew_get (w : World) (b : Nat) : w.drew.heap[b]? = w.heap[b]? := rfl
/- an append of what came in onto a slice just made -/
theorem kstep_new {P : Program} {ops : Array Oper} {o : Oper} {a : Act} {K : Act → World → Prop} {Q : Exit → Act → World → Prop} {E : Prop} (hgd : o.guard = none) (w w0 : World) (s x : Operand) (t : TypeId)
    (ho : o.op = .call { callee := .builtin .append, args := #[s, x], argTypes := #[t, t] })
    (e : TypeId) (i : TypeInfo) (z : Value) (size bytes : Nat) (ht : P.underlying t = some (.slice e)) (hi : P.info? e = some i) (hz : i.zero = some z)
    (hsize : i.size = size) (hby : i.bytes = bytes) (hzs : z.cells.size = size) (hsz : 0 < size)
    (b : Nat) (hs : a.eval s = .slice (some ⟨b, 0, none⟩) 0 0) (q : Option Addr) (m c : Nat) (news : List Value) (hx : a.eval x = .slice q m c)
    (hc : Chg NoB w0 w) (hb : w0.heap.size ≤ b) (hcell : w.heap[b]? = some (.cells #[] e (0, 0)))
    (hq : (∃ ad, q = some ad ∧ ∀ j u, news[j]? = some u → w0.cell? (ad.add j) = some u) ∨ (q = none ∧ m = 0 ∧ news = [])) (hl : news.length = m * size) (h1 : ∀ u ∈ news, u.oneCell' = true)
    (h63 : m ≤ maxLen) (hbytes : m * bytes ≤ 140737488355328)
    (h : ∀ v' w', w'.ownsRow w0.heap.size e size v' m news → Chg NoB w0 w' → w.heap.size ≤ w'.heap.size → (∀ k ob, ¬ k = b → w.heap[k]? = some ob → w'.heap[k]? = some ob) → (∀ k, v'.ownBlock = some k → (k = b ∨ k = w.heap.size) ∧ k < w'.heap.size) → (∀ lo t z v n xs, w.ownsRow lo t z v n xs → (∀ k, v.ownBlock = some k → ¬ k = b) → w'.ownsRow lo t z v n xs) → K (a.put o.dst v') w') :
    if Region.wanted o (yielded ops a.tmps) = true then Oper.wp P o a w K Q else E := by
  have hown : w.ownsRow w0.heap.size e size (.slice (some ⟨b, 0, none⟩) 0 0) 0 [] := ⟨by simp, .inr ⟨b, 0, #[], rfl, hb, hcell, Nat.le_refl _, Nat.zero_le _, by simp, by simp⟩⟩
  rcases hq with ⟨ad, rfl, hnews⟩ | ⟨rfl, rfl, rfl⟩
  · refine step_append_at hgd w s x t ho w0.heap.size e i z size bytes ht hi hz hsize hby hzs hsz _ 0 [] hs hown ad m c news hx hl (fun j u hj => hc.keep (hnews j u hj)) h1 (by omega) (by rw [Nat.zero_add]; exact hbytes) hc.size fun v' w' h2 h3 h4 => ?_
    rw [Nat.zero_add, List.nil_append] at h2
    have hg : Chg (fun j => j = b) w w' := (Chg.refl _ _).grown h3 fun j hj => .inl (by cases hj; rfl)
    refine h v' w' h2 (hc.grown h3 fun j hj => .inr (by cases hj; exact hb)) hg.size (fun k ob hk ho => row_kept hg ho hk) (fun k hk => ⟨?_, (World.ownsRow.lt h2 k hk).2⟩) fun lo t z v n xs hv hk => ownsRow_chg hv hg hk
    rcases h4 with e | e
    · rw [hk] at e; cases e; exact .inl rfl
    · rw [hk] at e; cases e; exact .inr rfl
  · have hw : Region.wanted o (yielded ops a.tmps) = true := by simp [Region.wanted, hgd]
    rw [if_pos hw]
    have hrun := kappend_none (P := P) (w := w) w0.heap.size t o.type e i size c ht hi _ 0 [] hown
    unfold Oper.wp execOp
    simp only [ho, resolve, invoke, builtin, Sem.run_bind, Sem.run_pure, Result.andThen_ok, List.map_toArray, List.map_cons, List.map_nil, hs, hx, hrun]
    exact h _ w hown hc (Nat.le_refl _) (fun k ob hk ho => ho) (fun k hk => ⟨.inl (by cases hk; rfl), (World.ownsRow.lt hown k hk).2⟩) fun lo t z v n xs hv hk => hv
/- a row of cells of the call's own that may be written over -/
def KRow (w : World) (g N : Nat) (t : TypeId) : Prop := ∃ cs, w.heap[g]? = some (.cells cs t (0, 0)) ∧ cs.size = N
theorem KRow.cell {w : World} {g N : Nat} {t : TypeId} (h : KRow w g N t) (i : Nat) (hi : i < N) : ∃ u, w.cell? ⟨g, i, none⟩ = some u := by
  obtain ⟨cs, h1, h2⟩ := h
  have hi2 : i < cs.size := by omega
  exact ⟨cs[i], by rw [cell_of_row w g i _ _ (0, 0) h1]; exact Array.getElem?_eq_getElem hi2⟩
theorem KRow.free {w : World} {g N : Nat} {t : TypeId} (h : KRow w g N t) : ∀ j, w.frozen? ⟨g, j, none⟩ = false := by
  obtain ⟨cs, h1, h2⟩ := h
  exact row_free h1
theorem KRow.set {w : World} {g N : Nat} {t : TypeId} (h : KRow w g N t) (i : Nat) (u : Value) : KRow (w.setCell ⟨g, i, none⟩ u) g N t := by
  obtain ⟨cs, h1, h2⟩ := h
  exact ⟨_, heap_set h1 (i := i) u, by simpa using h2⟩
theorem KRow.keep {w w' : World} {g N : Nat} {t : TypeId} (h : KRow w g N t) {S : Nat → Prop} (hc : Chg S w w') (hg : ¬ S g) : KRow w' g N t := by
  obtain ⟨cs, h1, h2⟩ := h
  exact ⟨cs, row_kept hc h1 hg, h2⟩
/- the block of a row that is a call's own, if it has any -/
theorem krow_of {w : World} {lo n c z : Nat} {q : Option Addr} {xs : List Value} {t : TypeId} (h : w.ownsRow lo t z (.slice q n c) n xs) (hx : xs.length = n * z) : ∃ g N, (0 < n → q = some ⟨g, 0, none⟩ ∧ KRow w g N t) ∧ n * z ≤ N := by
  rcases h.2 with ⟨e, h0⟩ | ⟨g, cap, cur, e, h2, h3, h4, h5, h6, h7⟩
  · exact ⟨0, n * z, fun h => by omega, Nat.le_refl _⟩
  · injection e with e1 e2 e3
    refine ⟨g, cap * z, fun _ => ⟨e1, cur, h3, h6⟩, Nat.mul_le_mul_right z h4⟩
theorem kcell_ne {w : World} {b i j : Nat} (u : Value) (h : i ≠ j) : (w.setCell ⟨b, i, none⟩ u).cell? ⟨b, j, none⟩ = w.cell? ⟨b, j, none⟩ := by
  rw [World.cell?_setCell_other]
  intro e
  have h2 : i = j := congrArg Addr.off e
  exact h h2
theorem knil {w w' : World} {S T : Nat → Prop} {q : Option Addr} {c kb ko : Nat} (h : InpS w S (.slice q 0 c) [] kb ko) : InpS w' T (.slice q 0 c) [] kb ko := by
  obtain ⟨⟨q', c', e, h1, h2, h3⟩, hat⟩ := h
  exact ⟨⟨q', c', e, h1, h2, fun h => absurd rfl h⟩, fun i hi => by simp at hi⟩
/- a machine that has not begun -/
theorem kmach {w w' : World} {lo mb : Nat} {pv vv : Value} (h : Mach w lo mb pv vv mm0.s mm0.steps mm0.fault (.slice none 0 0, .slice none 0 0)) {S : Nat → Prop} (hc : Chg S w w') (hm : ¬ S mb) : Mach w' lo mb pv vv mm0.s mm0.steps mm0.fault (.slice none 0 0, .slice none 0 0) := by
  obtain ⟨oq, oc, h1, h2, kb, ko, h3⟩ := h.row
  exact ⟨⟨oq, oc, row_kept hc h1 hm, h2, kb, ko, knil h3⟩, ownsRow_chg h.st hc fun k hk => (by cases hk), ownsRow_chg h.ca hc fun k hk => (by cases hk), h.ap, ⟨h.lo.1, Nat.le_trans h.lo.2 hc.size⟩, h.loc⟩
theorem knew {ps : List InsL} {view : List FileL} {y : Int} {w : World} {e : Ending} {w' : World} (h : NewP ps view y w e w') : Chg NoB w w' ∧ ∃ mp : Option Addr, e = .returned (.tuple #[.pointer mp, .int .i64 y]) ∧
    ((y = 0 ∧ ∃ mb pq pc vq vc pb kb, mp = some ⟨mb, 0, none⟩ ∧ w.heap.size ≤ mb ∧ Mach w' (mb + 1) mb (.slice pq ps.length pc) (.slice vq view.length vc) mm0.s mm0.steps mm0.fault (.slice none 0 0, .slice none 0 0) ∧ InsS w' (fun k => w.heap.size ≤ k ∧ k < mb) (.slice pq ps.length pc) ps pb 0 ∧ InpS w' (fun k => w.heap.size ≤ k ∧ k < mb) (.slice vq view.length vc) view kb 0) ∨ (y ≠ 0 ∧ mp = none)) := by
  obtain ⟨hc, h⟩ := h
  refine ⟨hc, ?_⟩
  by_cases hy : y = 0
  · rw [if_pos hy] at h
    obtain ⟨mb, pq, pc, vq, vc, pb, kb, h1, h2, h3, h4, h5⟩ := h
    exact ⟨_, by rw [h1, hy], .inl ⟨hy, mb, pq, pc, vq, vc, pb, kb, rfl, h2, h3, h4, h5⟩⟩
  · rw [if_neg hy] at h
    exact ⟨_, h, .inr ⟨hy, rfl⟩⟩
theorem kgo {ps : List InsL} {view : List FileL} (hx : ∀ x ∈ ps, x.wf) (h : newF ps view = 0) : goF ps view (5000 : Int).toNat mm0 = runM ps view := by
  have hr := run_ran hx h
  have e : (5000 : Int).toNat = 4096 + 904 := rfl
  rw [e, go_add]
  show goF ps view 904 (runM ps view) = _
  rw [go_done hr.done]
set_option maxHeartbeats 4000000 in
set_option maxRecDepth 20000 in
theorem vmKeeps_all (l0 : List InsL) (v0 : Value) (kb0 ko0 : Nat) (l1 : List FileL) (u1 : Value) (kb1 ko1 : Nat) (W : World) (hn0 : InsS W (OldB W) v0 l0 kb0 ko0) (hn1 : InpS W (OldB W) u1 l1 kb1 ko1) (hr1 : Reach l1) (hml : Pth.Ml W) (hlb : Lb W.heap.size W) (hwd : Wd W.heap.size W) :
    Calls Tryz.prog 8 #[v0, .agg #[u1]] W fun e w' => e = .returned (.bool true) ∧ Chg NoB W w' := by
  have hp0_ := hn0
  have hv0_ := hn1
  obtain ⟨⟨pq, pc, rfl, p1_, p2_, -⟩, -⟩ := hn0
  obtain ⟨⟨q, c, rfl, -, -, -⟩, -⟩ := hn1
  obtain ⟨m, hm_⟩ : ∃ m, m = l0.length := ⟨_, rfl⟩
  obtain ⟨n, hn_⟩ : ∃ n, n = l1.length := ⟨_, rfl⟩
  rw [← hm_] at hp0_ p1_ ⊢
  rw [← hn_] at hv0_ ⊢
  have Hpm := Lib.hid hm_
  have Hvn := Lib.hid hn_
  have Hpc := Lib.hid (And.intro p1_ p2_)
  have Hp := Lib.hid hp0_
  have Hv := Lib.hid hv0_
  have Hrc := Lib.hid hr1
  have Hwd := Lib.hid hwd
  have Hlb := Lib.hid hlb
  have Hml := Lib.hid hml
  have HRun := Lib.hid (fun (w' : World) (h : Chg NoB W w') (sm : SmallG l0 l1) => run_any l0 l1 _ _ _ _ kb0 ko0 kb1 ko1 W.heap.size w' (hwd.keep h) (hlb.keep h) (ml_keep hml h) (by have := sm.plen; omega) (by have := sm.vlen; omega) (fun x hx => by have := sm.files x hx; omega) (hp0_.keep h fun _ _ => id) (hv0_.keep h fun _ _ => id))
  have Hwf := Lib.hid hp0_.wfs
  clear hm_ hn_ hp0_ hv0_ p1_ p2_ hr1 hwd hlb hml
  have hal_ := (Chg.refl NoB W).alloc (.cells #[.slice q n c] 25)
  have hb_ := heap_alloc_new W (.cells #[.slice q n c] 25)
  obtain ⟨vb, hxb_⟩ : ∃ b, b = W.heap.size := ⟨_, rfl⟩
  obtain ⟨w1, hw_⟩ : ∃ w_, W.alloc (.cells #[.slice q n c] 25) = w_ := ⟨_, rfl⟩
  have hz_ : w1.heap.size = vb + 1 := by rw [← hw_, hxb_]; exact alloc_size _ _
  rw [hw_] at hal_ hb_
  rw [← hxb_] at hb_
  have Hw1 := Lib.hid hw_
  have Hx1 := Lib.hid hxb_
  have Ha1 := Lib.hid hal_
  have Hb1 := Lib.hid hb_
  have Hz1 := Lib.hid hz_
  clear hal_ hb_ hxb_ hw_ hz_
  go_enter Tryz.func8, Tryz.ntmps8
  go_upto_region 1 with fail
  rw [Hw1.out, ← Hx1.out]
  go_wp2_with fail
  refine (malive_any W.heap.size w1 (Hwd.out.keep Ha1.out) (Hlb.out.keep Ha1.out) (ml_keep Hml.out Ha1.out)).mono ?_
  rintro e w2 ⟨rfl, hc2⟩
  have Hc2 := Lib.hid (Ha1.out.trans hc2)
  have HG := Lib.hid (mgreat_any l0 l1 Hrc.out _ _ _ _ kb0 ko0 kb1 ko1 w2 (Hp.out.keep Hc2.out fun _ _ => id) (Hv.out.keep Hc2.out fun _ _ => id))
  have hb2 := row_kept hc2 Hb1.out id
  have v0 := var1 hb2
  have Hb2 := Lib.hid hb2
  clear hc2 hb2
  go_wp2_with fail
  refine HG.out.mono ?_
  rintro e w3 ⟨hc3, g, rfl, hg⟩
  have Hc3 := Lib.hid (Hc2.out.trans hc3)
  have hb3 := row_kept hc3 Hb2.out id
  have Hb3 := Lib.hid hb3
  have Hg := Lib.hid hg
  clear hc3 hg v0 HG
  cases g with
  | true =>
    clear hb3
    go_wp2_with fail
    go_ret
    exact ⟨rfl, Hc3.out⟩
  | false =>
  have v0 := var1 hb3
  have Hsm := Lib.hid (Hg.out rfl)
  clear hb3
  have HRR := Lib.hid (fun (w' : World) (h : Chg NoB W w') => rrun_any l0 l1 _ _ _ _ kb0 ko0 kb1 ko1 W.heap.size w' (Hlb.out.keep h) (by have := Hsm.out.vlen; omega) (fun x hx => by have := Hsm.out.files x hx; omega) (Hp.out.keep h fun _ _ => id) (Hv.out.keep h fun _ _ => id))
  obtain ⟨i0, hi, hz0, hz1, hz2⟩ := info_parts insInfo
  have Hi := Lib.hid hi
  have Zi0 := Lib.hid hz0
  have Zi1 := Lib.hid hz1
  have Zi2 := Lib.hid hz2
  clear hi hz0 hz1 hz2
  obtain ⟨j0, hi, hz0, hz1, hz2⟩ := info_parts inpInfo
  have Hj := Lib.hid hi
  have Zj0 := Lib.hid hz0
  have Zj1 := Lib.hid hz1
  have Zj2 := Lib.hid hz2
  clear hi hz0 hz1 hz2
  have HqI := Lib.hid ((Hp.out.keep Hc3.out fun _ _ => id).newsK)
  have HqF := Lib.hid ((Hv.out.keep Hc3.out fun _ _ => id).newsK)
  rw [← Hpm.out] at HqI
  rw [← Hvn.out] at HqF
  have HlI := Lib.hid (show (flatI l0).length = m * 3 by rw [flatI_len, ← Hpm.out])
  have HlF := Lib.hid (show (flatP l1).length = n * 2 by rw [flatP_len, ← Hvn.out])
  have HmI := Lib.hid (show m ≤ maxLen by unfold maxLen; have := Hsm.out.plen; have := Hpm.out; omega)
  have HmF := Lib.hid (show n ≤ maxLen by unfold maxLen; have := Hsm.out.vlen; have := Hvn.out; omega)
  have HbI := Lib.hid (show m * 32 ≤ 140737488355328 by have := Hsm.out.plen; have := Hpm.out; omega)
  have HbF := Lib.hid (show n * 32 ≤ 140737488355328 by have := Hsm.out.vlen; have := Hvn.out; omega)
  have v3 := v0
  have HsZ := Lib.hid trivial
  go_upto_region 5 with fail
  refine kcut (fun a a' w' => ∃ x22 x23 x24 x25 x26 x27 x28 x29 x6 x5, a' = ((((((((((a.put (some 22) x22).put (some 23) x23).put (some 24) x24).put (some 25) x25).put (some 26) x26).put (some 27) x27).put (some 28) x28).put (some 29) x29).put (some 6) x6).put (some 5) x5) ∧ ∃ sb v8 q9 c9, x5 = v8 ∧ x6 = .pointer (some ⟨sb, 0, none⟩) ∧ w'.ownsRow w3.heap.size 46 3 v8 m (flatI l0) ∧ w'.heap[sb]? = some (.cells #[.slice q9 n c9] 25 (0, 0)) ∧ w3.heap.size ≤ sb ∧ w'.ownsRow w3.heap.size 43 2 (.slice q9 n c9) n (flatP l1) ∧ (∀ k, v8.ownBlock = some k → ¬ k = sb) ∧ (∀ k j, v8.ownBlock = some k → (Value.slice q9 n c9).ownBlock = some j → ¬ k = j) ∧ (∀ j, (Value.slice q9 n c9).ownBlock = some j → ¬ j = sb) ∧ Chg NoB w3 w') ?_ ?_
  · skip
    go_region_held3 (fun w' => w'.cell? ⟨vb, 0, none⟩ = some (.slice q n c)) (first | with_reducible exact v3 | (refine Chg.keep (a := w3) ?_ v3; repeat (first | with_reducible exact Chg.refl NoB _ | with_reducible exact Hc9.out | with_reducible exact Hc8.out | refine Chg.drew ?_ | refine Chg.alloc ?_ _ | refine Chg.setCell ?_ (.inr ?_) _ | (dsimp only; have a_ := Hc8.out.size; have b_ := Hc9.out.size; omega)))) (first | (refine kstep_new (by rfl) _ w3 (.tmp 25) (.tmp 27) 23 (by rfl) 43 j0 (.agg #[.string ⟨#[]⟩, .string ⟨#[]⟩]) 2 32 Tryz.underlying23 Hj.out Zj0.out Zj1.out Zj2.out rfl (by decide) _ (by rfl) q n c (flatP l1) (by rfl) ?_ ?_ ?_ HqF.out HlF.out (flatP_one _) HmF.out HbF.out ?_; (focus repeat (first | with_reducible exact Chg.refl NoB _ | with_reducible exact Hc8.out | refine Chg.drew ?_ | refine Chg.alloc ?_ _)); (focus first | exact Nat.le_refl _ | omega | (have a_ := Hc8.out.size; omega)); (focus first | exact heap_alloc_new _ _ | (((repeat (first | simp only [kheap_get] | simp only [kdrew_get])); (repeat (first | simp only [ksize_alloc] | simp only [ksize_drew])); repeat' (first | rfl | (exfalso; omega) | split)); done) | (refine row_kept (w := w8) (show Chg NoB w8 _ from ?_) E8.out id; repeat (first | with_reducible exact Chg.refl NoB _ | with_reducible exact Hc8.out | refine Chg.drew ?_ | refine Chg.alloc ?_ _))); intro v9 w9 ho9 hc9 hz9 hr9 hp9 hk9; (repeat (first | simp only [ksize_drew] at hz9 | simp only [ksize_alloc] at hz9)); (repeat (first | simp only [ksize_drew] at hp9 | simp only [ksize_alloc] at hp9)); (obtain ⟨q9, c9, e9, -, -⟩ := row_shape ho9); subst e9; (try (refine kgive (P := w9.heap[w3.heap.size]? = some (.cells #[.slice none 0 0] 25 (0, 0))) ?_ ?_; (focus (refine hr9 _ _ ?_ ?_; (focus omega); (focus ((refine row_kept (w := w8) (show Chg NoB w8 _ from ?_) R8a.out id; repeat (first | with_reducible exact Chg.refl NoB _ | with_reducible exact Hc8.out | refine Chg.drew ?_ | refine Chg.alloc ?_ _)); done)))); intro r9a; have y9a := var1 r9a; have f9a := row_free r9a 0; have R9a := Lib.hid r9a; clear r9a)); (try (refine kgive (P := w9.heap[w3.heap.size + 1]? = some (.cells #[.slice none 0 0] 25 (0, 0))) ?_ ?_; (focus (refine hr9 _ _ ?_ ?_; (focus omega); (focus ((refine row_kept (w := w8) (show Chg NoB w8 _ from ?_) R8b.out id; repeat (first | with_reducible exact Chg.refl NoB _ | with_reducible exact Hc8.out | refine Chg.drew ?_ | refine Chg.alloc ?_ _)); done)))); intro r9b; have y9b := var1 r9b; have f9b := row_free r9b 0; have R9b := Lib.hid r9b; clear r9b)); (try (refine kgive (P := w9.heap[w3.heap.size + 2]? = some (.cells #[.slice none 0 0] 25 (0, 0))) ?_ ?_; (focus (refine hr9 _ _ ?_ ?_; (focus omega); (focus ((refine row_kept (w := w8) (show Chg NoB w8 _ from ?_) R8c.out id; repeat (first | with_reducible exact Chg.refl NoB _ | with_reducible exact Hc8.out | refine Chg.drew ?_ | refine Chg.alloc ?_ _)); done)))); intro r9c; have y9c := var1 r9c; have f9c := row_free r9c 0; have R9c := Lib.hid r9c; clear r9c)); (try (refine kgive (P := w9.heap[w8.heap.size]? = some (.cells #[.slice none 0 0] 25 (0, 0))) ?_ ?_; (focus (refine hr9 _ _ ?_ ?_; (focus omega); (focus (((repeat (first | simp only [kheap_get] | simp only [kdrew_get])); (repeat (first | simp only [ksize_alloc] | simp only [ksize_drew])); repeat' (first | rfl | (exfalso; omega) | split)); done)))); intro r9d; have y9d := var1 r9d; have f9d := row_free r9d 0; have R9d := Lib.hid r9d; clear r9d)); (try (refine kgive (P := w9.heap[w8.heap.size + 1]? = some (.cells #[.slice none 0 0] 25 (0, 0))) ?_ ?_; (focus (refine hr9 _ _ ?_ ?_; (focus omega); (focus (((repeat (first | simp only [kheap_get] | simp only [kdrew_get])); (repeat (first | simp only [ksize_alloc] | simp only [ksize_drew])); repeat' (first | rfl | (exfalso; omega) | split)); done)))); intro r9e; have y9e := var1 r9e; have f9e := row_free r9e 0; have R9e := Lib.hid r9e; clear r9e)); (refine kgive (P := w9.ownsRow w3.heap.size 46 3 v8 m (flatI l0)) ?_ ?_; (focus (refine hk9 _ _ _ _ _ _ (ownsRow_chg Ho8.out (show Chg NoB w8 _ from ?_) fun _ _ => id) ?_; (focus (repeat (first | with_reducible exact Chg.refl NoB _ | with_reducible exact Hc8.out | refine Chg.drew ?_ | refine Chg.alloc ?_ _))); (focus (intro k hk; have h_ := Hp8.out k hk; omega)))); intro hm9); have HM9 := Lib.hid hm9; have Ho9 := Lib.hid ho9; have Hc9 := Lib.hid hc9; have Hp9 := Lib.hid hp9; have Hz9 := Lib.hid hz9; clear ho9 hc9 hr9 hp9 hk9 hm9 hz9) | (refine kstep_new (by rfl) _ w3 (.tmp 22) (.tmp 23) 22 (by rfl) 46 i0 (.agg #[.int .i64 0, .int .i64 0, .string ⟨#[]⟩]) 3 32 Tryz.underlying22 Hi.out Zi0.out Zi1.out Zi2.out rfl (by decide) _ (by rfl) pq m pc (flatI l0) (by rfl) ?_ ?_ ?_ HqI.out HlI.out (flatI_one _) HmI.out HbI.out ?_; (focus repeat (first | with_reducible exact Chg.refl NoB _ | refine Chg.drew ?_ | refine Chg.alloc ?_ _)); (focus first | exact Nat.le_refl _ | omega); (focus first | exact heap_alloc_new _ _ | ((repeat (first | simp only [kheap_get] | simp only [kdrew_get])); (repeat (first | simp only [ksize_alloc] | simp only [ksize_drew])); repeat' (first | rfl | (exfalso; omega) | split))); intro v8 w8 ho8 hc8 hz8 hr8 hp8 hk8; (repeat (first | simp only [ksize_drew] at hz8 | simp only [ksize_alloc] at hz8)); (repeat (first | simp only [ksize_drew] at hp8 | simp only [ksize_alloc] at hp8)); (try (refine kgive (P := w8.heap[w3.heap.size]? = some (.cells #[.slice none 0 0] 25 (0, 0))) ?_ ?_; (focus (refine hr8 _ _ ?_ ?_; (focus omega); (focus (((repeat (first | simp only [kheap_get] | simp only [kdrew_get])); (repeat (first | simp only [ksize_alloc] | simp only [ksize_drew])); repeat' (first | rfl | (exfalso; omega) | split)); done)))); intro r8a; have y8a := var1 r8a; have f8a := row_free r8a 0; have R8a := Lib.hid r8a; clear r8a)); (try (refine kgive (P := w8.heap[w3.heap.size]? = some (.cells #[] 43 (0, 0))) ?_ ?_; (focus (refine hr8 _ _ ?_ ?_; (focus omega); (focus (((repeat (first | simp only [kheap_get] | simp only [kdrew_get])); (repeat (first | simp only [ksize_alloc] | simp only [ksize_drew])); repeat' (first | rfl | (exfalso; omega) | split)); done)))); intro e8a; have E8 := Lib.hid e8a; clear e8a)); (try (refine kgive (P := w8.heap[w3.heap.size + 1]? = some (.cells #[.slice none 0 0] 25 (0, 0))) ?_ ?_; (focus (refine hr8 _ _ ?_ ?_; (focus omega); (focus (((repeat (first | simp only [kheap_get] | simp only [kdrew_get])); (repeat (first | simp only [ksize_alloc] | simp only [ksize_drew])); repeat' (first | rfl | (exfalso; omega) | split)); done)))); intro r8b; have y8b := var1 r8b; have f8b := row_free r8b 0; have R8b := Lib.hid r8b; clear r8b)); (try (refine kgive (P := w8.heap[w3.heap.size + 1]? = some (.cells #[] 43 (0, 0))) ?_ ?_; (focus (refine hr8 _ _ ?_ ?_; (focus omega); (focus (((repeat (first | simp only [kheap_get] | simp only [kdrew_get])); (repeat (first | simp only [ksize_alloc] | simp only [ksize_drew])); repeat' (first | rfl | (exfalso; omega) | split)); done)))); intro e8b; have E8 := Lib.hid e8b; clear e8b)); (try (refine kgive (P := w8.heap[w3.heap.size + 2]? = some (.cells #[.slice none 0 0] 25 (0, 0))) ?_ ?_; (focus (refine hr8 _ _ ?_ ?_; (focus omega); (focus (((repeat (first | simp only [kheap_get] | simp only [kdrew_get])); (repeat (first | simp only [ksize_alloc] | simp only [ksize_drew])); repeat' (first | rfl | (exfalso; omega) | split)); done)))); intro r8c; have y8c := var1 r8c; have f8c := row_free r8c 0; have R8c := Lib.hid r8c; clear r8c)); (try (refine kgive (P := w8.heap[w3.heap.size + 2]? = some (.cells #[] 43 (0, 0))) ?_ ?_; (focus (refine hr8 _ _ ?_ ?_; (focus omega); (focus (((repeat (first | simp only [kheap_get] | simp only [kdrew_get])); (repeat (first | simp only [ksize_alloc] | simp only [ksize_drew])); repeat' (first | rfl | (exfalso; omega) | split)); done)))); intro e8c; have E8 := Lib.hid e8c; clear e8c)); have Ho8 := Lib.hid ho8; have Hc8 := Lib.hid hc8; have Hp8 := Lib.hid hp8; clear ho8 hc8 hr8 hp8 hk8))
    all_goals first
      | exact ⟨rfl, _, _, _, _, _, _, _, _, _, _, rfl, w9.heap.size, v8, q9, c9, rfl, rfl, ownsRow_chg HM9.out ((Chg.refl NoB w9).alloc _) (fun _ _ => id), heap_alloc_new _ _, Hc9.out.size, ownsRow_chg Ho9.out ((Chg.refl NoB w9).alloc _) (fun _ _ => id), (fun k hk e => by have h1 := Hp8.out k hk; have h2 := Hz9.out; have h3 := Hc8.out.size; omega), (fun k j hk hj e => by have h1 := Hp8.out k hk; have h2 := Hp9.out j hj; have h3 := Hc8.out.size; omega), (fun j hj e => by have h2 := Hp9.out j hj; have h1 := Hz9.out; have h3 := Hc8.out.size; omega), Hc9.out.alloc _⟩
      | exact ⟨rfl, _, _, _, _, _, _, _, _, _, _, rfl, w3.heap.size, v8, q9, c9, rfl, rfl, ownsRow_chg HM9.out ((Chg.refl (fun k => k = w3.heap.size) w9).setCell (p := ⟨w3.heap.size, 0, none⟩) (.inl rfl) _) (fun k hk e => by have h1 := Hp8.out k hk; have h2 := Hz9.out; have h3 := Hc8.out.size; omega), heap_set R9a.out (i := 0) _, (by have h3 := Hc8.out.size; omega), ownsRow_chg Ho9.out ((Chg.refl (fun k => k = w3.heap.size) w9).setCell (p := ⟨w3.heap.size, 0, none⟩) (.inl rfl) _) (fun j hj e => by have h2 := Hp9.out j hj; have h1 := Hz9.out; have h3 := Hc8.out.size; omega), (fun k hk e => by have h1 := Hp8.out k hk; have h2 := Hz9.out; have h3 := Hc8.out.size; omega), (fun k j hk hj e => by have h1 := Hp8.out k hk; have h2 := Hp9.out j hj; have h3 := Hc8.out.size; omega), (fun j hj e => by have h2 := Hp9.out j hj; have h1 := Hz9.out; have h3 := Hc8.out.size; omega), Hc9.out.setCell (p := ⟨w3.heap.size, 0, none⟩) (.inr (by show w3.heap.size ≤ w3.heap.size; have h3 := Hc8.out.size; omega)) _⟩
      | exact ⟨rfl, _, _, _, _, _, _, _, _, _, _, rfl, (w3.heap.size + 1), v8, q9, c9, rfl, rfl, ownsRow_chg HM9.out ((Chg.refl (fun k => k = (w3.heap.size + 1)) w9).setCell (p := ⟨(w3.heap.size + 1), 0, none⟩) (.inl rfl) _) (fun k hk e => by have h1 := Hp8.out k hk; have h2 := Hz9.out; have h3 := Hc8.out.size; omega), heap_set R9b.out (i := 0) _, (by have h3 := Hc8.out.size; omega), ownsRow_chg Ho9.out ((Chg.refl (fun k => k = (w3.heap.size + 1)) w9).setCell (p := ⟨(w3.heap.size + 1), 0, none⟩) (.inl rfl) _) (fun j hj e => by have h2 := Hp9.out j hj; have h1 := Hz9.out; have h3 := Hc8.out.size; omega), (fun k hk e => by have h1 := Hp8.out k hk; have h2 := Hz9.out; have h3 := Hc8.out.size; omega), (fun k j hk hj e => by have h1 := Hp8.out k hk; have h2 := Hp9.out j hj; have h3 := Hc8.out.size; omega), (fun j hj e => by have h2 := Hp9.out j hj; have h1 := Hz9.out; have h3 := Hc8.out.size; omega), Hc9.out.setCell (p := ⟨(w3.heap.size + 1), 0, none⟩) (.inr (by show w3.heap.size ≤ (w3.heap.size + 1); have h3 := Hc8.out.size; omega)) _⟩
      | exact ⟨rfl, _, _, _, _, _, _, _, _, _, _, rfl, (w3.heap.size + 1 + 1), v8, q9, c9, rfl, rfl, ownsRow_chg HM9.out ((Chg.refl (fun k => k = (w3.heap.size + 1 + 1)) w9).setCell (p := ⟨(w3.heap.size + 1 + 1), 0, none⟩) (.inl rfl) _) (fun k hk e => by have h1 := Hp8.out k hk; have h2 := Hz9.out; have h3 := Hc8.out.size; omega), heap_set R9c.out (i := 0) _, (by have h3 := Hc8.out.size; omega), ownsRow_chg Ho9.out ((Chg.refl (fun k => k = (w3.heap.size + 1 + 1)) w9).setCell (p := ⟨(w3.heap.size + 1 + 1), 0, none⟩) (.inl rfl) _) (fun j hj e => by have h2 := Hp9.out j hj; have h1 := Hz9.out; have h3 := Hc8.out.size; omega), (fun k hk e => by have h1 := Hp8.out k hk; have h2 := Hz9.out; have h3 := Hc8.out.size; omega), (fun k j hk hj e => by have h1 := Hp8.out k hk; have h2 := Hp9.out j hj; have h3 := Hc8.out.size; omega), (fun j hj e => by have h2 := Hp9.out j hj; have h1 := Hz9.out; have h3 := Hc8.out.size; omega), Hc9.out.setCell (p := ⟨(w3.heap.size + 1 + 1), 0, none⟩) (.inr (by show w3.heap.size ≤ (w3.heap.size + 1 + 1); have h3 := Hc8.out.size; omega)) _⟩
      | exact ⟨rfl, _, _, _, _, _, _, _, _, _, _, rfl, w8.heap.size, v8, q9, c9, rfl, rfl, ownsRow_chg HM9.out ((Chg.refl (fun k => k = w8.heap.size) w9).setCell (p := ⟨w8.heap.size, 0, none⟩) (.inl rfl) _) (fun k hk e => by have h1 := Hp8.out k hk; have h2 := Hz9.out; have h3 := Hc8.out.size; omega), heap_set R9d.out (i := 0) _, (by have h3 := Hc8.out.size; omega), ownsRow_chg Ho9.out ((Chg.refl (fun k => k = w8.heap.size) w9).setCell (p := ⟨w8.heap.size, 0, none⟩) (.inl rfl) _) (fun j hj e => by have h2 := Hp9.out j hj; have h1 := Hz9.out; have h3 := Hc8.out.size; omega), (fun k hk e => by have h1 := Hp8.out k hk; have h2 := Hz9.out; have h3 := Hc8.out.size; omega), (fun k j hk hj e => by have h1 := Hp8.out k hk; have h2 := Hp9.out j hj; have h3 := Hc8.out.size; omega), (fun j hj e => by have h2 := Hp9.out j hj; have h1 := Hz9.out; have h3 := Hc8.out.size; omega), Hc9.out.setCell (p := ⟨w8.heap.size, 0, none⟩) (.inr (by show w3.heap.size ≤ w8.heap.size; have h3 := Hc8.out.size; omega)) _⟩
      | exact ⟨rfl, _, _, _, _, _, _, _, _, _, _, rfl, (w8.heap.size + 1), v8, q9, c9, rfl, rfl, ownsRow_chg HM9.out ((Chg.refl (fun k => k = (w8.heap.size + 1)) w9).setCell (p := ⟨(w8.heap.size + 1), 0, none⟩) (.inl rfl) _) (fun k hk e => by have h1 := Hp8.out k hk; have h2 := Hz9.out; have h3 := Hc8.out.size; omega), heap_set R9e.out (i := 0) _, (by have h3 := Hc8.out.size; omega), ownsRow_chg Ho9.out ((Chg.refl (fun k => k = (w8.heap.size + 1)) w9).setCell (p := ⟨(w8.heap.size + 1), 0, none⟩) (.inl rfl) _) (fun j hj e => by have h2 := Hp9.out j hj; have h1 := Hz9.out; have h3 := Hc8.out.size; omega), (fun k hk e => by have h1 := Hp8.out k hk; have h2 := Hz9.out; have h3 := Hc8.out.size; omega), (fun k j hk hj e => by have h1 := Hp8.out k hk; have h2 := Hp9.out j hj; have h3 := Hc8.out.size; omega), (fun j hj e => by have h2 := Hp9.out j hj; have h1 := Hz9.out; have h3 := Hc8.out.size; omega), Hc9.out.setCell (p := ⟨(w8.heap.size + 1), 0, none⟩) (.inr (by show w3.heap.size ≤ (w8.heap.size + 1); have h3 := Hc8.out.size; omega)) _⟩
  · rintro a' w5 ⟨x22, x23, x24, x25, x26, x27, x28, x29, x6, x5, rfl, sb, v8, q9, c9, rfl, rfl, hm5, hs5, hsb, hf5, s1, s2, s3, hc5⟩
    obtain ⟨q8, c8, rfl, k1, k2⟩ := row_shape hm5
    obtain ⟨-, -, -, k3, k4⟩ : ∃ a b, (Value.slice q9 n c9 = .slice a n b) ∧ n ≤ c9 ∧ c9 ≤ maxLen := by
      obtain ⟨a, b, e, h1, h2⟩ := row_shape hf5
      cases e
      exact ⟨_, _, rfl, h1, h2⟩
    obtain ⟨gm, Nm, hgm, hNm⟩ := krow_of hm5 HlI.out
    obtain ⟨gs, Ns, hgs, hNs⟩ := krow_of hf5 HlF.out
    have Hgmb := Lib.hid (show 0 < m → w3.heap.size ≤ gm ∧ gm < w5.heap.size ∧ ¬ gm = sb from fun h => by
      have e : (Value.slice q8 m c8).ownBlock = some gm := by rw [(hgm h).1]; rfl
      exact ⟨(World.ownsRow.lt hm5 gm e).1, (World.ownsRow.lt hm5 gm e).2, s1 gm e⟩)
    have Hgsb := Lib.hid (show 0 < n → w3.heap.size ≤ gs ∧ gs < w5.heap.size ∧ ¬ gs = sb from fun h => by
      have e : (Value.slice q9 n c9).ownBlock = some gs := by rw [(hgs h).1]; rfl
      exact ⟨(World.ownsRow.lt hf5 gs e).1, (World.ownsRow.lt hf5 gs e).2, s3 gs e⟩)
    have Hgg := Lib.hid (show 0 < m → 0 < n → ¬ gm = gs from fun h h' => s2 gm gs (by rw [(hgm h).1]; rfl) (by rw [(hgs h').1]; rfl))
    have Hgm := Lib.hid hgm
    have Hgs := Lib.hid hgs
    have HNm := Lib.hid hNm
    have HNs := Lib.hid hNs
    obtain ⟨kbm, hpm5⟩ := InsS.of_row (show w5.ownsRow w3.heap.size 46 3 (.slice q8 m c8) l0.length (flatI l0) by rw [← Hpm.out]; exact hm5) (fun i hi => Hwf.out _ (List.getElem_mem hi))
    obtain ⟨kbf, hpf5⟩ := InpS.of_row (show w5.ownsRow w3.heap.size 43 2 (.slice q9 n c9) l1.length (flatP l1) by rw [← Hvn.out]; exact hf5)
    have HW5 := Lib.hid (Hc3.out.trans hc5)
    have HN := Lib.hid (vnew_any l0 l1 _ _ _ _ kbm 0 kbf 0 W.heap.size w5 (Hwd.out.keep HW5.out) (ml_keep Hml.out HW5.out) (by have := Hsm.out.plen; omega) (by have := Hsm.out.vlen; omega) (fun x hx => by have := Hsm.out.files x hx; omega) hpm5 hpf5)
    have Hpm5 := Lib.hid hpm5
    have Hpf5 := Lib.hid hpf5
    have Hs5 := Lib.hid hs5
    have Hsb := Lib.hid (And.intro hsb (lt_of_block hs5))
    have Hd5 := Lib.hid hc5
    have b0 := var1 hs5
    have v5 := hc5.keep v3
    obtain ⟨y, hy⟩ : ∃ z, z = newF l0 l1 := ⟨_, rfl⟩
    rw [← hy] at HN
    have Hy := Lib.hid hy
    unfold maxLen at k2 k4
    have hmi : (m : Int) ≤ (c8 : Int) := by omega
    have hni : (n : Int) ≤ (c9 : Int) := by omega
    clear hm5 hs5 hsb hf5 s1 s2 s3 hc5 hgm hgs hNm hNs hpm5 hpf5 hy v0 v3
    go_simp
    go_wp2_with fail
    refine HN.out.mono ?_
    intro e w6 hn
    obtain ⟨hc6, mp, rfl, hmp⟩ := knew hn
    have Hc6 := Lib.hid hc6
    have Hmp := Lib.hid hmp
    have Hd6 := Lib.hid (Hd5.out.trans hc6)
    have HI := Lib.hid (isame_any l0 l0 _ _ _ _ kbm 0 kb0 ko0 w6 (Hpm5.out.keep hc6 fun _ _ => id) (Hp.out.keep (Hc3.out.trans Hd6.out) fun _ _ => id) (by have := Hsm.out.plen; omega))
    replace b0 := hc6.keep b0
    replace v5 := hc6.keep v5
    clear hc6 hmp hn HN
    go_wp2_with fail
    refine HI.out.mono ?_
    rintro e w7 ⟨⟨b, rfl, hb⟩, hc7⟩
    obtain rfl : b = true := hb.2 rfl
    have Hc7 := Lib.hid (Hc6.out.trans hc7)
    have Hd7 := Lib.hid (Hd6.out.trans hc7)
    have HF := Lib.hid (rsame_any l1 l1 _ _ _ _ kbf 0 kb1 ko1 w7 (by have := Hsm.out.vlen; omega) (by have := Hsm.out.vlen; omega) (Hpf5.out.keep Hc7.out fun _ _ => id) (Hv.out.keep (Hc3.out.trans Hd7.out) fun _ _ => id))
    rw [decide_eq_true rfl] at HF
    replace b0 := hc7.keep b0
    replace v5 := hc7.keep v5
    have Hc67 := Lib.hid hc7
    clear hc7 hb HI
    go_wp2_with fail
    refine HF.out.mono ?_
    rintro e w8 ⟨rfl, hc8⟩
    have Hc8 := Lib.hid (Hc7.out.trans hc8)
    have Hd8 := Lib.hid (Hd7.out.trans hc8)
    have Hc68 := Lib.hid (Hc67.out.trans hc8)
    replace b0 := hc8.keep b0
    replace v5 := hc8.keep v5
    have Hb8 := Lib.hid b0
    have Hv8 := Lib.hid v5
    clear hc8 HF
    go_wp2_with fail
    go_loopw [48] (fun i wr => ∃ k : Nat, k ≤ m ∧ i = .int .i64 k ∧ (0 < m → KRow wr gm Nm 46) ∧ Chg (fun y => 0 < m ∧ y = gm) w8 wr) (fun i _ => m - (intOf i).toNat)
    case atStart => exact ⟨0, Nat.zero_le _, rfl, fun h => ((Hgm.out h).2.keep Hc8.out id), Chg.refl _ _⟩
    case round =>
      obtain ⟨k, hk, rfl, hkr, hch⟩ := hrel
      have Hkr := Lib.hid hkr
      have Hch := Lib.hid hch
      clear hkr hch b0 v5
      by_cases hlt : k < m
      · have hm0 : 0 < m := by omega
        obtain ⟨hq8, -⟩ := Hgm.out hm0
        subst hq8
        have hN := HNm.out
        obtain ⟨z0, e0⟩ := (Hkr.out hm0).cell (k * 3) (by omega)
        obtain ⟨z1, e1⟩ := (Hkr.out hm0).cell (k * 3 + 1) (by omega)
        obtain ⟨z2, e2⟩ := (Hkr.out hm0).cell (k * 3 + 2) (by omega)
        have fr := (Hkr.out hm0).free
        have f1 : (wr.setCell ⟨gm, k * 3, none⟩ (.int .i64 0)).cell? ⟨gm, k * 3 + 1, none⟩ = _ := (kcell_ne _ (by omega)).trans e1
        have f2 : ((wr.setCell ⟨gm, k * 3, none⟩ (.int .i64 0)).setCell ⟨gm, k * 3 + 1, none⟩ (.int .i64 0)).cell? ⟨gm, k * 3 + 2, none⟩ = _ := (kcell_ne _ (by omega)).trans ((kcell_ne _ (by omega)).trans e2)
        have Hset := Lib.hid ((((Hkr.out hm0).set (k * 3) (.int .i64 0)).set (k * 3 + 1) (.int .i64 0)).set (k * 3 + 2) (.string ⟨#[]⟩))
        have Hsc := Lib.hid ((((Chg.refl (fun y => 0 < m ∧ y = gm) wr).setCell (p := ⟨gm, k * 3, none⟩) (.inl ⟨hm0, rfl⟩) (.int .i64 0)).setCell (p := ⟨gm, k * 3 + 1, none⟩) (.inl ⟨hm0, rfl⟩) (.int .i64 0)).setCell (p := ⟨gm, k * 3 + 2, none⟩) (.inl ⟨hm0, rfl⟩) (.string ⟨#[]⟩))
        have hki : (k : Int) < (m : Int) := by omega
        have hk0 : (0 : Int) ≤ (k : Int) := by omega
        clear hN
        go_wp2_with fail
        go_roundw
        case rel => exact ⟨k + 1, by omega, by go_num, fun _ => Hset.out, Hch.out.trans Hsc.out⟩
        case measure => simp [intOf]; omega
      · obtain rfl : k = m := by omega
        obtain ⟨w9, rfl⟩ : ∃ w, w = wr := ⟨_, rfl⟩
        have b0 := Hch.out.cell Hb8.out fun e => (Hgmb.out e.1).2.2 e.2.symm
        have v5 := Hch.out.cell Hv8.out fun e => by have h1 := (Hgmb.out e.1).1; have h2 := lt_of_block Hb3.out; have h3 : vb = gm := e.2; omega
        have Hd9 := Lib.hid (Hd8.out.transR Hch.out fun j hj e => by show False; have h1 := (Hgmb.out e.1).1; have h2 : j = gm := e.2; omega)
        have HcK9 := Lib.hid (((Hc68.out.mono fun _ _ h => h.elim : Chg (fun y => (0 < k ∧ y = gm) ∨ (0 < n ∧ y = gs)) w6 w8)).trans (Hch.out.mono fun j _ e => .inl e))
        have HK9 := Lib.hid (show 0 < n → KRow w9 gs Ns 43 from fun h => (((Hgs.out h).2.keep Hc8.out id).keep Hch.out fun e => Hgg.out e.1 h e.2.symm))
        have Hb9 := Lib.hid b0
        have Hv9 := Lib.hid v5
        clear hlt hk
        go_wp2_with fail
        go_loopw [59] (fun i wr => ∃ k2 : Nat, k2 ≤ n ∧ i = .int .i64 k2 ∧ (0 < n → KRow wr gs Ns 43) ∧ Chg (fun y => 0 < n ∧ y = gs) w9 wr) (fun i _ => n - (intOf i).toNat)
        case atStart => exact ⟨0, Nat.zero_le _, rfl, HK9.out, Chg.refl _ _⟩
        case round =>
          obtain ⟨k2, hk2, rfl, hkr, hch⟩ := hrel
          have b0 := hch.cell Hb9.out fun e => (Hgsb.out e.1).2.2 e.2.symm
          have Hkr2 := Lib.hid hkr
          have Hch2 := Lib.hid hch
          clear hkr hch v5
          by_cases hlt : k2 < n
          · have hn0 : 0 < n := by omega
            obtain ⟨hq9, -⟩ := Hgs.out hn0
            subst hq9
            have hN := HNs.out
            obtain ⟨z0, e0⟩ := (Hkr2.out hn0).cell (k2 * 2) (by omega)
            obtain ⟨z1, e1⟩ := (Hkr2.out hn0).cell (k2 * 2 + 1) (by omega)
            have fr := (Hkr2.out hn0).free
            have f1 : (wr.setCell ⟨gs, k2 * 2, none⟩ (.string ⟨#[]⟩)).cell? ⟨gs, k2 * 2 + 1, none⟩ = _ := (kcell_ne _ (by omega)).trans e1
            have Hset := Lib.hid (((Hkr2.out hn0).set (k2 * 2) (.string ⟨#[]⟩)).set (k2 * 2 + 1) (.string ⟨#[]⟩))
            have Hsc := Lib.hid (((Chg.refl (fun y => 0 < n ∧ y = gs) wr).setCell (p := ⟨gs, k2 * 2, none⟩) (.inl ⟨hn0, rfl⟩) (.string ⟨#[]⟩)).setCell (p := ⟨gs, k2 * 2 + 1, none⟩) (.inl ⟨hn0, rfl⟩) (.string ⟨#[]⟩))
            have hki : (k2 : Int) < (n : Int) := by omega
            have hk0 : (0 : Int) ≤ (k2 : Int) := by omega
            clear hN
            go_wp2_with fail
            go_roundw
            case rel => exact ⟨k2 + 1, by omega, by go_num, fun _ => Hset.out, Hch2.out.trans Hsc.out⟩
            case measure => simp [intOf]; omega
          · obtain rfl : k2 = n := by omega
            obtain ⟨w10, rfl⟩ : ∃ w, w = wr := ⟨_, rfl⟩
            have v5 := Hch2.out.cell Hv9.out fun e => by have h1 := (Hgsb.out e.1).1; have h2 := lt_of_block Hb3.out; have h3 : vb = gs := e.2; omega
            have Hd10 := Lib.hid (Hd9.out.transR Hch2.out fun j hj e => by show False; have h1 := (Hgsb.out e.1).1; have h2 : j = gs := e.2; omega)
            have HcK10 := Lib.hid (HcK9.out.trans (Hch2.out.mono fun j _ e => .inr e))
            have Hmb10 := Lib.hid (show w6.heap.size ≤ w10.heap.size from HcK10.out.size)
            have HW10 := Lib.hid (Hc3.out.trans Hd10.out)
            have HRt := Lib.hid (HRR.out w10 HW10.out)
            clear hlt hk2 b0
            go_wp2_with fail
            refine HRt.out.mono ?_
            intro e w11 hr
            obtain ⟨hc11, q11, k11, c11, kb11, ko11, hk11, rfl, hs11⟩ := hr.val
            obtain ⟨f1, f2, -, -⟩ := run_facts (view := l1) Hwf.out
            have hgz := good_sizes f1
            obtain ⟨d, hd⟩ : ∃ z, z = runL l0 l1 := ⟨_, rfl⟩
            obtain ⟨sn, hsn⟩ : ∃ z, z = runN l0 l1 := ⟨_, rfl⟩
            obtain ⟨sy, hsy⟩ : ∃ z, z = runE l0 l1 := ⟨_, rfl⟩
            rw [← hd] at hk11 hs11 hgz
            rw [← hsn, ← hsy]
            have Hs11 := Lib.hid hs11
            have Hd := Lib.hid hd
            have Hsy := Lib.hid hsy
            have Hgz := Lib.hid hgz.1
            have HcK11 := Lib.hid (HcK10.out.trans (hc11.mono fun _ _ h => h.elim))
            have HW11 := Lib.hid (HW10.out.trans hc11)
            have Hz11 := Lib.hid hc11.size
            clear hc11 hs11 hk11 f1 f2 hr HRt v5 hgz hd hsy
            have hal_ := (Chg.refl NoB w11).alloc (.cells #[.slice q11 k11 c11] 25)
            have hb_ := heap_alloc_new w11 (.cells #[.slice q11 k11 c11] 25)
            obtain ⟨tb, hxb_⟩ : ∃ b, b = w11.heap.size := ⟨_, rfl⟩
            obtain ⟨w12, hw_⟩ : ∃ w_, w11.alloc (.cells #[.slice q11 k11 c11] 25) = w_ := ⟨_, rfl⟩
            have hz_ : w12.heap.size = tb + 1 := by rw [← hw_, hxb_]; exact alloc_size _ _
            rw [hw_] at hal_ hb_
            rw [← hxb_] at hb_
            have Hw12 := Lib.hid hw_
            have Hx12 := Lib.hid hxb_
            have Ha12 := Lib.hid hal_
            have Hb12 := Lib.hid hb_
            have Hz12 := Lib.hid hz_
            clear hal_ hb_ hxb_ hw_ hz_
            have HcK12 := Lib.hid (HcK11.out.trans (Ha12.out.mono fun _ _ h => h.elim))
            have HW12 := Lib.hid (HW11.out.trans Ha12.out)
            have t0 := var1 Hb12.out
            go_upto_region 20 with fail
            rw [Hw12.out, ← Hx12.out]
            rcases Hmp.out with ⟨hy, mb, pq6, pc6, vq6, vc6, jb, lb, rfl, hmb, hM, hp6, hv6⟩ | ⟨hy, rfl⟩
            rotate_left
            · have e2 : sy = y := by rw [Hsy.out]; unfold runE; rw [← Hy.out, if_neg hy]
              subst e2
              have hy2 : (sy != 0) = true := by rw [bne_iff_ne]; exact hy
              clear hy
              go_wp2_with fail
              go_ret
              exact ⟨rfl, HW12.out⟩
            subst hy
            have hnew : newF l0 l1 = 0 := Hy.out.symm
            have hr := run_ran Hwf.out hnew
            obtain ⟨hck, hgv⟩ := newF_ok hnew
            obtain ⟨hp1, hp2, hpw⟩ := check_wfi Hwf.out hck
            have HSm := Lib.hid (show ∀ j, j < w6.heap.size → w5.heap.size ≤ j → ¬ ((0 < k ∧ j = gm) ∨ (0 < k2 ∧ j = gs)) from fun j _ hj e => by
              rcases e with e | e
              · have h1 := (Hgmb.out e.1).2.1; have h2 := e.2; omega
              · have h1 := (Hgsb.out e.1).2.1; have h2 := e.2; omega)
            have hmb6 : mb < w6.heap.size := by have := hM.lo; omega
            have hM12 := kmach hM HcK12.out (HSm.out mb hmb6 hmb)
            have HS := steps_any (m0 := mm0) 5000 hM12 (mm0_wf hp1) ((hp6.move HcK12.out (S' := fun k => k < mb) fun j hj hs => ⟨HSm.out j hj hs.1, hs.2⟩)) hpw hp2 (hv6.move HcK12.out (S' := fun k => k < mb) fun j hj hs => ⟨HSm.out j hj hs.1, hs.2⟩) hgv W.heap.size (Hlb.out.keep HW12.out) (by have := HW5.out.size; omega)
            rw [kgo Hwf.out hnew] at HS
            have HN : Hid (resF (runM l0 l1) = (d, sy)) := Lib.hid (by rw [Hd.out, Hsy.out]; unfold runL runE; rw [if_pos hnew, if_pos hnew])
            have HRes := Lib.hid (show ∀ (w' : World) (F : Value × Value), Mach w' (mb + 1) mb (.slice pq6 l0.length pc6) (.slice vq6 l1.length vc6) (runM l0 l1).s (runM l0 l1).steps (runM l0 l1).fault F → Calls Tryz.prog 21 #[.pointer (some ⟨mb, 0, none⟩)] w' (ResP d sy w') from fun w' F hmm => by
              have h := result_any (m := runM l0 l1) hmm (by have := (good_sizes hr.wf.s.out).1; omega)
              rw [HN.out] at h
              exact h)
            have HS' := Lib.hid HS
            have Hmb := Lib.hid (show w5.heap.size ≤ mb ∧ w6.heap.size ≤ w10.heap.size ∧ mb < w6.heap.size ∧ w10.heap.size ≤ w11.heap.size ∧ w11.heap.size ≤ w12.heap.size from ⟨hmb, Hmb10.out, hmb6, Hz11.out, Ha12.out.size⟩)
            clear hM hp6 hv6 hM12 HS hr hck hgv hp1 hp2 hpw hmb6 hnew hmb
            go_wp2_with fail
            refine HS'.out.mono ?_
            rintro e w13 ⟨rfl, F13, hs13, hm13⟩
            have HC13 := Lib.hid (show Chg (fun j => j = mb) w12 w13 from hs13.chg.mono fun j _ e => e.elim id fun e => by rcases e with e | e <;> cases e)
            have HW13 := Lib.hid (HW12.out.transR HC13.out fun j hj e => by show False; have h1 : j = mb := e; have := Hmb.out; have := HW5.out.size; omega)
            have Hm13 := Lib.hid hm13
            have HR13 := Lib.hid (HRes.out w13 F13 hm13)
            have Hb13 := Lib.hid (row_kept HC13.out Hb12.out fun e => by have h1 : tb = mb := e; have := Hmb.out; have := Hx12.out; omega)
            have Hs13 := Lib.hid ((Hs11.out.keep Ha12.out fun _ _ => id).keep HC13.out fun j hj e => by have h1 : j = mb := e; have h2 := hj.1; have := Hmb.out; omega)
            clear hs13 hm13 HS' t0
            go_wp2_with fail
            refine HR13.out.mono ?_
            rintro e w14 ⟨hc14, v14, rfl, hr14⟩
            obtain ⟨q14, c14, rfl, j1, j2⟩ := row_shape hr14
            obtain ⟨on, hon⟩ : ∃ z, z = d.length := ⟨_, rfl⟩
            rw [← hon] at hr14 j1 ⊢
            obtain ⟨gu, Nu, hgu, hNu⟩ := krow_of hr14 (show (flatP d).length = on * 2 by rw [flatP_len, ← hon])
            obtain ⟨ib, hi14⟩ := InpS.of_row (show w14.ownsRow w13.heap.size 43 2 (.slice q14 on c14) d.length (flatP d) by rw [← hon]; exact hr14)
            have Hgub := Lib.hid (show 0 < on → w13.heap.size ≤ gu ∧ gu < w14.heap.size from fun h => World.ownsRow.lt hr14 gu (by rw [(hgu h).1]; rfl))
            have Hgu := Lib.hid hgu
            have HNu := Lib.hid hNu
            have Hi14 := Lib.hid hi14
            have Hc14 := Lib.hid hc14
            have Hon := Lib.hid hon
            have Hb14 := Lib.hid (row_kept hc14 Hb13.out id)
            have Hs14 := Lib.hid (Hs13.out.keep hc14 fun _ _ => id)
            have HW14 := Lib.hid (HW13.out.trans hc14)
            unfold maxLen at j2
            have hni2 : (on : Int) ≤ (c14 : Int) := by omega
            clear hr14 hgu hNu hi14 hc14 hon HR13
            have hal_ := (Chg.refl NoB w14).alloc (.cells #[.slice q14 on c14] 25)
            have hb_ := heap_alloc_new w14 (.cells #[.slice q14 on c14] 25)
            obtain ⟨ub, hxb_⟩ : ∃ b, b = w14.heap.size := ⟨_, rfl⟩
            obtain ⟨w15, hw_⟩ : ∃ w_, w14.alloc (.cells #[.slice q14 on c14] 25) = w_ := ⟨_, rfl⟩
            have hz_ : w15.heap.size = ub + 1 := by rw [← hw_, hxb_]; exact alloc_size _ _
            rw [hw_] at hal_ hb_
            rw [← hxb_] at hb_
            have Hw15 := Lib.hid hw_
            have Hx15 := Lib.hid hxb_
            have Ha15 := Lib.hid hal_
            have Hb15 := Lib.hid hb_
            have Hz15 := Lib.hid hz_
            clear hal_ hb_ hxb_ hw_ hz_
            have Hb125 := Lib.hid (row_kept Ha15.out Hb14.out id)
            have t0 := var1 Hb125.out
            have u0 := var1 Hb15.out
            have Hs15 := Lib.hid (Hs14.out.keep Ha15.out fun _ _ => id)
            have HW15 := Lib.hid (HW14.out.trans Ha15.out)
            have Hub := Lib.hid (show w14.heap.size = ub from Hx15.out.symm)
            have HSa := Lib.hid (rsame_any d d _ _ _ _ _ _ _ _ w15 (by have := Hgz.out; omega) (by have := Hgz.out; omega) Hs15.out (Hi14.out.keep Ha15.out fun _ _ => id))
            rw [decide_eq_true rfl] at HSa
            go_upto_region 24 with fail
            rw [Hw15.out, ← Hx15.out]
            go_wp2_with fail
            refine HSa.out.mono ?_
            rintro e w16 ⟨rfl, hc16⟩
            have Hb126 := Lib.hid (row_kept hc16 Hb125.out id)
            have Hbu16 := Lib.hid (row_kept hc16 Hb15.out id)
            have Hs16 := Lib.hid (Hs15.out.keep hc16 fun _ _ => id)
            have HW16 := Lib.hid (HW15.out.trans hc16)
            have Hc146 := Lib.hid (Ha15.out.trans hc16)
            clear hc16 t0 u0 HSa
            have u0 := var1 Hbu16.out
            go_wp2_with fail
            go_loopw [103] (fun i wr => ∃ k3 : Nat, k3 ≤ on ∧ i = .int .i64 k3 ∧ (0 < on → KRow wr gu Nu 43) ∧ Chg (fun y => 0 < on ∧ y = gu) w16 wr) (fun i _ => on - (intOf i).toNat)
            case atStart => exact ⟨0, Nat.zero_le _, rfl, fun h => (Hgu.out h).2.keep Hc146.out id, Chg.refl _ _⟩
            case round =>
              obtain ⟨k3, hk3, rfl, hkr, hch⟩ := hrel
              have u0 := hch.cell (var1 Hbu16.out) fun e => by have h1 := (Hgub.out e.1).2; have h2 : ub = gu := e.2; have := Hub.out; omega
              have Hkr3 := Lib.hid hkr
              have Hch3 := Lib.hid hch
              clear hkr hch
              by_cases hlt : k3 < on
              · have ho0 : 0 < on := by omega
                obtain ⟨hq14, -⟩ := Hgu.out ho0
                subst hq14
                have hN := HNu.out
                obtain ⟨z0, e0⟩ := (Hkr3.out ho0).cell (k3 * 2) (by omega)
                obtain ⟨z1, e1⟩ := (Hkr3.out ho0).cell (k3 * 2 + 1) (by omega)
                have fr := (Hkr3.out ho0).free
                have f1 : (wr.setCell ⟨gu, k3 * 2, none⟩ (.string ⟨#[]⟩)).cell? ⟨gu, k3 * 2 + 1, none⟩ = _ := (kcell_ne _ (by omega)).trans e1
                have Hset := Lib.hid (((Hkr3.out ho0).set (k3 * 2) (.string ⟨#[]⟩)).set (k3 * 2 + 1) (.string ⟨#[]⟩))
                have Hsc := Lib.hid (((Chg.refl (fun y => 0 < on ∧ y = gu) wr).setCell (p := ⟨gu, k3 * 2, none⟩) (.inl ⟨ho0, rfl⟩) (.string ⟨#[]⟩)).setCell (p := ⟨gu, k3 * 2 + 1, none⟩) (.inl ⟨ho0, rfl⟩) (.string ⟨#[]⟩))
                have hki : (k3 : Int) < (on : Int) := by omega
                have hk0 : (0 : Int) ≤ (k3 : Int) := by omega
                clear hN
                go_wp2_with fail
                go_roundw
                case rel => exact ⟨k3 + 1, by omega, by go_num, fun _ => Hset.out, Hch3.out.trans Hsc.out⟩
                case measure => simp [intOf]; omega
              · obtain rfl : k3 = on := by omega
                obtain ⟨w17, rfl⟩ : ∃ w, w = wr := ⟨_, rfl⟩
                have Hc37 := Lib.hid (show Chg NoB w13 w17 from (Hc14.out.trans Hc146.out).transR Hch3.out fun j hj e => by show False; have h1 := (Hgub.out e.1).1; have h2 : j = gu := e.2; omega)
                have HW17 := Lib.hid (HW13.out.trans Hc37.out)
                have hbt := row_kept Hch3.out Hb126.out fun e => by have h1 := (Hgub.out e.1).1; have h2 : tb = gu := e.2; have := lt_of_block Hb13.out; omega
                have hbu := row_kept Hch3.out Hbu16.out fun e => by have h1 := (Hgub.out e.1).2; have h2 : ub = gu := e.2; have := Hub.out; omega
                have Hs17 := Lib.hid (Hs16.out.keep Hch3.out fun j hj e => by have h1 := (Hgub.out e.1).1; have h2 : j = gu := e.2; have h3 := hj.2; have h4 := HC13.out.size; have h5 := Hmb.out; omega)
                have HR17 := Lib.hid (HRes.out w17 F13 (Hm13.out.keep Hc37.out))
                have Hbt := Lib.hid hbt
                have Hbu := Lib.hid hbu
                clear hlt hk3 u0 hbt hbu
                go_wp2_with fail
                refine HR17.out.mono ?_
                rintro e w18 ⟨hc18, v18, rfl, hr18⟩
                rw [← Hon.out] at hr18
                obtain ⟨q18, c18, rfl, i1, i2⟩ := row_shape hr18
                obtain ⟨ib2, hi18⟩ := InpS.of_row (show w18.ownsRow w17.heap.size 43 2 (.slice q18 k3 c18) d.length (flatP d) by rw [← Hon.out]; exact hr18)
                have hbt18 := row_kept hc18 Hbt.out id
                have hbu18 := row_kept hc18 Hbu.out id
                have u0 := var1 hbu18
                have f0 := row_free hbu18 0
                obtain ⟨w19, hw19⟩ : ∃ z, z = w18.setCell ⟨ub, 0, none⟩ (.slice q18 k3 c18) := ⟨_, rfl⟩
                have hc19 : Chg (fun j => j = ub) w18 w19 := by rw [hw19]; exact (Chg.refl (fun j => j = ub) w18).setCell (p := ⟨ub, 0, none⟩) (.inl rfl) _
                have hbu19 : w19.heap[ub]? = some (.cells #[.slice q18 k3 c18] 25 (0, 0)) := by rw [hw19]; exact heap_set hbu18 (i := 0) _
                have hbt19 := row_kept hc19 hbt18 fun e => by have h1 : tb = ub := e; have h2 := lt_of_block Hb14.out; have := Hub.out; omega
                have hsT := (Hs17.out.keep hc18 fun _ _ => id).keep hc19 fun j hj e => by have h1 : j = ub := e; have h3 := hj.2; have h4 := HC13.out.size; have h5 := Hmb.out; have h6 := Hub.out; have h7 := Hc14.out.size; omega
                have hsU := hi18.keep hc19 fun j hj e => by have h1 : j = ub := e; have h2 := hj.1; have h3 := lt_of_block Hbu.out; omega
                have HSb := Lib.hid (rsame_any d d _ _ _ _ _ _ _ _ w19 (by have := Hgz.out; omega) (by have := Hgz.out; omega) hsT hsU)
                rw [decide_eq_true rfl] at HSb
                have HW19 := Lib.hid ((HW17.out.trans hc18).transR hc19 fun j hj e => by show False; have h1 : j = ub := e; have h2 := Hub.out; have h3 := HW14.out.size; omega)
                have Hw19 := Lib.hid hw19
                have Hbt19 := Lib.hid hbt19
                have Hbu19 := Lib.hid hbu19
                clear hr18 hi18 hbt18 hbu18 hw19 hc19 hbu19 hbt19 hsT hsU hc18 HR17
                go_upto_region 32 with fail
                rw [← Hw19.out]
                clear u0 f0
                have t0 := var1 Hbt19.out
                have u0 := var1 Hbu19.out
                go_wp2_with fail
                refine HSb.out.mono ?_
                rintro e w20 ⟨rfl, hc20⟩
                have HW20 := Lib.hid (HW19.out.trans hc20)
                clear hc20 t0 u0
                go_wp2_with fail
                go_ret
                exact ⟨rfl, HW20.out⟩
/-FRAME-/
set_option maxRecDepth 100000 in
theorem vmKeeps_lifted (os : Os) (started : os.Started) (H : Type) (enc : TypeId × Value → H) :
    ReturnsInHanded {} Tryz.checked os 8 .any (fun w args => (Rows.vmKeepsSpec.pre enc Tryz.prog Tryz.f8 [] false w args ∧ laidMetH Tryz.prog Rows.vmKeepsRow.laid w) ∧ sizedMet enc Tryz.prog Tryz.f8 (OpenSpec.ofChange Rows.vmKeepsSpec) false w args)
      (Rows.vmKeepsSpec.post enc Tryz.prog Tryz.f8 false true false false) := by
  refine returns_both (C := Tryz.checked) (X := fun w _ => laidMetH Tryz.prog Rows.vmKeepsRow.laid w) (fun _ _ _ hh h => h.of_heap hh) Tryz.own started (by kernel_rfl) Tryz.func8
    (ChangeSpec.witness_shaped (enc := enc) (C := Tryz.checked) (os := os) (X := fun w _ => laidMetH Tryz.prog Rows.vmKeepsRow.laid w) false (World.laidAll Tryz.prog os Rows.vmKeepsRow.laid) #[.slice none 0 0, .agg #[.slice none 0 0]] 8 (World.laidAll_os _ _ _)
      (World.shaped_of_ZipB (by kernel_rfl) (by kernel_rfl)) (by kernel_rfl) (by kernel_rfl) (by kernel_rfl)
      (by rw [MakeChecks.laidMetH_plain _ _ _ (by kernel_rfl)]; exact laidMet_laidAll _ (by kernel_rfl) (by kernel_rfl))) ?_
  intro W base args ds gs before hval0 hW _ hsz hL hsh _
  have hval : ∀ (j : Nat) t v, Tryz.f8.params[j]? = some t → args[j]? = some v → Value.okWide Tryz.prog W .any base t v := hval0
  have hW' := hW
  obtain ⟨p, q, hA0, hV, rfl, _, _⟩ := hW
  have hA : DataW.TrodAll enc Tryz.prog W 0 (fun _ => true) true Tryz.f8.params.toList args.toList ds p := hA0
  have hsz1 : (DataW.weightsEach Tryz.prog (Tryz.f8.params.toList ++ Rows.vmKeepsSpec.plain.varTypes Tryz.prog) (ds ++ gs)).all (· ≤ reachBytes) = true := hsz
  rw [Tryz.params8] at hA hval hsz1
  obtain ⟨v0, v1, d0, d1, p0, p1, rfl, rfl, rfl, h0, h1⟩ := trodAll_two hA
  obtain ⟨rfl, rfl⟩ := trodVars_none hV
  obtain ⟨l0, kb0, ko0, hn0⟩ := open_inss (hval 0 22 v0 rfl rfl) h0 (fun m hm => of_decide_eq_true (List.all_eq_true.1 hsz1 m (DataW.weights_mem_each (j := 0) (t := 22) (d := d0) rfl rfl m hm)))
  obtain ⟨l1, c1, kb1, ko1, rfl, hn1, hr1⟩ := open_tree (hval 1 25 v1 rfl rfl) h1 (fun m hm => of_decide_eq_true (List.all_eq_true.1 hsz1 m (DataW.weights_mem_each (j := 1) (t := 25) (d := d1) rfl rfl m hm)))
  simp only [List.append_nil] at hW'
  rw [MakeChecks.laidMetH_plain _ _ _ (by kernel_rfl)] at hL
  have hml : Pth.Ml W := wml_of hsh
  obtain ⟨hlb, hwd⟩ := lb8_of hL hsh
  clear hA0 hval0
  refine (vmKeeps_all l0 _ kb0 ko0 l1 _ kb1 ko1 W hn0 hn1 hr1 hml hlb hwd).mono fun e W' ⟨he, hb⟩ => ?_
  subst he
  exact ⟨_, rfl, _, _, _, [], _, [], hW', trodAll_mk1 (shut_bool Tryz.underlying4 _), (trodAll_cons_mk (inss_stay h0 hb.below) (trodAll_cons_mk (tree_stays h1 hb.below) trodAll_mk0)), rfl, hb.below.frame _, fun h => by cases h⟩
theorem vmKeeps_holds : Rows.VmKeepsSaid :=
  OpenClaim.holds_of_wide 8 Tryz.f8 rfl rfl rfl rfl rfl rfl rfl ⟨rfl, rfl, rfl, rfl, rfl⟩ rfl rfl rfl rfl rfl (by kernel_rfl) Tryz.func8 (by kernel_rfl)
    (of_decide_eq_true (by kernel_rfl)) (by unfold Func.isWrapper; first | (rw [if_pos (by decide +kernel)]; kernel_rfl) | (rw [if_neg (by decide +kernel)]; exact ⟨rfl, rfl⟩))
    (fun os started H enc _ => vmKeeps_lifted os started H enc)
theorem vmKeeps_card : Rows.VmKeepsCardSaid :=
  Claim7.holds_tied_plain_at .later [] [.data, .data, .data, .data, .sentinel, .sentinel, .widerDeep, .pinned] true (true, "ec86cb7f90a952613a297ea1a1848055ebca9cdb2e48697e77ccb43f8b788bff") true vmKeeps_holds (fun _ h => by cases h) (by kernel_rfl) (fun _ h => by cases h) vmKeeps_row_tie rfl ⟨rfl, rfl⟩ (by kernel_rfl) rfl
    (fun f fn hf hfn => by
      obtain rfl : f = 8 := Option.some.inj ((show Tryz.prog.funcNamed "sapling/saplinglaw10.VmKeeps" = some 8 by kernel_rfl).symm.trans hf) |>.symm
      obtain rfl : fn = Tryz.f8 := (Option.some.inj (Tryz.func8.symm.trans hfn)).symm
      exact ⟨by kernel_rfl, fun j t ht => by
        rw [Tryz.params8] at ht
        have hm : t ∈ [22, 25] := by simpa using Array.mem_of_getElem? ht
        have hall : ([22, 25].all fun u => !Tryz.prog.wantsStandIn u) = true := by kernel_rfl
        exact (show Tryz.prog.wantsStandIn t = false by simpa using List.all_eq_true.1 hall t hm)⟩)
    (by kernel_rfl)
#print axioms vmKeeps_card
end Go.Proofs.YthehpmffkkogpaaGreatDoor
