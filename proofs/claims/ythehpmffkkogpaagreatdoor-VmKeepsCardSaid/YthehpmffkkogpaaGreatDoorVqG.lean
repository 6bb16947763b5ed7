/- Instructions in rows of the call's own. No condition. -/
import Derived.Test.YthehpmffkkogpaaGreatDoorVqA
import Derived.Test.YthehpmffkkogpaaGreatDoorVqE
import Derived.Test.YthehpmffkkogpaaGreatDoorVqB
import Derived.Test.YthehpmffkkogpaaGreatDoorTrEq
namespace Go.Proofs.YthehpmffkkogpaaGreatDoor
set_option linter.unusedVariables false
open Go.ChangeShapes Go.WideShapes Go.ChangeAt Go.RowKit
theorem insInfo : (Tryz.prog.info? 46).map (fun i => (i.zero, i.size, i.bytes)) = some (some (.agg #[.int .i64 0, .int .i64 0, .string ⟨#[]⟩]), 3, 32) := by kernel_rfl
/- the cells of instructions, one behind the other -/
def flatI : List InsL → List Value
  | [] => []
  | x :: r => .int .i64 x.op :: .int .i64 x.n :: .string (tx x.s) :: flatI r
theorem flatI_app (a b : List InsL) : flatI (a ++ b) = flatI a ++ flatI b := by
  induction a with
  | nil => rfl
  | cons x r ih => simp [flatI, ih]
theorem flatI_len (a : List InsL) : (flatI a).length = a.length * 3 := by
  induction a with
  | nil => rfl
  | cons x r ih => rw [flatI, List.length_cons, List.length_cons, List.length_cons, ih, List.length_cons]; omega
theorem flatI_one (a : List InsL) : ∀ u ∈ flatI a, u.oneCell' = true := by
  induction a with
  | nil => intro u hu; simp [flatI] at hu
  | cons x r ih =>
    intro u hu
    simp only [flatI, List.mem_cons] at hu
    rcases hu with rfl | rfl | rfl | hu
    · rfl
    · rfl
    · rfl
    · exact ih u hu
theorem flatI_at : ∀ (a : List InsL) (i : Nat) (hi : i < a.length), (flatI a)[i * 3]? = some (.int .i64 a[i].op) ∧ (flatI a)[i * 3 + 1]? = some (.int .i64 a[i].n) ∧ (flatI a)[i * 3 + 2]? = some (.string (tx a[i].s))
  | x :: r, 0, _ => ⟨rfl, rfl, rfl⟩
  | x :: r, i + 1, hi => by
    obtain ⟨h1, h2, h3⟩ := flatI_at r i (by simpa using hi)
    have e : (i + 1) * 3 = i * 3 + 3 := by omega
    refine ⟨?_, ?_, ?_⟩
    · rw [e]; simpa [flatI] using h1
    · rw [e]; simpa [flatI] using h2
    · rw [e]; simpa [flatI] using h3
/- a row of the call's own is a list of instructions -/
theorem InsS.of_row {w : World} {lo : Nat} {v : Value} {ps : List InsL} (h : w.ownsRow lo 46 3 v ps.length (flatI ps)) (hw : ∀ i (hi : i < ps.length), ps[i].wf) : ∃ kb, InsS w (fun k => lo ≤ k ∧ k < w.heap.size) v ps kb 0 := by
  have hlt := World.ownsRow.lt h
  have hcl := fun g hg => World.ownsRow.cells (g := g) h hg
  rcases h.2 with ⟨rfl, h0⟩ | ⟨g, cap, cur, rfl, hb, hh, h3, h4, _⟩
  · have : ps = [] := List.eq_nil_of_length_eq_zero h0
    subst this
    exact ⟨0, ⟨⟨none, 0, rfl, Nat.le_refl _, Nat.zero_le _, fun h => absurd rfl h⟩, fun i hi => by simp at hi⟩⟩
  · refine ⟨g, ⟨⟨_, cap, rfl, h3, h4, fun _ => ⟨rfl, hlt g rfl⟩⟩, fun i hi => ?_⟩⟩
    obtain ⟨g0, g1, g2⟩ := flatI_at ps i hi
    rw [Nat.zero_add]
    refine ⟨hw i hi, ?_, ?_, ?_⟩
    · have := hcl g rfl _ _ g0; rwa [add_zero_off] at this
    · have := hcl g rfl _ _ g1; rwa [add_zero_off] at this
    · have := hcl g rfl _ _ g2; rwa [add_zero_off] at this
/- a part of a list, as the cells that an append reads -/
theorem InsS.news {w : World} {S : Nat → Prop} {v : Value} {ps : List InsL} {kb ko : Nat} (h : InsS w S v ps kb ko) (from' : Nat) (m : Nat) (hm : from' + m ≤ ps.length) :
    ∀ j u, (flatI ((ps.drop from').take m))[j]? = some u → w.cell? ((⟨kb, ko + from' * 3, none⟩ : Addr).add j) = some u := by
  intro j u hj
  have hlen : ((ps.drop from').take m).length = m := by rw [List.length_take, List.length_drop]; omega
  have hjl : j < m * 3 := by
    have : j < (flatI ((ps.drop from').take m)).length := by
      rcases Nat.lt_or_ge j (flatI ((ps.drop from').take m)).length with h | h
      · exact h
      · rw [List.getElem?_eq_none h] at hj; cases hj
    rw [flatI_len, hlen] at this
    exact this
  have hi : j / 3 < m := by omega
  obtain ⟨g0, g1, g2⟩ := flatI_at ((ps.drop from').take m) (j / 3) (by rw [hlen]; exact hi)
  have hx : ((ps.drop from').take m)[j / 3]'(by rw [hlen]; exact hi) = ps[from' + j / 3]'(by omega) := by rw [List.getElem_take, List.getElem_drop]
  rw [hx] at g0 g1 g2
  obtain ⟨-, c0, c1, c2⟩ := h.at' (from' + j / 3) (by omega)
  rw [Go.WideShapes.add_plain]
  have hr : j = j / 3 * 3 ∨ j = j / 3 * 3 + 1 ∨ j = j / 3 * 3 + 2 := by omega
  rcases hr with r | r | r
  · rw [r, g0] at hj
    rw [← Option.some.inj hj, ← c0]
    congr 2
    omega
  · rw [r, g1] at hj
    rw [← Option.some.inj hj, ← c1]
    congr 2
    omega
  · rw [r, g2] at hj
    rw [← Option.some.inj hj, ← c2]
    congr 2
    omega
end Go.Proofs.YthehpmffkkogpaaGreatDoor
namespace Go.Proofs.YthehpmffkkogpaaGreatDoor
set_option linter.unusedVariables false
open Go.ChangeShapes Go.WideShapes Go.ChangeAt Go.RowKit
def CloneI (l : List InsL) (w : World) (e : Ending) (w' : World) : Prop := Chg NoB w w' ∧ ∃ v', e = .returned v' ∧ w'.ownsRow w.heap.size 46 3 v' l.length (flatI l)
set_option maxHeartbeats 1000000 in
set_option maxRecDepth 20000 in
theorem cloneI_any (l : List InsL) (S : Nat → Prop) (v : Value) (kb ko : Nat) (w : World) (hl : l.length ≤ 1048576) (hs : InsS w S v l kb ko) :
    Calls Tryz.prog 34 #[v] w (CloneI l w) := by
  have hs0 := hs
  obtain ⟨⟨q, c, rfl, h1, h2, h3⟩, hat⟩ := hs
  obtain ⟨n, hn⟩ : ∃ n, n = l.length := ⟨_, rfl⟩
  rw [← hn] at h1 hl ⊢
  have Hn := Lib.hid hn
  cases q with
  | none =>
    obtain rfl : l = [] := by
      by_cases h : l = []
      · exact h
      · obtain ⟨h, -⟩ := h3 h; cases h
    obtain rfl : n = 0 := Hn.out
    refine (Tryz.slices_Clone_nil_ins 0 c w).mono ?_
    rintro e w' ⟨rfl, rfl⟩
    exact ⟨Chg.refl _ _, _, rfl, World.ownsRow_nil _ _ _ _⟩
  | some a =>
    have hal := (Chg.refl NoB w).alloc (.cells #[] 46)
    have hb := heap_alloc_new w (.cells #[] 46)
    have hnews : ∀ j u, (flatI l)[j]? = some u → (w.alloc (.cells #[] 46)).cell? (a.add j) = some u := fun j u hj => by
      have hlt : j < (flatI l).length := (List.getElem?_eq_some_iff.1 hj).1
      rw [flatI_len] at hlt
      have hne : l ≠ [] := by rintro rfl; simp at hlt
      obtain ⟨ha, -⟩ := h3 hne
      cases ha
      apply hal.keep
      have h := hs0.news 0 l.length (by omega) j u (by simpa using hj)
      simpa using h
    have hrow0 : (w.alloc (.cells #[] 46)).ownsRow w.heap.size 46 3 (.slice (some ⟨w.heap.size, 0, none⟩) 0 0) 0 [] := ⟨rfl, .inr ⟨_, 0, #[], rfl, Nat.le_refl _, hb, Nat.le_refl _, Nat.zero_le _, rfl, rfl⟩⟩
    obtain ⟨i0, hi, hz0, hz1, hz2⟩ := info_parts insInfo
    have Hrow0 := Lib.hid hrow0
    have Hnews := Lib.hid hnews
    have Hal := Lib.hid hal
    have Hi := Lib.hid hi
    have Hz0 := Lib.hid hz0
    have Hz1 := Lib.hid hz1
    have Hz2 := Lib.hid hz2
    have Hlen : Hid ((flatI l).length = n * 3) := Lib.hid (by rw [flatI_len, hn])
    have M1 := Lib.hid (show 0 + n ≤ maxLen by unfold maxLen; omega)
    have M2 := Lib.hid (show (0 + n) * 32 ≤ 140737488355328 by omega)
    have Hb0 := Lib.hid (show w.heap.size ≤ (w.alloc (.cells #[] 46)).heap.size from hal.size)
    have hq := fun (w : World) => Lib.run_eql_slice_nil (P := Tryz.prog) w 22 46 (some a) n c 0 0 Tryz.underlying22
    unfold maxLen at h2
    clear hal hb hnews hrow0 hi hz0 hz1 hz2 h3 hat hn hs0
    go_enter Tryz.func34, Tryz.ntmps34
    go_wp2_with (at_builtin; refine wpList_append_at _ rfl _ _ 22 rfl w.heap.size 46 i0 (.agg #[.int .i64 0, .int .i64 0, .string ⟨#[]⟩]) 3 32 Tryz.underlying22 Hi.out Hz0.out Hz1.out Hz2.out rfl (by decide) _ 0 [] rfl Hrow0.out a n c (flatI l) rfl Hlen.out Hnews.out (flatI_one l) M1.out M2.out Hb0.out ?_)
    intro v9 w9 hown9 hgr9 hpl9
    have hown : w9.ownsRow w.heap.size 46 3 v9 n (flatI l) := by simpa using hown9
    have hch : Chg NoB w w9 := Hal.out.grown hgr9 fun j hj => .inr (by cases hj; exact Nat.le_refl _)
    have Hown := Lib.hid hown
    have Hch := Lib.hid hch
    clear hown9 hgr9 hpl9 hown hch
    go_wp2_with fail
    go_ret
    exact ⟨Hch.out, v9, rfl, by rw [← Hn.out]; exact Hown.out⟩
end Go.Proofs.YthehpmffkkogpaaGreatDoor
namespace Go.Proofs.YthehpmffkkogpaaGreatDoor
set_option linter.unusedVariables false
open Go.ChangeShapes Go.WideShapes Go.ChangeAt Go.RowKit
def CopyP (l : List FileL) (w : World) (e : Ending) (w' : World) : Prop := Chg NoB w w' ∧ ∃ v', e = .returned (.agg #[v']) ∧ w'.ownsRow w.heap.size 43 2 v' l.length (flatP l)
set_option maxHeartbeats 1000000 in
set_option maxRecDepth 20000 in
theorem vcopied_any (l : List FileL) (S : Nat → Prop) (v : Value) (kb ko : Nat) (w : World) (hl : l.length ≤ 1048576) (hs : InpS w S v l kb ko) :
    Calls Tryz.prog 35 #[.agg #[v]] w (CopyP l w) := by
  have hs0 := hs
  obtain ⟨⟨q, c, rfl, h1, h2, h3⟩, hat⟩ := hs
  obtain ⟨n, hn⟩ : ∃ n, n = l.length := ⟨_, rfl⟩
  rw [← hn] at hs0 ⊢
  have hal_ := (Chg.refl NoB w).alloc (.cells #[.slice q n c] 25)
  have hb_ := heap_alloc_new w (.cells #[.slice q n c] 25)
  obtain ⟨pb, hxb_⟩ : ∃ b, b = w.heap.size := ⟨_, rfl⟩
  obtain ⟨w1, hw_⟩ : ∃ w_, w.alloc (.cells #[.slice q n c] 25) = w_ := ⟨_, rfl⟩
  have hz_ : w1.heap.size = pb + 1 := by rw [← hw_, hxb_]; exact alloc_size _ _
  rw [hw_] at hal_ hb_
  rw [← hxb_] at hb_
  have Hw1 := Lib.hid hw_
  have Hx1 := Lib.hid hxb_
  have Ha1 := Lib.hid hal_
  have Hb1 := Lib.hid hb_
  have Hz1 := Lib.hid hz_
  clear hal_ hb_ hxb_ hw_ hz_
  have hal_ := (Chg.refl NoB w1).alloc (.cells #[.slice none 0 0] 25)
  have hb_ := heap_alloc_new w1 (.cells #[.slice none 0 0] 25)
  obtain ⟨rb, hxb_⟩ : ∃ b, b = w1.heap.size := ⟨_, rfl⟩
  obtain ⟨w2, hw_⟩ : ∃ w_, w1.alloc (.cells #[.slice none 0 0] 25) = w_ := ⟨_, rfl⟩
  have hz_ : w2.heap.size = rb + 1 := by rw [← hw_, hxb_]; exact alloc_size _ _
  rw [hw_] at hal_ hb_
  rw [← hxb_] at hb_
  have Hw2 := Lib.hid hw_
  have Hx2 := Lib.hid hxb_
  have Ha2 := Lib.hid hal_
  have Hb2 := Lib.hid hb_
  have Hz2 := Lib.hid hz_
  clear hal_ hb_ hxb_ hw_ hz_
  have hc12 := Ha1.out.trans Ha2.out
  have HC := Lib.hid (clone_any l S _ kb ko w2 hl (hs0.keep (hc12.mono fun _ _ h => h.elim : Chg NoB w w2) fun _ _ => id))
  have p0 := var1 (row_kept Ha2.out Hb1.out id)
  have Hn := Lib.hid hn
  have H12 := Lib.hid (hc12.mono fun _ _ h => h.elim : Chg NoB w w2)
  have Hrb := Lib.hid (show w.heap.size ≤ rb ∧ w.heap.size ≤ w2.heap.size ∧ rb < w2.heap.size by have := Hx1.out; have := Hx2.out; have := Hz1.out; have := Hz2.out; omega)
  clear hs0 hn hat h1 h2 h3 hc12
  go_enter Tryz.func35, Tryz.ntmps35
  go_upto_region 1 with fail
  rw [Hw1.out, ← Hx1.out]
  rw [Hw2.out, ← Hz1.out, ← Hx2.out]
  go_wp2_with fail
  refine HC.out.mono ?_
  rintro e w3 ⟨hc3, v', rfl, hr3⟩
  have hb3 := row_kept hc3 Hb2.out id
  have f0 := row_free hb3 0
  obtain ⟨q', c', e', h1', h2'⟩ := row_shape hr3
  subst e'
  have r0 := var1 hb3
  have Hc3 := Lib.hid hc3
  have Hr3 := Lib.hid hr3
  have Hb3 := Lib.hid hb3
  clear hc3 hr3 hb3 p0 h1' h2'
  go_wp2_with fail
  have hR := heap_set Hb3.out (i := 0) (.slice q' l.length c')
  have hcR : Chg (fun k => k = rb) w3 (w3.setCell ⟨rb, 0, none⟩ (.slice q' l.length c')) := (Chg.refl (fun k => k = rb) w3).setCell (p := ⟨rb, 0, none⟩) (.inl rfl) _
  have hc : Chg NoB w (w3.setCell ⟨rb, 0, none⟩ (.slice q' l.length c')) := (H12.out.trans Hc3.out).transR hcR fun k hk e => by have := Hrb.out.1; omega
  exact bodyPost_ret (results_cell1 rfl _ rfl (run_loadVar_row _ _ _ _ _ _ _ hR (Tryz.underlying25) rfl rfl)) rfl ⟨hc, _, rfl, ownsRow_low Hrb.out.2.1 (ownsRow_chg Hr3.out hcR fun k hk e => by have h := World.ownsRow.lt Hr3.out k hk; have := Hrb.out.2.2; omega)⟩
theorem results_cellT {fn : Func} {p t : Tmp} {ty : TypeId} (h : fn.results = #[.cell p ty, .tmp t]) (tmps : Array Value) {P : Program} {w : World} {a : Addr} {v : Value} (hp : tmps.getD p undef = .pointer (some a)) (hl : (loadVar ty a).run P w = .ok v w) : (results fn tmps).run P w = .ok (.tuple #[v, tmps.getD t undef]) w := by
  rw [Array.getD_eq_getD_getElem?] at hp
  simp only [results, h]
  simp [hp, asAddr, hl]
theorem results_cellTT {fn : Func} {p t u : Tmp} {ty : TypeId} (h : fn.results = #[.cell p ty, .tmp t, .tmp u]) (tmps : Array Value) {P : Program} {w : World} {a : Addr} {v : Value} (hp : tmps.getD p undef = .pointer (some a)) (hl : (loadVar ty a).run P w = .ok v w) : (results fn tmps).run P w = .ok (.tuple #[v, tmps.getD t undef, tmps.getD u undef]) w := by
  rw [Array.getD_eq_getD_getElem?] at hp
  simp only [results, h]
  simp [hp, asAddr, hl]
def ResP (l : List FileL) (y : Int) (w : World) (e : Ending) (w' : World) : Prop := Chg NoB w w' ∧ ∃ v', e = .returned (.tuple #[.agg #[v'], .int .i64 y]) ∧ w'.ownsRow w.heap.size 43 2 v' l.length (flatP l)
theorem none_row (w : World) (lo : Nat) : w.ownsRow lo 43 2 (.slice none 0 0) 0 [] := ⟨rfl, .inl ⟨rfl, rfl⟩⟩
set_option maxHeartbeats 1000000 in
set_option maxRecDepth 20000 in
theorem resultn_any (w : World) : Calls Tryz.prog 21 #[.pointer none] w (ResP [] 2 w) := by
  have hal_ := (Chg.refl NoB w).alloc (.cells #[.slice none 0 0] 25)
  have hb_ := heap_alloc_new w (.cells #[.slice none 0 0] 25)
  obtain ⟨rb, hxb_⟩ : ∃ b, b = w.heap.size := ⟨_, rfl⟩
  obtain ⟨w1, hw_⟩ : ∃ w_, w.alloc (.cells #[.slice none 0 0] 25) = w_ := ⟨_, rfl⟩
  have hz_ : w1.heap.size = rb + 1 := by rw [← hw_, hxb_]; exact alloc_size _ _
  rw [hw_] at hal_ hb_
  rw [← hxb_] at hb_
  have Hw1 := Lib.hid hw_
  have Hx1 := Lib.hid hxb_
  have Ha1 := Lib.hid hal_
  have Hb1 := Lib.hid hb_
  have Hz1 := Lib.hid hz_
  clear hal_ hb_ hxb_ hw_ hz_
  go_enter Tryz.func21, Tryz.ntmps21
  go_upto_region 1 with fail
  rw [Hw1.out, ← Hx1.out]
  have r0 := var1 Hb1.out
  have f0 := row_free Hb1.out 0
  go_wp2_with fail
  have hR := heap_set Hb1.out (i := 0) (.slice none 0 0)
  have hcR : Chg (fun k => k = rb) w1 (w1.setCell ⟨rb, 0, none⟩ (.slice none 0 0)) := (Chg.refl (fun k => k = rb) w1).setCell (p := ⟨rb, 0, none⟩) (.inl rfl) _
  exact bodyPost_ret (results_cellT rfl _ rfl (run_loadVar_row _ _ _ _ _ _ _ hR (Tryz.underlying25) rfl rfl)) rfl ⟨Chg.transR (Ha1.out.mono fun _ _ h => h.elim : Chg NoB w w1) hcR fun k hk e => by have := Hx1.out; omega, _, rfl, none_row _ _⟩
set_option maxHeartbeats 1000000 in
set_option maxRecDepth 20000 in
theorem result_any {w : World} {lo mb : Nat} {pv vv : Value} {m : MM} {F : Value × Value} (hm : Mach w lo mb pv vv m.s m.steps m.fault F) (hl : m.s.out.length ≤ 1048576) : Calls Tryz.prog 21 #[.pointer (some ⟨mb, 0, none⟩)] w (ResP (resF m).1 (resF m).2 w) := by
  have hal_ := (Chg.refl NoB w).alloc (.cells #[.slice none 0 0] 25)
  have hb_ := heap_alloc_new w (.cells #[.slice none 0 0] 25)
  obtain ⟨rb, hxb_⟩ : ∃ b, b = w.heap.size := ⟨_, rfl⟩
  obtain ⟨w1, hw_⟩ : ∃ w_, w.alloc (.cells #[.slice none 0 0] 25) = w_ := ⟨_, rfl⟩
  have hz_ : w1.heap.size = rb + 1 := by rw [← hw_, hxb_]; exact alloc_size _ _
  rw [hw_] at hal_ hb_
  rw [← hxb_] at hb_
  have Hw1 := Lib.hid hw_
  have Hx1 := Lib.hid hxb_
  have Ha1 := Lib.hid hal_
  have Hb1 := Lib.hid hb_
  have Hz1 := Lib.hid hz_
  clear hal_ hb_ hxb_ hw_ hz_
  have Hc1 := Lib.hid (Ha1.out.mono fun _ _ h => h.elim : Chg NoB w w1)
  have Hmlt := Lib.hid (show mb < w.heap.size by have := hm.lo; omega)
  replace hm := hm.keep Ha1.out
  have y55 : w1.cell? ⟨mb, 55, none⟩ = some (.bool m.s.done) := by obtain ⟨_, _, _, _, _, _, _, _, _, h, _⟩ := hm.cells; exact h
  have y56 : w1.cell? ⟨mb, 56, none⟩ = some (.int .i64 m.fault) := by obtain ⟨_, _, _, _, _, _, _, _, _, _, h⟩ := hm.cells; exact h
  have hr0 := var1 Hb1.out
  have Hbx := Lib.hid (show w.heap.size ≤ rb ∧ rb < w1.heap.size ∧ w.heap.size ≤ w1.heap.size by have := Hx1.out; have := Hz1.out; omega)
  have hset : ∀ w2, w2 = w1.setCell ⟨rb, 0, none⟩ (.slice none 0 0) → w2.heap[rb]? = some (.cells #[.slice none 0 0] 25 (0, 0)) ∧ Chg NoB w w2 := by
    rintro w2 rfl
    have hR := heap_set Hb1.out (i := 0) (.slice none 0 0)
    have hcR : Chg (fun k => k = rb) w1 (w1.setCell ⟨rb, 0, none⟩ (.slice none 0 0)) := (Chg.refl (fun k => k = rb) w1).setCell (p := ⟨rb, 0, none⟩) (.inl rfl) _
    exact ⟨hR, Hc1.out.transR hcR fun k hk e => by have := Hbx.out.1; omega⟩
  have Hset := Lib.hid hset
  have f0 := row_free Hb1.out 0
  have Hm := Lib.hid hm
  clear hset hm
  unfold resF
  cases hd : m.s.done with
  | false =>
    rw [hd] at y55
    rw [if_neg (by decide)]
    clear hd y56
    go_enter Tryz.func21, Tryz.ntmps21
    go_upto_region 1 with fail
    rw [Hw1.out, ← Hx1.out]
    go_wp2_with fail
    obtain ⟨hR, hc⟩ := Hset.out _ rfl
    exact bodyPost_ret (results_cellT rfl _ rfl (run_loadVar_row _ _ _ _ _ _ _ hR (Tryz.underlying25) rfl rfl)) rfl ⟨hc, _, rfl, none_row _ _⟩
  | true =>
    rw [hd] at y55
    rw [if_pos rfl]
    clear hd
    by_cases hf : m.fault = 0
    · rw [hf] at y56
      rw [if_pos hf]
      clear hf
      obtain ⟨oq, oc, y2, hoc, kb, ko, hin⟩ : ∃ oq oc, w1.cell? ⟨mb, 2, none⟩ = some (.slice oq m.s.out.length oc) ∧ oc ≤ maxLen ∧ ∃ kb ko, InpS w1 (fun k => k ≠ mb ∧ ¬ Foot F k) (.slice oq m.s.out.length oc) m.s.out kb ko := by
        obtain ⟨oq, oc, hr, h1, h2⟩ := Hm.out.row
        exact ⟨oq, oc, cell_of_row _ _ _ _ _ _ hr, h1, h2⟩
      have HC := Lib.hid (vcopied_any m.s.out _ _ kb ko w1 hl hin)
      clear hin hoc
      go_enter Tryz.func21, Tryz.ntmps21
      go_upto_region 1 with fail
      rw [Hw1.out, ← Hx1.out]
      go_wp2_with fail
      refine HC.out.mono ?_
      rintro e w3 ⟨hc3, v', rfl, hr3⟩
      have hb3 := row_kept hc3 Hb1.out id
      obtain ⟨q', c', e', h1', h2'⟩ := row_shape hr3
      subst e'
      have g0 := row_free hb3 0
      have r0 := var1 hb3
      have Hc3 := Lib.hid hc3
      have Hr3 := Lib.hid hr3
      have Hb3 := Lib.hid hb3
      clear hc3 hr3 hb3 h1' h2' y2 y55 y56 f0 hr0
      go_wp2_with fail
      have hR := heap_set Hb3.out (i := 0) (.slice q' m.s.out.length c')
      have hcR : Chg (fun k => k = rb) w3 (w3.setCell ⟨rb, 0, none⟩ (.slice q' m.s.out.length c')) := (Chg.refl (fun k => k = rb) w3).setCell (p := ⟨rb, 0, none⟩) (.inl rfl) _
      have hc : Chg NoB w (w3.setCell ⟨rb, 0, none⟩ (.slice q' m.s.out.length c')) := (Hc1.out.trans Hc3.out).transR hcR fun k hk e => by have := Hbx.out.1; omega
      exact bodyPost_ret (results_cellT rfl _ rfl (run_loadVar_row _ _ _ _ _ _ _ hR (Tryz.underlying25) rfl rfl)) rfl ⟨hc, _, rfl, ownsRow_low Hbx.out.2.2 (ownsRow_chg Hr3.out hcR fun k hk e => by have h := World.ownsRow.lt Hr3.out k hk; have := Hbx.out.2.1; omega)⟩
    · rw [if_neg hf]
      have hf2 : (m.fault != 0) = true := by rw [bne_iff_ne]; exact hf
      clear hf
      have hmbr : ¬ rb = mb := by have := Hm.out.lo; have := Hx1.out; have := Hmlt.out; omega
      generalize m.fault = ft at *
      have hcS : Chg (fun k => k = rb) w1 (w1.setCell ⟨rb, 0, none⟩ (.slice none 0 0)).drew := ((Chg.refl (fun k => k = rb) w1).setCell (p := ⟨rb, 0, none⟩) (.inl rfl) _).drew
      have hE := hcS.cell y56 (fun e => hmbr e.symm)
      have hD := (Chg.refl NoB w1).drew.keep y56
      have HcS := Lib.hid hcS
      clear hcS hmbr
      go_enter Tryz.func21, Tryz.ntmps21
      go_upto_region 1 with fail
      rw [Hw1.out, ← Hx1.out]
      go_wp2_with fail
      go_region_held3 (fun w' => w'.cell? ⟨mb, 56, none⟩ = some (.int .i64 ft)) (first | with_reducible exact hD | with_reducible exact hE | with_reducible exact y56) (fail)
      clear hD hE y55 y56 hf2
      go_wp2_with fail
      obtain ⟨hR, hc⟩ := Hset.out _ rfl
      have hR2 := row_kept (Chg.refl NoB (w1.setCell ⟨rb, 0, none⟩ (.slice none 0 0))).drew hR id
      exact bodyPost_ret (results_cellT rfl _ rfl (run_loadVar_row _ _ _ _ _ _ _ hR2 (Tryz.underlying25) rfl rfl)) rfl ⟨hc.drew, _, rfl, none_row _ _⟩
end Go.Proofs.YthehpmffkkogpaaGreatDoor
namespace Go.Proofs.YthehpmffkkogpaaGreatDoor
set_option linter.unusedVariables false
open Go.ChangeShapes Go.WideShapes Go.ChangeAt Go.RowKit
def NewP (ps : List InsL) (view : List FileL) (y : Int) (w : World) (e : Ending) (w' : World) : Prop := Chg NoB w w' ∧
  if y = 0 then ∃ mb pq pc vq vc pb kb, e = .returned (.tuple #[.pointer (some ⟨mb, 0, none⟩), .int .i64 0]) ∧ w.heap.size ≤ mb ∧ Mach w' (mb + 1) mb (.slice pq ps.length pc) (.slice vq view.length vc) mm0.s mm0.steps mm0.fault (.slice none 0 0, .slice none 0 0) ∧ InsS w' (fun k => w.heap.size ≤ k ∧ k < mb) (.slice pq ps.length pc) ps pb 0 ∧ InpS w' (fun k => w.heap.size ≤ k ∧ k < mb) (.slice vq view.length vc) view kb 0
  else e = .returned (.tuple #[.pointer none, .int .i64 y])
theorem mach_new {w w2 : World} {mb : Nat} {pv vv : Value} (hmb : mb = w2.heap.size) (hw : w2.alloc (.cells (machC pv vv (.slice none 0 0) (.slice none 0 0) mm0.s.loc (.slice none 0 0) 0 0 false 0) 71) = w) : Mach w (mb + 1) mb pv vv mm0.s mm0.steps mm0.fault (.slice none 0 0, .slice none 0 0) := by
  subst hw
  subst hmb
  refine ⟨⟨none, 0, heap_alloc_new w2 _, Nat.zero_le _, 0, 0, ⟨⟨none, 0, rfl, Nat.le_refl _, Nat.zero_le _, fun h => absurd rfl h⟩, fun i hi => by simp [mm0] at hi⟩⟩, ⟨rfl, .inl ⟨rfl, rfl⟩⟩, ⟨rfl, .inl ⟨rfl, rfl⟩⟩, fun k h => by simp [Value.ownBlock] at h, ⟨Nat.lt_succ_self _, Nat.le_of_eq (alloc_size _ _).symm⟩, rfl⟩
set_option maxHeartbeats 2000000 in
set_option maxRecDepth 20000 in
theorem vnew_any (ps : List InsL) (view : List FileL) (S T : Nat → Prop) (v u : Value) (pb po kb ko base : Nat) (w : World) (hwd : Wd base w) (hml : Pth.Ml w) (hl : ps.length ≤ 131072) (hvl : view.length ≤ 1048576) (hvw : ∀ x ∈ view, x.1.length ≤ 1048576 ∧ x.2.length ≤ 1048576) (hp : InsS w S v ps pb po) (hv : InpS w T u view kb ko) :
    Calls Tryz.prog 18 #[v, .agg #[u]] w (NewP ps view (newF ps view) w) := by
  have hv0 := hv
  have hp0 := hp
  obtain ⟨⟨q, c, rfl, h1, h2, h3⟩, hat⟩ := hv
  obtain ⟨⟨pq, pc, rfl, g1, g2, g3⟩, gat⟩ := hp
  have hal_ := (Chg.refl NoB w).alloc (.cells #[.slice q view.length c] 25)
  have hb_ := heap_alloc_new w (.cells #[.slice q view.length c] 25)
  obtain ⟨vb, hxb_⟩ : ∃ b, b = w.heap.size := ⟨_, rfl⟩
  obtain ⟨w1, hw_⟩ : ∃ w_, w.alloc (.cells #[.slice q view.length c] 25) = w_ := ⟨_, rfl⟩
  have hz_ : w1.heap.size = vb + 1 := by rw [← hw_, hxb_]; exact alloc_size _ _
  rw [hw_] at hal_ hb_
  rw [← hxb_] at hb_
  have Hw1 := Lib.hid hw_
  have Hx1 := Lib.hid hxb_
  have Ha1 := Lib.hid hal_
  have Hb1 := Lib.hid hb_
  have Hz1 := Lib.hid hz_
  clear hal_ hb_ hxb_ hw_ hz_
  have Hc1 := Lib.hid (Ha1.out.mono fun _ _ h => h.elim : Chg NoB w w1)
  have HC := Lib.hid (check_any ps S _ pb po base w1 (hwd.keep Hc1.out) hl (hp0.keep Hc1.out fun _ _ => id))
  have HG := Lib.hid (fun w' (h : Chg NoB w1 w') => tgood_any view hvl hvw T _ kb ko w' (ml_keep hml (Hc1.out.trans h)) (hv0.keep (Hc1.out.trans h) fun _ _ => id))
  have HI := Lib.hid (fun w' (h : Chg NoB w1 w') => cloneI_any ps S _ pb po w' (by omega) (hp0.keep (Hc1.out.trans h) fun _ _ => id))
  have HO := Lib.hid (fun w' (h : Chg NoB w1 w') => vcopied_any view T _ kb ko w' hvl (hv0.keep (Hc1.out.trans h) fun _ _ => id))
  have HW := Lib.hid hp0.wfs
  have v0 := var1 Hb1.out
  clear hv0 hp0 hwd hml hl hvl hvw h1 h2 h3 hat g1 g2 g3 gat
  obtain ⟨yn, hyn⟩ : ∃ z, z = newF ps view := ⟨_, rfl⟩
  obtain ⟨k, hk⟩ : ∃ z, z = (checkF ps).1 := ⟨_, rfl⟩
  obtain ⟨y, hy⟩ : ∃ z, z = (checkF ps).2 := ⟨_, rfl⟩
  obtain ⟨g, hg⟩ : ∃ z, z = goodF view := ⟨_, rfl⟩
  rw [← hyn]
  unfold newF at hyn
  rw [← hk, ← hy] at HC
  rw [← hg] at HG
  rw [← hy, ← hg] at hyn
  have Hy := Lib.hid hy
  have Hg := Lib.hid hg
  have Hyn := Lib.hid hyn
  clear hk hy hg hyn
  go_enter Tryz.func18, Tryz.ntmps18
  go_upto_region 1 with fail
  rw [Hw1.out, ← Hx1.out]
  go_wp2_with fail
  refine HC.out.mono ?_
  rintro e w2 ⟨rfl, hc2⟩
  have Hc2 := Lib.hid hc2
  have v0 := var1 (row_kept hc2 Hb1.out id)
  clear hc2
  by_cases hz : y = 0
  · subst hz
    go_wp2_with fail
    refine (HG.out _ Hc2.out).mono ?_
    rintro e w3 ⟨rfl, hc3⟩
    have Hc3 := Lib.hid (Hc2.out.trans hc3)
    clear hc3 v0
    have v0 := var1 (row_kept Hc3.out Hb1.out id)
    cases g with
    | false =>
      go_wp2_with fail
      go_ret2
      exact ⟨Hc1.out.trans Hc3.out, by have e : yn = 1 := Hyn.out; subst e; rfl⟩
    | true =>
      go_wp2_with fail
      have hA := v0
      have hdr : w3.drew.cell? ⟨vb, 0, none⟩ = some (.slice q view.length c) := v0
      go_region_held3 (fun w' => w'.cell? ⟨vb, 0, none⟩ = some (.slice q view.length c))
        (first | with_reducible exact hA | with_reducible exact hdr | with_reducible exact hC | with_reducible exact hD | exact hE)
        (first
          | (go_at_call 34; refine (HI.out _ Hc3.out.drew).mono ?_; rintro e w4 ⟨hc4', v4, rfl, hr4⟩; obtain ⟨q4, c4, rfl, -, -⟩ := row_shape hr4; have hc4 : Chg NoB w3 w4 := (Chg.refl NoB w3).drew.trans hc4'; have hC := hc4.keep hA)
          | (go_at_call 35; refine (HO.out _ (Hc3.out.trans hc4)).mono ?_; rintro e w5 ⟨hc5', v5, rfl, hr5⟩; obtain ⟨q5, c5, rfl, -, -⟩ := row_shape hr5; have hc5 : Chg NoB w3 w5 := hc4.trans hc5'; have hD := hc5.keep hA; have hE := (hc5.alloc (.cells (machC (.slice q4 ps.length c4) (.slice q5 view.length c5) (.slice none 0 0) (.slice none 0 0) mm0.s.loc (.slice none 0 0) 0 0 false 0) 71)).keep hA))
      clear hA hdr hC hD hE
      have hM := mach_new (pv := .slice q4 ps.length c4) (vv := .slice q5 view.length c5) (w2 := w5) rfl rfl
      have hc6 : Chg NoB w5 (w5.alloc (.cells (machC (.slice q4 ps.length c4) (.slice q5 view.length c5) (.slice none 0 0) (.slice none 0 0) mm0.s.loc (.slice none 0 0) 0 0 false 0) 71)) := (Chg.refl NoB w5).alloc _
      obtain ⟨ib, hib⟩ := InsS.of_row hr4 fun i hi => HW.out _ (List.getElem_mem hi)
      obtain ⟨jb, hjb⟩ := InpS.of_row hr5
      have hn3 := Hc1.out.size
      have hn4 := Hc3.out.size
      have hn5 := hc4.size
      have hn6 := hc5'.size
      have HF := Lib.hid (And.intro hM (And.intro hc6 (And.intro ((hib.keep (hc5'.trans hc6) fun _ _ => id).mono (T := fun k => w.heap.size ≤ k ∧ k < w5.heap.size) fun k hk => ⟨by have := hk.1; have : w3.drew.heap.size = w3.heap.size := rfl; omega, by have := hk.2; omega⟩) (And.intro ((hjb.keep hc6 fun _ _ => id).mono (T := fun k => w.heap.size ≤ k ∧ k < w5.heap.size) fun k hk => ⟨by have := hk.1; omega, by have := hk.2; omega⟩) (show w.heap.size ≤ w5.heap.size by omega)))))
      have HX := Lib.hid (Hc1.out.trans (Hc3.out.trans hc5))
      clear hM hc6 hib hjb hn3 hn4 hn5 hn6 hr4 hr5 hc4 hc4' hc5 hc5'
      go_wp2_with fail
      go_ret2
      have e : yn = 0 := Hyn.out
      subst e
      exact ⟨HX.out.trans HF.out.2.1, _, _, _, _, _, _, _, rfl, HF.out.2.2.2.2, HF.out.1, HF.out.2.2.1, HF.out.2.2.2.1⟩
  · have hz2 : (y != 0) = true := by rw [bne_iff_ne]; exact hz
    have Hz := Lib.hid hz
    clear hz
    go_wp2_with fail
    go_ret2
    have e : yn = y := by rw [Hyn.out, if_neg Hz.out]
    refine ⟨Hc1.out.trans Hc2.out, ?_⟩
    rw [e, if_neg Hz.out]; rfl
end Go.Proofs.YthehpmffkkogpaaGreatDoor
namespace Go.Proofs.YthehpmffkkogpaaGreatDoor
set_option linter.unusedVariables false
open Go.ChangeShapes Go.WideShapes Go.ChangeAt Go.RowKit
def Run3 (d : List FileL) (n : Nat) (y : Int) (w : World) (e : Ending) (w' : World) : Prop := Chg NoB w w' ∧ ∃ q k c kb ko, k = d.length ∧ e = .returned (.tuple #[.agg #[.slice q k c], .int .i64 (n : Int), .int .i64 y]) ∧ InpS w' (NewB w w') (.slice q k c) d kb ko
def RunP (ps : List InsL) (view : List FileL) (w : World) (e : Ending) (w' : World) : Prop := Run3 (runL ps view) (runN ps view) (runE ps view) w e w'
theorem RunP.val {ps : List InsL} {view : List FileL} {w : World} {e : Ending} {w' : World} (h : RunP ps view w e w') : Run3 (runL ps view) (runN ps view) (runE ps view) w e w' := h
/- what New, Step and Result make of one machine -/
theorem runM_start {ps : List InsL} {view : List FileL} : goF ps view (4096 : Int).toNat mm0 = runM ps view := rfl
set_option maxHeartbeats 2000000 in
set_option maxRecDepth 20000 in
theorem run_any (ps : List InsL) (view : List FileL) (S T : Nat → Prop) (v u : Value) (pb po kb ko base : Nat) (w : World) (hwd : Wd base w) (hlb : Lb base w) (hml : Pth.Ml w) (hl : ps.length ≤ 131072) (hvl : view.length ≤ 1048576) (hvw : ∀ x ∈ view, x.1.length ≤ 1048576 ∧ x.2.length ≤ 1048576) (hp : InsS w S v ps pb po) (hv : InpS w T u view kb ko) :
    Calls Tryz.prog 15 #[v, .agg #[u]] w (RunP ps view w) := by
  have hv0 := hv
  have hp0 := hp
  obtain ⟨⟨q, c, rfl, h1, h2, h3⟩, hat⟩ := hv
  obtain ⟨n, hn⟩ : ∃ n, n = view.length := ⟨_, rfl⟩
  rw [← hn] at hv0 ⊢
  have hal_ := (Chg.refl NoB w).alloc (.cells #[.slice q n c] 25)
  have hb_ := heap_alloc_new w (.cells #[.slice q n c] 25)
  obtain ⟨vb, hxb_⟩ : ∃ b, b = w.heap.size := ⟨_, rfl⟩
  obtain ⟨w1, hw_⟩ : ∃ w_, w.alloc (.cells #[.slice q n c] 25) = w_ := ⟨_, rfl⟩
  have hz_ : w1.heap.size = vb + 1 := by rw [← hw_, hxb_]; exact alloc_size _ _
  rw [hw_] at hal_ hb_
  rw [← hxb_] at hb_
  have Hw1 := Lib.hid hw_
  have Hx1 := Lib.hid hxb_
  have Ha1 := Lib.hid hal_
  have Hb1 := Lib.hid hb_
  have Hz1 := Lib.hid hz_
  clear hal_ hb_ hxb_ hw_ hz_
  have hal_ := (Chg.refl NoB w1).alloc (.cells #[.slice none 0 0] 25)
  have hb_ := heap_alloc_new w1 (.cells #[.slice none 0 0] 25)
  obtain ⟨rb, hxb_⟩ : ∃ b, b = w1.heap.size := ⟨_, rfl⟩
  obtain ⟨w2, hw_⟩ : ∃ w_, w1.alloc (.cells #[.slice none 0 0] 25) = w_ := ⟨_, rfl⟩
  have hz_ : w2.heap.size = rb + 1 := by rw [← hw_, hxb_]; exact alloc_size _ _
  rw [hw_] at hal_ hb_
  rw [← hxb_] at hb_
  have Hw2 := Lib.hid hw_
  have Hx2 := Lib.hid hxb_
  have Ha2 := Lib.hid hal_
  have Hb2 := Lib.hid hb_
  have Hz2 := Lib.hid hz_
  clear hal_ hb_ hxb_ hw_ hz_
  have Hc2 := Lib.hid ((Ha1.out.trans Ha2.out).mono fun _ _ h => h.elim : Chg NoB w w2)
  have HC := Lib.hid (vnew_any ps view S T _ _ pb po kb ko base w2 (hwd.keep Hc2.out) (ml_keep hml Hc2.out) hl hvl hvw (hp0.keep Hc2.out fun _ _ => id) (hv0.keep Hc2.out fun _ _ => id))
  have HW := Lib.hid hp0.wfs
  have Hlb := Lib.hid (hlb.keep Hc2.out)
  have p0 := var1 (row_kept Ha2.out Hb1.out id)
  have Hrb := Lib.hid (show w.heap.size ≤ rb ∧ rb < w2.heap.size by have := Hx1.out; have := Hx2.out; have := Hz1.out; have := Hz2.out; omega)
  clear hv0 hp0 hwd hlb hml hl hvl hvw hp h1 h2 h3 hat hn
  obtain ⟨y, hy⟩ : ∃ z, z = newF ps view := ⟨_, rfl⟩
  rw [← hy] at HC
  have Hy := Lib.hid hy
  clear hy
  go_enter Tryz.func15, Tryz.ntmps15
  go_upto_region 1 with fail
  rw [Hw1.out, ← Hx1.out]
  rw [Hw2.out, ← Hz1.out, ← Hx2.out]
  go_wp2_with fail
  refine HC.out.mono ?_
  rintro e w3 ⟨hc3, h3⟩
  by_cases hz : y = 0
  · rw [if_pos hz] at h3
    obtain ⟨mb, pq, pc, vq, vc, jb, lb, rfl, hmb, hm3, hp3, hv3⟩ := h3
    have hnew : newF ps view = 0 := by rw [← Hy.out]; exact hz
    have hr := run_ran HW.out hnew
    obtain ⟨hck, hgv⟩ := newF_ok hnew
    obtain ⟨hp1, hp2, hpw⟩ := check_wfi HW.out hck
    have HS := Lib.hid (steps_any (m0 := mm0) 4096 hm3 (mm0_wf hp1) (hp3.mono fun k hk => hk.2) hpw hp2 (hv3.mono fun k hk => hk.2) hgv base (Hlb.out.keep hc3) (Nat.le_trans Hlb.out.le hmb))
    rw [runM_start] at HS
    have HM := Lib.hid (fun (w' : World) (F : Value × Value) (hmm : Mach w' (mb + 1) mb (.slice pq ps.length pc) (.slice vq view.length vc) (runM ps view).s (runM ps view).steps (runM ps view).fault F) => result_any (m := runM ps view) hmm (by have := (good_sizes hr.wf.s.out).1; omega))
    have HN : Hid (resF (runM ps view) = (runL ps view, runE ps view) ∧ (runM ps view).steps = runN ps view) := Lib.hid (by unfold runL runE runN; rw [if_pos hnew, if_pos hnew, if_pos hnew]; exact ⟨rfl, rfl⟩)
    have Hc3 := Lib.hid hc3
    have Hmb := Lib.hid hmb
    have HK := Lib.hid (fun (w4 : World) (F' : Value × Value) (h : MStep mb (.slice none 0 0, .slice none 0 0) F' w3 w4) => (Hc2.out.trans hc3).transR h.chg fun k hk e => by
      rcases e with e | e
      · have := Hc2.out.size; omega
      · rcases e with e | e <;> cases e)
    have HK2 := Lib.hid (fun (w4 : World) (F' : Value × Value) (h : MStep mb (.slice none 0 0, .slice none 0 0) F' w3 w4) => hc3.transR h.chg fun k hk e => by
      rcases e with e | e
      · omega
      · rcases e with e | e <;> cases e)
    clear hm3 hp3 hv3 hr hck hgv hp1 hp2 hpw hnew hc3 hmb p0 hz HC
    go_wp2_with fail
    refine HS.out.mono ?_
    rintro e w4 ⟨rfl, F', hs4, hm4⟩
    have Hc4 := Lib.hid (HK.out w4 F' hs4)
    have Hd4 := Lib.hid (HK2.out w4 F' hs4)
    have HR := Lib.hid (HM.out w4 F' hm4)
    have Hm4 := Lib.hid hm4
    rw [HN.out.1] at HR
    clear hs4 hm4 HS HK HK2 HM
    go_wp2_with fail
    refine HR.out.mono ?_
    rintro e w5 ⟨hc5, v5, rfl, hr5⟩
    obtain ⟨q5, c5, rfl, -, -⟩ := row_shape hr5
    have Hr5 := Lib.hid hr5
    have Hc5 := Lib.hid hc5
    have Hm5 := Lib.hid (Hm4.out.keep hc5)
    clear hr5 hc5 HR
    obtain ⟨k5, hk5⟩ : ∃ k, k = (runL ps view).length := ⟨_, rfl⟩
    rw [← hk5] at Hr5 ⊢
    have Hk5 := Lib.hid hk5
    clear hk5
    have hal_ := (Chg.refl NoB w5).alloc (.cells #[.slice q5 k5 c5] 25)
    have hb_ := heap_alloc_new w5 (.cells #[.slice q5 k5 c5] 25)
    obtain ⟨ob, hxb_⟩ : ∃ b, b = w5.heap.size := ⟨_, rfl⟩
    obtain ⟨w6, hw_⟩ : ∃ w_, w5.alloc (.cells #[.slice q5 k5 c5] 25) = w_ := ⟨_, rfl⟩
    have hz_ : w6.heap.size = ob + 1 := by rw [← hw_, hxb_]; exact alloc_size _ _
    rw [hw_] at hal_ hb_
    rw [← hxb_] at hb_
    have Hw6 := Lib.hid hw_
    have Hx6 := Lib.hid hxb_
    have Ha6 := Lib.hid hal_
    have Hb6 := Lib.hid hb_
    have Hz6 := Lib.hid hz_
    clear hal_ hb_ hxb_ hw_ hz_
    have hb6 := row_kept (Hc5.out.trans Ha6.out) (row_kept Hd4.out Hb2.out id) id
    have f0 := row_free hb6 0
    have r0 := var1 hb6
    have o0 := var1 Hb6.out
    have Hb62 := Lib.hid hb6
    have Hm6 := Lib.hid (Hm5.out.keep Ha6.out)
    have Hob := Lib.hid (show rb ≠ ob by have := Hx6.out; have := Hrb.out.2; have := Hd4.out.size; have := Hc5.out.size; omega)
    clear hb6
    go_upto_region 6 with fail
    rw [Hw6.out, ← Hx6.out]
    have hA := o0
    have hB : w6.drew.cell? ⟨ob, 0, none⟩ = some (.slice q5 k5 c5) := o0
    have hC : (w6.setCell ⟨rb, 0, none⟩ (.slice q5 k5 c5)).drew.cell? ⟨ob, 0, none⟩ = some (.slice q5 k5 c5) := (((Chg.refl (fun k => k = rb) w6).setCell (p := ⟨rb, 0, none⟩) (.inl rfl) _).drew).cell o0 (fun e => Hob.out e.symm)
    have HN7 := Lib.hid (nsteps_any (Hm6.out.keep (Chg.refl NoB w6).drew))
    go_wp2_with fail
    go_region_held3 (fun w' => w'.cell? ⟨ob, 0, none⟩ = some (.slice q5 k5 c5)) (first | with_reducible exact hA | with_reducible exact hB | with_reducible exact hC) (first | (go_at_call 20; refine HN7.out.mono ?_; rintro e w7 ⟨rfl, rfl⟩))
    clear hA hB hC
    go_wp2_with fail
    have hR := heap_set Hb62.out (i := 0) (.slice q5 k5 c5)
    have hcR : Chg (fun k => k = rb) w6 (w6.setCell ⟨rb, 0, none⟩ (.slice q5 k5 c5)).drew := ((Chg.refl (fun k => k = rb) w6).setCell (p := ⟨rb, 0, none⟩) (.inl rfl) _).drew
    have hR2 := row_kept (Chg.refl NoB (w6.setCell ⟨rb, 0, none⟩ (.slice q5 k5 c5))).drew hR id
    have hc6 : Chg NoB w w6 := Hc4.out.trans (Hc5.out.trans Ha6.out)
    have hr5 : w5.ownsRow w4.heap.size 43 2 (.slice q5 k5 c5) (runL ps view).length (flatP (runL ps view)) := by rw [← Hk5.out]; exact Hr5.out
    obtain ⟨ib, hib⟩ := InpS.of_row hr5
    have hi6 := (hib.keep (Ha6.out.trans (Chg.refl NoB w6)) fun _ _ => id)
    have hi7 := hi6.keep hcR fun k hk e => by have := hk.1; have := Hrb.out.2; have := Hd4.out.size; omega
    have hn5 := Hc5.out.size
    have hn6 := hcR.size
    have hn7 := Ha6.out.size
    have hn4 := Hc4.out.size
    unfold RunP
    refine bodyPost_ret (results_cellTT rfl _ rfl (run_loadVar_row _ _ _ _ _ _ _ hR2 (Tryz.underlying25) rfl rfl)) rfl ⟨hc6.transR hcR fun k hk e => by have := Hrb.out.1; omega, q5, k5, c5, ib, 0, Hk5.out, ?_, hi7.mono fun k hk => ⟨by have := hk.1; omega, by have := hk.2; omega⟩⟩
    rw [← HN.out.2]
    rfl
  · rw [if_neg hz] at h3
    subst h3
    have hb3 := row_kept hc3 Hb2.out id
    have f0 := row_free hb3 0
    have r0 := var1 hb3
    have Hb3 := Lib.hid hb3
    have Hc3 := Lib.hid hc3
    have hz2 : (y != 0) = true := by rw [bne_iff_ne]; exact hz
    have Hz := Lib.hid hz
    have HN : Hid (runL ps view = [] ∧ runN ps view = 0 ∧ runE ps view = y) := Lib.hid (by unfold runL runE runN; rw [if_neg (by rw [← Hy.out]; exact hz), if_neg (by rw [← Hy.out]; exact hz), if_neg (by rw [← Hy.out]; exact hz)]; exact ⟨rfl, rfl, Hy.out.symm⟩)
    clear hb3 hc3 hz
    go_wp2_with fail
    have hR := heap_set Hb3.out (i := 0) (.slice none 0 0)
    have hcR : Chg (fun k => k = rb) w3 (w3.setCell ⟨rb, 0, none⟩ (.slice none 0 0)) := (Chg.refl (fun k => k = rb) w3).setCell (p := ⟨rb, 0, none⟩) (.inl rfl) _
    unfold RunP
    rw [HN.out.1, HN.out.2.1, HN.out.2.2]
    exact bodyPost_ret (results_cellTT rfl _ rfl (run_loadVar_row _ _ _ _ _ _ _ hR (Tryz.underlying25) rfl rfl)) rfl ⟨(Hc2.out.trans Hc3.out).transR hcR fun k hk e => by have := Hrb.out.1; omega, none, 0, 0, 0, 0, rfl, rfl, InpS.nil _ _⟩
end Go.Proofs.YthehpmffkkogpaaGreatDoor
