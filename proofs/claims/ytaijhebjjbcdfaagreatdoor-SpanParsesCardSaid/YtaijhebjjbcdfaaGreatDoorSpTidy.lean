/- The contract of tidy: gaps in order, those that touch put together, empty ones left out. Condition: the gaps lie in memory of the call's own. -/
import Derived.Test.YtaijhebjjbcdfaaGreatDoorSpSort
import Derived.Test.YtaijhebjjbcdfaaGreatDoorSpGood
import Derived.StillTailTactics
import Derived.Deep.QuietTactic
import Derived.BigQuiet

namespace Go.Proofs.YtaijhebjjbcdfaaGreatDoor
set_option linter.unusedVariables false
open Go.ChangeShapes Go.WideShapes Go.ChangeAt Go.RowKit Go.Sort
theorem flatG_hi (l : List GapL) (m : Nat) (h : m < l.length) (u : Int) : flatG (l.set m (l[m].1, u)) = (flatG l).set (m * 2 + 1) (.int .i64 u) := by
  rw [flatG_set l m _ h]
  have h1 := (flatG_at l m h).1
  have hl : m * 2 < (flatG l).length := by rw [flatG_len]; omega
  rw [List.getElem?_eq_getElem hl] at h1
  have e : (flatG l).set (m * 2) (.int .i64 l[m].1) = flatG l := by
    rw [← Option.some.inj h1]
    exact List.set_getElem_self hl
  show ((flatG l).set (m * 2) (.int .i64 l[m].1)).set (m * 2 + 1) (.int .i64 u) = _
  rw [e]
theorem row_hi {w : World} {base g c : Nat} {l : List GapL} {n : Nat} (hn : n = l.length) (h : w.ownsRow base 37 2 (.slice (some ⟨g, 0, none⟩) n c) n (flatG l)) (m : Nat) (hm : m < l.length) (u : Int) :
    (w.setCell ⟨g, m * 2 + 1, none⟩ (.int .i64 u)).ownsRow base 37 2 (.slice (some ⟨g, 0, none⟩) n c) n (flatG (l.set m (l[m].1, u))) := by
  rcases h.2 with ⟨e, h0⟩ | ⟨g', cap, cur, e, k2, k3, k4, k5, k6, k7⟩
  · omega
  · injection e with e1 e2 e3
    injection e1 with e1
    injection e1 with e1
    subst e1
    have hset := heap_set k3 (i := m * 2 + 1) (.int .i64 u)
    refine ⟨by rw [flatG_len, List.length_set, hn], .inr ⟨g, cap, _, by rw [e3], k2, hset, k4, k5, by simpa using k6, ?_⟩⟩
    rw [flatG_hi l m hm, ← k7]
    simp only [Array.toList_setIfInBounds, List.take_set]
theorem row_cellG {w : World} {base g c n : Nat} {l : List GapL} (h : w.ownsRow base 37 2 (.slice (some ⟨g, 0, none⟩) n c) n (flatG l)) (m : Nat) (hm : m < l.length) : w.cell? ⟨g, m * 2, none⟩ = some (.int .i64 l[m].1) ∧ w.cell? ⟨g, m * 2 + 1, none⟩ = some (.int .i64 l[m].2) := by
  obtain ⟨a1, a2⟩ := flatG_at l m hm
  have b1 := World.ownsRow.cells (g := g) h rfl _ _ a1
  have b2 := World.ownsRow.cells (g := g) h rfl _ _ a2
  rw [add_zero_off] at b1 b2
  exact ⟨b1, b2⟩
theorem row_freeG {w : World} {base g n cap : Nat} {xs : List Value} {t : TypeId} {z : Nat} (h : w.ownsRow base t z (.slice (some ⟨g, 0, none⟩) n cap) n xs) : ∀ j, w.frozen? ⟨g, j, none⟩ = false := by
  rcases h.2 with ⟨e, _⟩ | ⟨g', cap', cur, e, hb, hh, _⟩
  · cases e
  · cases e
    exact row_free hh
theorem tidy_snoc (l : List GapL) (k : Nat) (h : k < l.length) : tidyF (l.take (k + 1)) = tidyS (tidyF (l.take k)) l[k] := by
  unfold tidyF
  rw [take_at h, List.foldl_append]
  rfl
theorem tidy_skip {o : List GapL} {g : GapL} (h : g.2 ≤ g.1) : tidyS o g = o := if_pos h
theorem tidy_nil {g : GapL} (h : ¬ g.2 ≤ g.1) : tidyS [] g = [g] := by unfold tidyS; rw [if_neg h]; rfl
theorem tidy_join {o : List GapL} {g : GapL} {m : Nat} (hm : o.length = m + 1) (h : ¬ g.2 ≤ g.1) (hj : g.1 ≤ (o[m]'(by omega)).2) : tidyS o g = o.set m ((o[m]'(by omega)).1, max (o[m]'(by omega)).2 g.2) := by
  unfold tidyS
  have hl : o.getLast? = some (o[m]'(by omega)) := by
    have e : o.length - 1 = m := by omega
    rw [List.getLast?_eq_getElem?, e]
    exact List.getElem?_eq_getElem _
  rw [if_neg h, hl]
  simp only
  rw [if_pos hj]
  apply List.ext_getElem
  · simp; omega
  · intro i h1 h2
    rw [List.getElem_set]
    by_cases e : m = i
    · subst e
      rw [if_pos rfl, List.getElem_append_right (by simp; omega)]
      simp
    · rw [if_neg e]
      have : i < m := by simp at h1; omega
      rw [List.getElem_append_left (by simp; omega), List.getElem_dropLast]
theorem tidy_new {o : List GapL} {g : GapL} {m : Nat} (hm : o.length = m + 1) (h : ¬ g.2 ≤ g.1) (hj : ¬ g.1 ≤ (o[m]'(by omega)).2) : tidyS o g = o ++ [g] := by
  unfold tidyS
  have hl : o.getLast? = some (o[m]'(by omega)) := by
    have e : o.length - 1 = m := by omega
    rw [List.getLast?_eq_getElem?, e]
    exact List.getElem?_eq_getElem _
  rw [if_neg h, hl]
  simp only
  rw [if_neg hj]
def TidyP (l : List GapL) (v : Value) (w : World) (e : Ending) (w' : World) : Prop := ∃ (d : List GapL) (q : Option Addr) (n c : Nat), d.Perm l ∧ Rises d ∧ n = (tidyF d).length ∧ e = .returned (.slice q n c) ∧ w'.ownsRow w.heap.size 37 2 (.slice q n c) n (flatG (tidyF d)) ∧ Chg (fun k => v.ownBlock = some k) w w'
theorem wpList_gap {w : World} {ops : Array Oper} {rest : List Oper} {o : Oper} {a : Act} {Q : Exit → Act → World → Prop} (hgd : o.guard = none) (s x : Operand)
    (ho : o.op = .call { callee := .builtin .append, args := #[s, x], argTypes := #[23, 23] })
    {base n : Nat} {v : Value} {l : List GapL} {b : Nat} {y : GapL} {f : Nat × Nat} (hs : a.eval s = v) (hx : a.eval x = .slice (some ⟨b, 0, none⟩) 1 1) (hn : n = l.length) {k : Nat} (hk : k = n + 1) (hown : w.ownsRow base 37 2 v n (flatG l)) (hb : w.heap[b]? = some (.cells #[.int .i64 y.1, .int .i64 y.2] 37 f)) (hl : n + 1 ≤ 1048576) (hbase : base ≤ w.heap.size)
    (h : ∀ v' w', w'.ownsRow base 37 2 v' k (flatG (l ++ [y])) → Chg (fun j => v.ownBlock = some j) w w' → wpList Tryz.prog ops Q rest (a.put o.dst v') w') : wpList Tryz.prog ops Q (o :: rest) a w := by
  obtain ⟨i0, hi, hz0, hz1, hz2⟩ := info_parts gapInfo
  refine wpList_append_at w hgd s x 23 ho base 37 i0 (.agg #[.int .i64 0, .int .i64 0]) 2 16 Tryz.underlying23 hi hz0 hz1 hz2 rfl (by decide) v n (flatG l) hs hown ⟨b, 0, none⟩ 1 1 (flatG [y]) hx rfl ?_ (flatG_one _) (by unfold maxLen; omega) (by omega) hbase ?_
  · intro j u hj
    rw [add_zero_off, cell_of_row w b j _ _ f hb]
    show (flatG [y]).toArray[j]? = some u
    rw [List.getElem?_toArray]
    exact hj
  · intro v' w' h1 h2 _
    rw [← flatG_app, ← hk] at h1
    exact h v' w' h1 ((Chg.refl _ w).grown h2 fun j hj => .inl hj)
set_option maxHeartbeats 4000000 in
set_option maxRecDepth 20000 in
theorem tidy_any (l : List GapL) (base : Nat) (v : Value) (w : World) (hrow : w.ownsRow base 37 2 v l.length (flatG l)) (hl : l.length ≤ 65536) : Calls Tryz.prog 27 #[v] w (TidyP l v w) := by
  obtain ⟨q, c, rfl, h1, h2⟩ := row_shape hrow
  obtain ⟨n, hn⟩ : ∃ n, n = l.length := ⟨_, rfl⟩
  have HS := Lib.hid (sort_any l base _ w hrow (by omega))
  rw [← hn] at HS h1 hl hrow ⊢
  have Hn := Lib.hid hn
  unfold maxLen at h2
  obtain ⟨i0, hi, hz0, hz1, hz2⟩ := info_parts gapInfo
  have Hi := Lib.hid hi
  have Zi0 := Lib.hid hz0
  have Zi1 := Lib.hid hz1
  have Zi2 := Lib.hid hz2
  clear hn hrow hi hz0 hz1 hz2
  go_enter Tryz.func27, Tryz.ntmps27
  go_wp2_with fail
  refine HS.out.mono ?_
  rintro e w1 ⟨rfl, d, hp, hr, hrow, hc1⟩
  have hdl : d.length = n := by rw [hp.length_eq, Hn.out]
  rw [← Hn.out] at hrow
  have Hp := Lib.hid (And.intro hp hr)
  have Hrow := Lib.hid hrow
  have Hc1 := Lib.hid hc1
  have Hdl := Lib.hid hdl
  have hq : 0 < n → ∃ g, q = some ⟨g, 0, none⟩ := fun h => by
    rcases hrow.2 with ⟨e, h0⟩ | ⟨g, cap, cur, e, _⟩
    · omega
    · exact ⟨g, by injection e⟩
  have Hq := Lib.hid hq
  clear hp hr hrow hc1 hdl hq HS
  go_wp2_with fail
  go_loopw [3, 11] (fun ov i wr => ∃ (k m c' : Nat) (q' : Option Addr) (o : List GapL), k ≤ n ∧ i = .int .i64 k ∧ ov = .slice q' m c' ∧ m = o.length ∧ m ≤ k ∧ o = tidyF (d.take k) ∧ wr.ownsRow w1.heap.size 37 2 (.slice q' m c') m (flatG o) ∧ Chg NoB w1 wr) (fun _ i _ => n - (intOf i).toNat)
  case atStart => exact ⟨0, 0, 0, none, [], Nat.zero_le _, rfl, rfl, rfl, Nat.le_refl _, rfl, World.ownsRow_nil _ _ _ _, Chg.refl _ _⟩
  case round =>
    obtain ⟨k, m, c', q', o, hk, rfl, rfl, hm, hmk, ho, hor, hch⟩ := hrel
    have Hm := Lib.hid hm
    have Ho := Lib.hid ho
    have Hor := Lib.hid hor
    have Hch := Lib.hid hch
    obtain ⟨-, -, -, j1, j2⟩ : ∃ a b, (Value.slice q' m c' = .slice a m b) ∧ m ≤ c' ∧ c' ≤ maxLen := by
      obtain ⟨a, b, e, h1, h2⟩ := row_shape hor
      cases e
      exact ⟨_, _, rfl, h1, h2⟩
    unfold maxLen at j2
    clear hm ho hor hch
    by_cases hlt : k < n
    · have hkd : k < d.length := by rw [Hdl.out]; exact hlt
      obtain ⟨g, rfl⟩ := Hq.out (by omega)
      obtain ⟨c0, c1⟩ := row_cellG (ownsRow_chg Hrow.out Hch.out fun _ _ => id) k hkd
      have Hsn := Lib.hid (tidy_snoc d k hkd)
      rw [← Ho.out] at Hsn
      generalize d[k] = x at *
      obtain ⟨x1, x2⟩ := x
      simp only at c0 c1
      have hal_ := (Chg.refl NoB wr).alloc (.cells #[.int .i64 x1, .int .i64 x2] 37)
      have hb_ := heap_alloc_new wr (.cells #[.int .i64 x1, .int .i64 x2] 37)
      obtain ⟨b5, hxb_⟩ : ∃ b, b = wr.heap.size := ⟨_, rfl⟩
      obtain ⟨w2, hw_⟩ : ∃ w_, wr.alloc (.cells #[.int .i64 x1, .int .i64 x2] 37) = w_ := ⟨_, rfl⟩
      have hz_ : w2.heap.size = b5 + 1 := by rw [← hw_, hxb_]; exact alloc_size _ _
      rw [hw_] at hal_ hb_
      rw [← hxb_] at hb_
      have Hw5 := Lib.hid hw_
      have Hx5 := Lib.hid hxb_
      have Ha5 := Lib.hid hal_
      have Hb5 := Lib.hid hb_
      have Hz5 := Lib.hid hz_
      clear hal_ hb_ hxb_ hw_ hz_
      obtain ⟨d0, d1⟩ := var2 Hb5.out
      have Hc2 := Lib.hid (Hch.out.trans Ha5.out)
      have Hor2 := Lib.hid (ownsRow_chg Hor.out Ha5.out fun _ _ => id)
      clear hkd
      go_upto_region 6 with fail
      rw [Hw5.out, ← Hx5.out]
      clear c0 c1
      by_cases e1 : x2 ≤ x1
      · have hsk := tidy_skip (o := o) (g := (x1, x2)) e1
        have Hsk := Lib.hid (Hsn.out.trans hsk)
        clear hsk
        go_wp2_with fail
        go_roundw
        case rel => exact ⟨k + 1, m, c', q', o, by omega, by go_num, rfl, Hm.out, by omega, Hsk.out.symm, Hor2.out, Hc2.out⟩
        case measure => simp [intOf]; omega
      · by_cases hm0 : m = 0
        · have ho0 : o = [] := List.eq_nil_of_length_eq_zero (by rw [← Hm.out]; exact hm0)
          have Hst := Lib.hid (show tidyF (d.take (k + 1)) = o ++ [(x1, x2)] by rw [Hsn.out, ho0]; exact tidy_nil e1)
          have el : decide ((0 : Int) ≤ (m : Int) - 1) = false := decide_eq_false (by omega)
          clear ho0
          go_upto_region 8 with fail
          go_quiet (fail)
          have hch3 := (Chg.refl NoB w2).drewN nq
          replace d0 := hch3.keep d0
          replace d1 := hch3.keep d1
          have HorW := Lib.hid (ownsRow_chg Hor2.out hch3 fun _ _ => id)
          have HcW := Lib.hid (Hc2.out.trans hch3)
          clear hch3 e1 el hm0
          generalize w2.drewN nq = w3 at *
          have hal_ := (Chg.refl NoB w3).alloc (.cells #[.int .i64 x1, .int .i64 x2] 37)
          have hb_ := heap_alloc_new w3 (.cells #[.int .i64 x1, .int .i64 x2] 37)
          obtain ⟨lb, hxb_⟩ : ∃ b, b = w3.heap.size := ⟨_, rfl⟩
          obtain ⟨w8, hw_⟩ : ∃ w_, w3.alloc (.cells #[.int .i64 x1, .int .i64 x2] 37) = w_ := ⟨_, rfl⟩
          have hz_ : w8.heap.size = lb + 1 := by rw [← hw_, hxb_]; exact alloc_size _ _
          rw [hw_] at hal_ hb_
          rw [← hxb_] at hb_
          have Hw8 := Lib.hid hw_
          have Hx8 := Lib.hid hxb_
          have Ha8 := Lib.hid hal_
          have Hb8 := Lib.hid hb_
          have Hz8 := Lib.hid hz_
          clear hal_ hb_ hxb_ hw_ hz_
          have Hc8 := Lib.hid (HcW.out.trans Ha8.out)
          have Hor8 := Lib.hid (ownsRow_chg HorW.out Ha8.out fun _ _ => id)
          clear HcW HorW Ha8
          go_wp2_with (at_builtin; go_loud (rw [← Hx8.out, Hw8.out]); go_loud (refine wpList_gap (y := (x1, x2)) rfl _ _ rfl rfl rfl Hm.out rfl Hor8.out Hb8.out (by omega) Hc8.out.size ?_); intro v9 w9 hown9 hch9; go_loud (obtain ⟨q9, c9, rfl, -, -⟩ := row_shape hown9); have Hown9 := Lib.hid hown9; go_loud (have Hc9 := Lib.hid (Hc8.out.above hch9 fun j hj => (World.ownsRow.lt Hor8.out j hj).1)); clear hown9 hch9)
          go_roundw
          case rel => exact ⟨k + 1, m + 1, c9, q9, o ++ [(x1, x2)], by omega, by go_num, rfl, by rw [List.length_append, ← Hm.out]; rfl, by omega, Hst.out.symm, Hown9.out, Hc9.out⟩
          case measure => simp [intOf]; omega
        · obtain ⟨p, rfl⟩ : ∃ p, m = p + 1 := ⟨m - 1, by omega⟩
          have hol : o.length = p + 1 := Hm.out.symm
          have hpo : p < o.length := by omega
          obtain ⟨og, rfl⟩ : ∃ og, q' = some ⟨og, 0, none⟩ := by
            rcases Hor2.out.2 with ⟨e, h0⟩ | ⟨g', cap, cur, e, _⟩
            · omega
            · exact ⟨g', by injection e⟩
          obtain ⟨-, t1⟩ := row_cellG Hor2.out p hpo
          have Hjoin := Lib.hid (fun hj => tidy_join (g := (x1, x2)) hol e1 hj)
          have Hnewt := Lib.hid (fun hj => tidy_new (g := (x1, x2)) hol e1 hj)
          have Hhi := Lib.hid (fun (w' : World) (h : w'.ownsRow w1.heap.size 37 2 (.slice (some ⟨og, 0, none⟩) (p + 1) c') (p + 1) (flatG o)) (u : Int) => row_hi hol.symm h p hpo u)
          have fr := row_freeG Hor2.out
          have Hog := Lib.hid (World.ownsRow.lt Hor2.out og rfl)
          obtain ⟨tg, htg⟩ : ∃ z, z = o[p] := ⟨_, rfl⟩
          rw [← htg] at t1
          simp only [← htg] at Hjoin Hnewt Hhi
          obtain ⟨t0, t2⟩ := tg
          simp only at t1
          have hp0 : (0 : Int) ≤ (p : Int) := by omega
          have hp1 : (p : Int) < ((p + 1 : Nat) : Int) := by omega
          clear hol hpo htg
          go_upto_region 8 with fail
          have q0 : ∀ n, (w2.drewN n).cell? ⟨b5, 0, none⟩ = some (.int .i64 x1) := fun n => d0
          have q1 : ∀ n, (w2.drewN n).cell? ⟨og, p * 2 + 1, none⟩ = some (.int .i64 t2) := fun n => t1
          by_cases e2 : x1 ≤ t2
          · have f2 := decide_eq_true e2
            go_quiet (fail)
            have hch3 := (Chg.refl NoB w2).drewN nq
            replace d0 := hch3.keep d0
            replace d1 := hch3.keep d1
            replace t1 := hch3.keep t1
            have HorW := Lib.hid (ownsRow_chg Hor2.out hch3 fun _ _ => id)
            have HcW := Lib.hid (Hc2.out.trans hch3)
            have e2' := e2
            clear hch3 e1 e2 f2 q0 q1 hm0
            generalize w2.drewN nq = w3 at *
            have Hst := Lib.hid (Hsn.out.trans (Hjoin.out e2'))
            have q2 : w3.drew.cell? ⟨og, p * 2 + 1, none⟩ = some (.int .i64 t2) := t1
            have q3 : w3.drew.cell? ⟨b5, 1, none⟩ = some (.int .i64 x2) := d1
            have hp2 : (p : Int) < (p : Int) + 1 := by omega
            have hp3 : p < p + 1 := by omega
            go_upto_region 9 with fail
            go_still_tail 12, (by kernel_rfl)
            change wpList _ _ _ _ _ w3.drew
            have HorD := Lib.hid (ownsRow_chg HorW.out (Chg.refl NoB w3).drew fun _ _ => id)
            have HcD := Lib.hid (HcW.out.trans (Chg.refl NoB w3).drew)
            clear HorW HcW q3 d0 d1 t1
            generalize w3.drew = w4 at *
            have fr4 := row_freeG HorD.out
            go_wp2_with fail
            go_roundw
            case rel => exact ⟨k + 1, p + 1, c', some ⟨og, 0, none⟩, o.set p (t0, (max t2 x2)), by omega, by go_num, rfl, by rw [List.length_set]; exact Hm.out, by omega, Hst.out.symm, Hhi.out w4 HorD.out (max t2 x2), HcD.out.setCell (.inr Hog.out.1) _⟩
            case measure => simp [intOf]; omega
          · have f2 := decide_eq_false e2
            have Hst := Lib.hid (show tidyF (d.take (k + 1)) = o ++ [(x1, x2)] from Hsn.out.trans (Hnewt.out e2))
            go_quiet (fail)
            have hch3 := (Chg.refl NoB w2).drewN nq
            replace d0 := hch3.keep d0
            replace d1 := hch3.keep d1
            have HorW := Lib.hid (ownsRow_chg Hor2.out hch3 fun _ _ => id)
            have HcW := Lib.hid (Hc2.out.trans hch3)
            clear hch3 e1 e2 f2 q0 q1 t1 fr hm0 hp0 hp1
            generalize w2.drewN nq = w3 at *
            obtain ⟨m, hmp⟩ : ∃ z, z = p + 1 := ⟨_, rfl⟩
            rw [← hmp] at hmk j1 Hm HorW ⊢
            have Hmp := Lib.hid hmp
            clear hmp
            have hal_ := (Chg.refl NoB w3).alloc (.cells #[.int .i64 x1, .int .i64 x2] 37)
            have hb_ := heap_alloc_new w3 (.cells #[.int .i64 x1, .int .i64 x2] 37)
            obtain ⟨lb, hxb_⟩ : ∃ b, b = w3.heap.size := ⟨_, rfl⟩
            obtain ⟨w8, hw_⟩ : ∃ w_, w3.alloc (.cells #[.int .i64 x1, .int .i64 x2] 37) = w_ := ⟨_, rfl⟩
            have hz_ : w8.heap.size = lb + 1 := by rw [← hw_, hxb_]; exact alloc_size _ _
            rw [hw_] at hal_ hb_
            rw [← hxb_] at hb_
            have Hw8 := Lib.hid hw_
            have Hx8 := Lib.hid hxb_
            have Ha8 := Lib.hid hal_
            have Hb8 := Lib.hid hb_
            have Hz8 := Lib.hid hz_
            clear hal_ hb_ hxb_ hw_ hz_
            have Hc8 := Lib.hid (HcW.out.trans Ha8.out)
            have Hor8 := Lib.hid (ownsRow_chg HorW.out Ha8.out fun _ _ => id)
            clear HcW HorW Ha8
            go_wp2_with (at_builtin; go_loud (rw [← Hx8.out, Hw8.out]); go_loud (refine wpList_gap (y := (x1, x2)) rfl _ _ rfl rfl rfl Hm.out rfl Hor8.out Hb8.out (by omega) Hc8.out.size ?_); intro v9 w9 hown9 hch9; go_loud (obtain ⟨q9, c9, rfl, -, -⟩ := row_shape hown9); have Hown9 := Lib.hid hown9; go_loud (have Hc9 := Lib.hid (Hc8.out.above hch9 fun j hj => (World.ownsRow.lt Hor8.out j hj).1)); clear hown9 hch9)
            go_roundw
            case rel => exact ⟨k + 1, m + 1, c9, q9, o ++ [(x1, x2)], by omega, by go_num, rfl, by rw [List.length_append, ← Hm.out]; rfl, by omega, Hst.out.symm, Hown9.out, Hc9.out⟩
            case measure => simp [intOf]; omega
    · obtain rfl : k = n := by omega
      have Hfin := Lib.hid (show o = tidyF d by rw [Ho.out, ← Hdl.out, List.take_length])
      have HcF := Lib.hid (Hc1.out.trans (Hch.out.mono fun _ _ h => h.elim))
      have HsF := Lib.hid Hc1.out.size
      go_wp2_with fail
      go_ret
      exact ⟨d, q', m, c', Hp.out.1, Hp.out.2, by rw [← Hfin.out]; exact Hm.out, rfl, by rw [← Hfin.out]; exact ownsRow_low HsF.out Hor.out, HcF.out⟩
end Go.Proofs.YtaijhebjjbcdfaaGreatDoor
