/- The contracts of Write, Flush, Cut, Arm and New. Condition: what stands in RS.ok; fewer than 10^9 acts. -/
import Derived.Test.YtpjnbcecbppeoaaWalkC
namespace Go.Proofs.Ytpjnbcecbppeoaa
set_option linter.unusedVariables false
open Go.ChangeShapes Go.WideShapes Go.ChangeAt Go.RowKit
def Did (b : Nat) (R : Nat → Prop) (s : RS) (c : Int) (w : World) (e : Ending) (w' : World) : Prop := e = .returned (.int .i64 c) ∧ ∃ R', Rb w' b R' s ∧ Went R R' w w'
theorem Act1.did {b : Nat} {R : Nat → Prop} {s : RS} {w : World} {e : Ending} {w' : World} (h : Act1 b R s w e w') : Did b R s s.code w e w' := ⟨h.1, R, h.2.1, Went.same h.2.2⟩
theorem went_act {b : Nat} {R R' : Nat → Prop} {s : RS} {c : Int} {w w1 : World} {e : Ending} {w' : World} (g : Went R R' w w1) (h : Did b R' s c w1 e w') : Did b R s c w e w' := by
  obtain ⟨h1, R'', h2, h3⟩ := h
  exact ⟨h1, R'', h2, g.trans h3⟩
/- behind an append onto the ribbon's bytes and a store of them -/
theorem wrote (b : Nat) (R : Nat → Prop) (s : RS) (ys : List UInt8) (w w1 : World) (ad : Option Addr) (cap : Nat) (v' : Value) (hok : s.ok) (h1 : R b)
    (h2 : w.heap[b]? = some (.cells #[.slice ad s.xs.length cap, .int .i64 s.safe, .bool s.down, .int .i64 s.acts, .int .i64 s.armed, .int .i64 s.keep] 49 (0, 0)))
    (h4 : ∀ k, (Value.slice ad s.xs.length cap).ownBlock = some k → R k ∧ k ≠ b)
    (hown : w1.ownsRow 0 5 1 v' (s.xs.length + ys.length) (bytesV s.xs ++ bytesV ys)) (hgr : w.grownBy w1 (Value.slice ad s.xs.length cap).ownBlock) (hl : s.xs.length + ys.length ≤ 1048576)
    (hnew : ∀ k, v'.ownBlock = some k → (Value.slice ad s.xs.length cap).ownBlock = some k ∨ w.heap.size ≤ k) :
    w1.heap[b]? = some (.cells #[.slice ad s.xs.length cap, .int .i64 s.safe, .bool s.down, .int .i64 s.acts, .int .i64 s.armed, .int .i64 s.keep] 49 (0, 0)) ∧
    ∃ R', Rb (w1.setCell ⟨b, 0, none⟩ v') b R' { s with xs := s.xs ++ ys } ∧ Went R R' w (w1.setCell ⟨b, 0, none⟩ v') := by
  have hlt := lt_of_block h2
  have hb1 : w1.heap[b]? = some (.cells #[.slice ad s.xs.length cap, .int .i64 s.safe, .bool s.down, .int .i64 s.acts, .int .i64 s.armed, .int .i64 s.keep] 49 (0, 0)) :=
    (hgr.block b hlt fun e => (h4 b e.symm).2 rfl).trans h2
  refine ⟨hb1, fun k => R k ∨ (w.heap.size ≤ k ∧ k < w1.heap.size), ?_, ?_⟩
  · have ho : Own w1 0 v' (s.xs ++ ys) := by
      show w1.ownsRow 0 5 1 v' (s.xs ++ ys).length (bytesV (s.xs ++ ys))
      rw [List.length_append, bytesV_append]; exact hown
    have hlv := ho.lt
    obtain ⟨ad', cap', rfl, q1, q2, _⟩ := ho.shape
    have hne : ∀ k, (Value.slice ad' (s.xs ++ ys).length cap').ownBlock = some k → k ≠ b := by
      intro k hk e
      subst e
      rcases ho.2 with ⟨x, _⟩ | ⟨g, c, cur, x, _, hh, _⟩
      · rw [x] at hk; simp [Value.ownBlock] at hk
      · rw [x] at hk
        simp only [Value.ownBlock, Option.some.injEq] at hk
        subst hk
        rw [hb1] at hh
        simp at hh
    have hset := set_0 hb1 (.slice ad' (s.xs ++ ys).length cap')
    have hc : Chg (fun k => k = b) w1 (w1.setCell ⟨b, 0, none⟩ (.slice ad' (s.xs ++ ys).length cap')) := setB _ (Chg.refl _ w1)
    have ho' := ho.chg hc fun k hk => hne k hk
    refine rb_mk _ _ _ _ _ _ _ _ _ _ _ _ rfl hset ho' (fun k hk => ⟨?_, hne k hk⟩) (.inl h1) ⟨?_, ?_, hok.2.2.1, hok.2.2.2⟩
    · rcases hnew k hk with hold | hkk
      · exact .inl (h4 k hold).1
      · exact .inr ⟨hkk, (hlv k hk).2⟩
    · show s.safe ≤ (s.xs ++ ys).length
      have := hok.1
      rw [List.length_append]; omega
    · show (s.xs ++ ys).length ≤ _
      rw [List.length_append]; omega
  · refine ⟨⟨hgr.os, hgr.tape, hgr.output, by simpa [World.setCell] using hgr.size, fun k hk hs => ?_⟩, fun k hk => ?_, fun k hk => .inl hk⟩
    · refine (Below.heap_setCell w1 _ _ k (by rintro rfl; exact hs h1)).trans (hgr.block k hk fun e => hs (h4 k e.symm).1)
    · rcases hk with hk | hk
      · exact .inl hk
      · exact .inr ⟨hk.1, by simpa [World.setCell] using hk.2⟩
theorem shape_of {w : World} {base n : Nat} {v : Value} {xs : List Value} (h : w.ownsRow base 5 1 v n xs) : ∃ ad cap, v = .slice ad n cap := by
  rcases h.2 with ⟨x, rfl⟩ | ⟨g, c, cur, x, _⟩
  · exact ⟨none, 0, x⟩
  · exact ⟨_, c, x⟩
theorem own_base0 {w : World} {base n : Nat} {v : Value} {xs : List Value} (h : w.ownsRow base 5 1 v n xs) : w.ownsRow 0 5 1 v n xs := by
  refine ⟨h.1, ?_⟩
  rcases h.2 with x | ⟨g, c, cur, x, y, r⟩
  · exact .inl x
  · exact .inr ⟨g, c, cur, x, Nat.zero_le _, r⟩
set_option maxHeartbeats 2000000 in
theorem write_nil (b : Nat) (R : Nat → Prop) (s : RS) (ad : Option Addr) (cap : Nat) (w : World) (hd : s.down = false) (hb : s.acts < 1000000000)
    (hok : s.ok) (h1 : R b) (h2 : w.heap[b]? = some (.cells #[.slice ad s.xs.length cap, .int .i64 s.safe, .bool s.down, .int .i64 s.acts, .int .i64 s.armed, .int .i64 s.keep] 49 (0, 0)))
    (h3 : Own w 0 (.slice ad s.xs.length cap) s.xs) (h4 : ∀ k, (Value.slice ad s.xs.length cap).ownBlock = some k → R k ∧ k ≠ b) (hl : s.xs.length + 0 ≤ 1048576) :
    Calls Try.prog 11 #[.pointer (some ⟨b, 0, none⟩), .slice none 0 0] w (Did b R (RS.actTo { s with xs := s.xs ++ [] }) (RS.actTo { s with xs := s.xs ++ [] }).code w) := by
  have c0 := cell_of_row w b 0 _ 49 (0, 0) h2
  simp at c0
  have f := fz h2
  have hrd := ready_any b R s w ⟨hok, h1, _, cap, h2, h3, h4⟩
  have e0 : s.code = 0 := by unfold RS.code; rw [hd]; rfl
  rw [e0] at hrd
  have Hrd := Lib.hid hrd
  have Hok := Lib.hid hok
  have Hd := Lib.hid hd
  have H2 := Lib.hid h2
  have H3 := Lib.hid h3
  have H4 := Lib.hid h4
  obtain ⟨i0, hi, hz0, hz1, hz2⟩ := info_parts info5
  clear h2 h3 h4 hok hrd e0 hd
  have hl2 : s.xs.length ≤ 1048576 := by omega
  go_enter Try.func11, Try.ntmps11
  go_wp2_with fail
  refine Hrd.out.mono ?_
  rintro e w' ⟨rfl, rfl⟩
  go_wp2_with (refine wpList_append_own_none rfl (.tmp 24) (.tmp 25) 22 rfl 0 5 i0 1 Try.underlying22 hi (.slice ad s.xs.length cap) s.xs.length (bytesV s.xs) rfl H3.out rfl ?_)
  have hown : w.ownsRow 0 5 1 (.slice ad s.xs.length cap) (s.xs.length + ([] : List UInt8).length) (bytesV s.xs ++ bytesV []) := by have ho := H3.out; unfold Own at ho; simpa [bytesV] using ho
  have hgr : w.grownBy w (Value.slice ad s.xs.length cap).ownBlock := World.grownBy.refl w _
  have hnew : ∀ k, (Value.slice ad s.xs.length cap).ownBlock = some k → (Value.slice ad s.xs.length cap).ownBlock = some k ∨ w.heap.size ≤ k := fun k hk => .inl hk
  obtain ⟨hb1, R', hrb, hwt⟩ := wrote b R s [] w w ad cap _ Hok.out h1 H2.out H4.out hown hgr hl hnew
  have c0' := cell_of_row w b 0 _ 49 (0, 0) hb1
  simp at c0'
  have f' := fz hb1
  have Hrb := Lib.hid hrb
  have Hwt := Lib.hid hwt
  clear hb1 hrb hwt hown hgr hnew
  go_wp2_with fail
  refine (act_any b R' _ _ Hrb.out Hd.out hb).mono ?_
  intro e w2 hact
  have hdid := went_act Hwt.out hact.did
  obtain ⟨he, hact2⟩ := hact
  subst he
  go_wp2_with fail
  go_ret
  exact ⟨ret_i64 (by simp), hdid.2⟩
set_option maxHeartbeats 2000000 in
theorem write_fits (b : Nat) (R : Nat → Prop) (s : RS) (a : Addr) (m c : Nat) (ys : List UInt8) (g cap : Nat) (w : World) (hd : s.down = false) (hb : s.acts < 1000000000)
    (hm : m = ys.length) (hy : ∀ j (hj : j < ys.length), w.cell? (a.add j) = some (.int .u8 (ys[j].toNat : Int)))
    (hok : s.ok) (h1 : R b) (h2 : w.heap[b]? = some (.cells #[.slice (some ⟨g, 0, none⟩) s.xs.length cap, .int .i64 s.safe, .bool s.down, .int .i64 s.acts, .int .i64 s.armed, .int .i64 s.keep] 49 (0, 0)))
    (h3 : Own w 0 (.slice (some ⟨g, 0, none⟩) s.xs.length cap) s.xs) (h4 : ∀ k, (Value.slice (some ⟨g, 0, none⟩) s.xs.length cap).ownBlock = some k → R k ∧ k ≠ b) (hl : s.xs.length + ys.length ≤ 1048576) (hroom : s.xs.length + m ≤ cap) :
    Calls Try.prog 11 #[.pointer (some ⟨b, 0, none⟩), .slice (some a) m c] w (Did b R (RS.actTo { s with xs := s.xs ++ ys }) (RS.actTo { s with xs := s.xs ++ ys }).code w) := by
  have Hy := Lib.hid hy
  have Hm := Lib.hid hm
  have hl2 : s.xs.length + m ≤ 1048576 := by omega
  clear hy hm
  have c0 := cell_of_row w b 0 _ 49 (0, 0) h2
  simp at c0
  have f := fz h2
  have hrd := ready_any b R s w ⟨hok, h1, _, cap, h2, h3, h4⟩
  have e0 : s.code = 0 := by unfold RS.code; rw [hd]; rfl
  rw [e0] at hrd
  have Hrd := Lib.hid hrd
  have Hok := Lib.hid hok
  have Hd := Lib.hid hd
  have H2 := Lib.hid h2
  have H3 := Lib.hid h3
  have H4 := Lib.hid h4
  obtain ⟨i0, hi, hz0, hz1, hz2⟩ := info_parts info5
  clear h2 h3 h4 hok hrd e0 hd
  go_enter Try.func11, Try.ntmps11
  go_wp2_with fail
  refine Hrd.out.mono ?_
  rintro e w' ⟨rfl, rfl⟩
  go_wp2_with (at_builtin; refine wpList_append_fits _ rfl _ _ 22 rfl 0 5 i0 1 Try.underlying22 hi hz1 g s.xs.length cap (bytesV s.xs) rfl H3.out a m c (bytesV ys) rfl ?c0 ?c1 ?c2 hroom ?_)
  case c0 => rw [bytesV_len, Hm.out]; omega
  case c1 =>
    intro j u hj
    obtain ⟨hj', rfl⟩ := bytesV_at ys j u hj
    exact Hy.out j hj'
  case c2 => exact bytesV_one ys
  intro w1 hown hgr
  have hown : w1.ownsRow 0 5 1 (.slice (some ⟨g, 0, none⟩) (s.xs.length + m) cap) (s.xs.length + ys.length) (bytesV s.xs ++ bytesV ys) := by rw [← Hm.out]; exact hown
  have hnew : ∀ k, (Value.slice (some ⟨g, 0, none⟩) (s.xs.length + m) cap).ownBlock = some k → (Value.slice (some ⟨g, 0, none⟩) s.xs.length cap).ownBlock = some k ∨ w.heap.size ≤ k := fun k hk => .inl hk
  obtain ⟨hb1, R', hrb, hwt⟩ := wrote b R s ys w w1 _ cap _ Hok.out h1 H2.out H4.out hown hgr hl hnew
  have c0' := cell_of_row w1 b 0 _ 49 (0, 0) hb1
  simp at c0'
  have f' := fz hb1
  have Hrb := Lib.hid hrb
  have Hwt := Lib.hid hwt
  clear hb1 hrb hwt hown hgr hnew
  go_wp2_with fail
  refine (act_any b R' _ _ Hrb.out Hd.out hb).mono ?_
  intro e w2 hact
  have hdid := went_act Hwt.out hact.did
  obtain ⟨he, hact2⟩ := hact
  subst he
  go_wp2_with fail
  go_ret
  exact ⟨rfl, hdid.2⟩
set_option maxHeartbeats 2000000 in
theorem write_grows (b : Nat) (R : Nat → Prop) (s : RS) (a : Addr) (m c : Nat) (ys : List UInt8) (ad : Option Addr) (cap : Nat) (w : World) (hd : s.down = false) (hb : s.acts < 1000000000)
    (hm : m = ys.length) (hy : ∀ j (hj : j < ys.length), w.cell? (a.add j) = some (.int .u8 (ys[j].toNat : Int)))
    (hok : s.ok) (h1 : R b) (h2 : w.heap[b]? = some (.cells #[.slice ad s.xs.length cap, .int .i64 s.safe, .bool s.down, .int .i64 s.acts, .int .i64 s.armed, .int .i64 s.keep] 49 (0, 0)))
    (h3 : Own w 0 (.slice ad s.xs.length cap) s.xs) (h4 : ∀ k, (Value.slice ad s.xs.length cap).ownBlock = some k → R k ∧ k ≠ b) (hl : s.xs.length + ys.length ≤ 1048576) (hfull : cap < s.xs.length + m) :
    Calls Try.prog 11 #[.pointer (some ⟨b, 0, none⟩), .slice (some a) m c] w (Did b R (RS.actTo { s with xs := s.xs ++ ys }) (RS.actTo { s with xs := s.xs ++ ys }).code w) := by
  have Hy := Lib.hid hy
  have Hm := Lib.hid hm
  have hl2 : s.xs.length + m ≤ 1048576 := by omega
  clear hy hm
  have c0 := cell_of_row w b 0 _ 49 (0, 0) h2
  simp at c0
  have f := fz h2
  have hrd := ready_any b R s w ⟨hok, h1, _, cap, h2, h3, h4⟩
  have e0 : s.code = 0 := by unfold RS.code; rw [hd]; rfl
  rw [e0] at hrd
  have Hrd := Lib.hid hrd
  have Hok := Lib.hid hok
  have Hd := Lib.hid hd
  have H2 := Lib.hid h2
  have H3 := Lib.hid h3
  have H4 := Lib.hid h4
  obtain ⟨i0, hi, hz0, hz1, hz2⟩ := info_parts info5
  clear h2 h3 h4 hok hrd e0 hd
  have hnone : ad = none → s.xs.length = 0 ∧ cap = 0 := by
    intro hn
    rcases H3.out.2 with ⟨x, hx⟩ | ⟨g, c, cur, x, _⟩
    · simp only [Value.slice.injEq] at x; exact ⟨hx, x.2.2⟩
    · rw [hn] at x; simp at x
  have holds : ∀ q, ad = some q → ∀ j u, (bytesV s.xs)[j]? = some u → w.cell? (q.add j) = some u := by
    intro q hq j u hj
    rcases H3.out.2 with ⟨x, hx⟩ | ⟨g, c, cur, x, _⟩
    · rw [hq] at x; simp at x
    · rw [hq] at x
      simp only [Value.slice.injEq, Option.some.injEq] at x
      obtain ⟨rfl, _, rfl⟩ := x
      have ho := H3.out
      unfold Own at ho
      rw [hq] at ho
      exact World.ownsRow.cells ho (g := g) rfl j u hj
  have Hnone := Lib.hid hnone
  have Hholds := Lib.hid holds
  clear hnone holds
  go_enter Try.func11, Try.ntmps11
  go_wp2_with fail
  refine Hrd.out.mono ?_
  rintro e w' ⟨rfl, rfl⟩
  go_wp2_with (at_builtin; refine wpList_append_grows _ rfl _ _ 22 rfl 5 i0 (.int .u8 0) 1 1 Try.underlying22 hi hz0 hz1 hz2 rfl (by decide) ad s.xs.length cap (bytesV s.xs) rfl Hnone.out ?d0 Hholds.out a m c (bytesV ys) rfl ?c0 ?c1 ?c2 hfull ?d1 ?d2 ?_)
  case d0 => rw [bytesV_len]; omega
  case d1 => unfold maxLen; omega
  case d2 => omega
  case c0 => rw [bytesV_len, Hm.out]; omega
  case c1 =>
    intro j u hj
    obtain ⟨hj', rfl⟩ := bytesV_at ys j u hj
    exact Hy.out j hj'
  case c2 => exact bytesV_one ys
  intro v' w1 hown0 hgr0
  have hown : w1.ownsRow 0 5 1 v' (s.xs.length + ys.length) (bytesV s.xs ++ bytesV ys) := by rw [← Hm.out]; exact own_base0 hown0
  have hgr : w.grownBy w1 (Value.slice ad s.xs.length cap).ownBlock := ⟨hgr0.os, hgr0.tape, hgr0.output, hgr0.size, fun k hk _ => hgr0.block k hk (by simp)⟩
  have hnew : ∀ k, v'.ownBlock = some k → (Value.slice ad s.xs.length cap).ownBlock = some k ∨ w.heap.size ≤ k := fun k hk => .inr (World.ownsRow.lt hown0 k hk).1
  clear hown0 hgr0
  obtain ⟨ad', cap', hv'⟩ := shape_of hown
  subst hv'
  obtain ⟨hb1, R', hrb, hwt⟩ := wrote b R s ys w w1 ad cap _ Hok.out h1 H2.out H4.out hown hgr hl hnew
  have c0' := cell_of_row w1 b 0 _ 49 (0, 0) hb1
  simp at c0'
  have f' := fz hb1
  have Hrb := Lib.hid hrb
  have Hwt := Lib.hid hwt
  clear hb1 hrb hwt hown hgr hnew
  go_wp2_with fail
  refine (act_any b R' _ _ Hrb.out Hd.out hb).mono ?_
  intro e w2 hact
  have hdid := went_act Hwt.out hact.did
  obtain ⟨he, hact2⟩ := hact
  subst he
  go_wp2_with fail
  go_ret
  exact ⟨rfl, hdid.2⟩
set_option maxHeartbeats 2000000 in
theorem write_none (b : Nat) (R : Nat → Prop) (s : RS) (a : Addr) (m c : Nat) (ys : List UInt8) (cap : Nat) (w : World) (hd : s.down = false) (hb : s.acts < 1000000000)
    (hm : m = ys.length) (hy : ∀ j (hj : j < ys.length), w.cell? (a.add j) = some (.int .u8 (ys[j].toNat : Int)))
    (hok : s.ok) (h1 : R b) (h2 : w.heap[b]? = some (.cells #[.slice none s.xs.length cap, .int .i64 s.safe, .bool s.down, .int .i64 s.acts, .int .i64 s.armed, .int .i64 s.keep] 49 (0, 0)))
    (h3 : Own w 0 (.slice none s.xs.length cap) s.xs) (h4 : ∀ k, (Value.slice none s.xs.length cap).ownBlock = some k → R k ∧ k ≠ b) (hl : s.xs.length + ys.length ≤ 1048576) (hz : m = 0) :
    Calls Try.prog 11 #[.pointer (some ⟨b, 0, none⟩), .slice (some a) m c] w (Did b R (RS.actTo { s with xs := s.xs ++ ys }) (RS.actTo { s with xs := s.xs ++ ys }).code w) := by
  have Hy := Lib.hid hy
  have Hm := Lib.hid hm
  have hl2 : s.xs.length + m ≤ 1048576 := by omega
  clear hy hm
  have c0 := cell_of_row w b 0 _ 49 (0, 0) h2
  simp at c0
  have f := fz h2
  have hrd := ready_any b R s w ⟨hok, h1, _, cap, h2, h3, h4⟩
  have e0 : s.code = 0 := by unfold RS.code; rw [hd]; rfl
  rw [e0] at hrd
  have Hrd := Lib.hid hrd
  have Hok := Lib.hid hok
  have Hd := Lib.hid hd
  have H2 := Lib.hid h2
  have H3 := Lib.hid h3
  have H4 := Lib.hid h4
  obtain ⟨i0, hi, hz0, hz1, hz2⟩ := info_parts info5
  clear h2 h3 h4 hok hrd e0 hd
  have H3b : w.ownsRow 0 5 1 (.slice none s.xs.length cap) s.xs.length (bytesV s.xs) := H3.out
  have hv : (Value.slice none s.xs.length cap) = .slice none 0 0 := by
    rcases H3b.2 with ⟨x, hx⟩ | ⟨g, c, cur, x, _⟩
    · exact x
    · simp at x
  have Hv := Lib.hid hv
  have Hz := Lib.hid hz
  clear hv hz H3b
  go_enter Try.func11, Try.ntmps11
  go_wp2_with fail
  refine Hrd.out.mono ?_
  rintro e w' ⟨rfl, rfl⟩
  go_wp2_with (at_builtin; refine wpList_append_own _ rfl _ _ 22 rfl 0 5 i0 (.int .u8 0) 1 1 Try.underlying22 hi hz0 hz1 hz2 rfl (by decide) _ _ _ rfl H3.out a m c (bytesV ys) rfl ?c0 ?c1 ?c2 ?d1 ?d2 ?d3 ?_)
  case d1 => unfold maxLen; omega
  case d2 => omega
  case d3 => simp
  case c0 => rw [bytesV_len, Hm.out]; omega
  case c1 =>
    intro j u hj
    obtain ⟨hj', rfl⟩ := bytesV_at ys j u hj
    exact Hy.out j hj'
  case c2 => exact bytesV_one ys
  intro v' w1 hown0 hgr hnil
  have hvn : v' = .slice none 0 0 := hnil.2 ⟨by simpa using Hv.out, Hz.out⟩
  have hown : w1.ownsRow 0 5 1 v' (s.xs.length + ys.length) (bytesV s.xs ++ bytesV ys) := by rw [← Hm.out]; exact hown0
  have hnew : ∀ k, v'.ownBlock = some k → (Value.slice none s.xs.length cap).ownBlock = some k ∨ w.heap.size ≤ k := fun k hk => by rw [hvn] at hk; simp [Value.ownBlock] at hk
  clear hown0 hnil hvn
  obtain ⟨ad', cap', hv'⟩ := shape_of hown
  subst hv'
  obtain ⟨hb1, R', hrb, hwt⟩ := wrote b R s ys w w1 none cap _ Hok.out h1 H2.out H4.out hown hgr hl hnew
  have c0' := cell_of_row w1 b 0 _ 49 (0, 0) hb1
  simp at c0'
  have f' := fz hb1
  have Hrb := Lib.hid hrb
  have Hwt := Lib.hid hwt
  clear hb1 hrb hwt hown hgr hnew
  go_wp2_with fail
  refine (act_any b R' _ _ Hrb.out Hd.out hb).mono ?_
  intro e w2 hact
  have hdid := went_act Hwt.out hact.did
  obtain ⟨he, hact2⟩ := hact
  subst he
  go_wp2_with fail
  go_ret
  exact ⟨rfl, hdid.2⟩
theorem write_any (b : Nat) (R : Nat → Prop) (s : RS) (v : Value) (ys : List UInt8) (w : World) (h : Rb w b R s) (hv : Src w v ys) (hd : s.down = false) (hb : s.acts < 1000000000) (hl : s.xs.length + ys.length ≤ 1048576) :
    Calls Try.prog 11 #[.pointer (some ⟨b, 0, none⟩), v] w (Did b R (RS.actTo { s with xs := s.xs ++ ys }) (RS.actTo { s with xs := s.xs ++ ys }).code w) := by
  obtain ⟨hok, h1, ad, cap, h2, h3, h4⟩ := h
  rcases hv with ⟨rfl, rfl⟩ | ⟨a, c, rfl, q1, q2, q3⟩
  · exact write_nil b R s ad cap w hd hb hok h1 h2 h3 h4 hl
  · by_cases hfull : cap < s.xs.length + ys.length
    · exact write_grows b R s a ys.length c ys ad cap w hd hb rfl q3 hok h1 h2 h3 h4 hl hfull
    · cases ad with
      | none =>
        have : ys.length = 0 := by
          have ho : w.ownsRow 0 5 1 (.slice none s.xs.length cap) s.xs.length (bytesV s.xs) := h3
          rcases ho.2 with ⟨x, hx⟩ | ⟨g, c, cur, x, _⟩
          · simp only [Value.slice.injEq] at x; omega
          · simp at x
        exact write_none b R s a ys.length c ys cap w hd hb rfl q3 hok h1 h2 h3 h4 hl this
      | some q =>
        have ho : w.ownsRow 0 5 1 (.slice (some q) s.xs.length cap) s.xs.length (bytesV s.xs) := h3
        rcases ho.2 with ⟨x, hx⟩ | ⟨g, c', cur, x, _⟩
        · simp at x
        · simp only [Value.slice.injEq, Option.some.injEq] at x
          obtain ⟨rfl, _, _⟩ := x
          exact write_fits b R s a ys.length c ys g cap w hd hb rfl q3 hok h1 h2 h3 h4 hl (by omega)
end Go.Proofs.Ytpjnbcecbppeoaa
