/- The contracts of a shelf's All, and of the iterator that it makes. Condition: at most 2^20 pairs. -/
import Derived.Test.YtbloglfmhhgccaaShOps
import Derived.Test.YtbloglfmhhgccaaKeepT
import Derived.WalkSpells

namespace Go.Proofs.Ytbloglfmhhgccaa
set_option linter.unusedVariables false
open Go.ChangeShapes Go.WideShapes Go.ChangeAt Go.RowKit Go.Shelf
attribute [local go_sem] Oper.semAt_some
theorem InpS.news {w : World} {S : Nat → Prop} {q : Option Addr} {n c : Nat} {l : List FileL} {kb ko : Nat} (h : InpS w S (.slice q n c) l kb ko) : (∃ a, q = some a ∧ ∀ j u, (flatP l)[j]? = some u → w.cell? (a.add j) = some u) ∨ (q = none ∧ l = []) := by
  obtain ⟨⟨q', c', e', h1, h2, h3⟩, hat⟩ := h
  cases e'
  cases q with
  | none =>
    right
    by_cases h : l = []
    · exact ⟨rfl, h⟩
    · obtain ⟨h, -⟩ := h3 h; cases h
  | some a =>
    left
    refine ⟨a, rfl, fun j u hj => ?_⟩
    have hlt : j < (flatP l).length := (List.getElem?_eq_some_iff.1 hj).1
    rw [flatP_len] at hlt
    have hne : l ≠ [] := by rintro rfl; simp at hlt
    obtain ⟨ha, -⟩ := h3 hne
    cases ha
    have hd : j / 2 < l.length := by omega
    obtain ⟨g0, g1⟩ := flatP_at l (j / 2) hd
    obtain ⟨c0, c1⟩ := hat (j / 2) hd
    rw [Go.WideShapes.add_plain]
    rcases Nat.mod_two_eq_zero_or_one j with hm | hm
    · have e : j / 2 * 2 = j := by omega
      rw [e] at g0 c0
      rw [g0] at hj
      cases hj
      exact c0
    · have e : j / 2 * 2 + 1 = j := by omega
      rw [e] at g1
      rw [Nat.add_assoc, e] at c1
      rw [g1] at hj
      cases hj
      exact c1
def CloneS (l : List FileL) (w : World) (e : Ending) (w' : World) : Prop := Chg NoB w w' ∧ ∃ v', e = .returned v' ∧ w'.ownsRow w.heap.size 61 2 v' l.length (flatP l)
set_option maxHeartbeats 1000000 in
set_option maxRecDepth 20000 in
theorem cloneS_any (l : List FileL) (S : Nat → Prop) (v : Value) (kb ko : Nat) (w : World) (hl : l.length ≤ 1048576) (hs : InpS w S v l kb ko) : Calls Try.prog 46 #[v] w (CloneS l w) := by
  have hs0 := hs
  obtain ⟨⟨q, c, rfl, h1, h2, h3⟩, hat⟩ := hs
  have hnews := hs0.news
  obtain ⟨n, hn⟩ : ∃ n, n = l.length := ⟨_, rfl⟩
  rw [← hn] at h1 hl ⊢
  have Hn := Lib.hid hn
  rcases hnews with ⟨a, rfl, hnews⟩ | ⟨rfl, rfl⟩
  · have hal := (Chg.refl NoB w).alloc (.cells #[] 61)
    have hb := heap_alloc_new w (.cells #[] 61)
    have hnews : ∀ j u, (flatP l)[j]? = some u → (w.alloc (.cells #[] 61)).cell? (a.add j) = some u := fun j u hj => hal.keep (hnews j u hj)
    have hrow0 : (w.alloc (.cells #[] 61)).ownsRow w.heap.size 61 2 (.slice (some ⟨w.heap.size, 0, none⟩) 0 0) 0 [] := ⟨rfl, .inr ⟨_, 0, #[], rfl, Nat.le_refl _, hb, Nat.le_refl _, Nat.zero_le _, rfl, rfl⟩⟩
    obtain ⟨i0, hi, hz0, hz1, hz2⟩ := info_parts pairInfo
    have Hrow0 := Lib.hid hrow0
    have Hnews := Lib.hid hnews
    have Hal := Lib.hid hal
    have Hi := Lib.hid hi
    have Hz0 := Lib.hid hz0
    have Hz1 := Lib.hid hz1
    have Hz2 := Lib.hid hz2
    have Hlen : Hid ((flatP l).length = n * 2) := Lib.hid (by rw [flatP_len, hn])
    have M1 := Lib.hid (show 0 + n ≤ maxLen by unfold maxLen; omega)
    have M2 := Lib.hid (show (0 + n) * 32 ≤ 140737488355328 by omega)
    have Hb0 := Lib.hid (show w.heap.size ≤ (w.alloc (.cells #[] 61)).heap.size from hal.size)
    have hq := fun (w : World) => Lib.run_eql_slice_nil (P := Try.prog) w 55 61 (some a) n c 0 0 Try.underlying55
    unfold maxLen at h2
    clear hal hb hnews hrow0 hi hz0 hz1 hz2 h3 hat hn hs0
    go_enter Try.func46, Try.ntmps46
    go_wp2_with (at_builtin; refine wpList_append_at _ rfl _ _ 55 rfl w.heap.size 61 i0 (.agg #[.string ⟨#[]⟩, .string ⟨#[]⟩]) 2 32 Try.underlying55 Hi.out Hz0.out Hz1.out Hz2.out rfl (by decide) _ 0 [] rfl Hrow0.out a n c (flatP l) rfl Hlen.out Hnews.out (flatP_one l) M1.out M2.out Hb0.out ?_)
    intro v9 w9 hown9 hgr9 hpl9
    have hown : w9.ownsRow w.heap.size 61 2 v9 n (flatP l) := by simpa using hown9
    have hch : Chg NoB w w9 := Hal.out.grown hgr9 fun j hj => .inr (by cases hj; exact Nat.le_refl _)
    have Hown := Lib.hid hown
    have Hch := Lib.hid hch
    clear hown9 hgr9 hpl9 hown hch
    go_wp2_with fail
    go_ret
    exact ⟨Hch.out, v9, rfl, by rw [← Hn.out]; exact Hown.out⟩
  · obtain rfl : n = 0 := hn
    have hq := fun (w : World) => Lib.run_eql_slice_nil (P := Try.prog) w 55 61 none 0 c 0 0 Try.underlying55
    clear hs0 hat h3
    go_enter Try.func46, Try.ntmps46
    go_wp2_with fail
    go_ret
    exact ⟨Chg.refl _ _, _, rfl, World.ownsRow_nil _ _ _ _⟩
def AllP (ps : List FileL) (w : World) (e : Ending) (w' : World) : Prop := Chg NoB w w' ∧ ∃ (pb : Nat) (pv : Value) (nb : Nat), e = .returned (.func (.func 45) #[] #[.pointer (some ⟨pb, 0, none⟩)]) ∧ w.heap.size ≤ pb ∧ w'.cell? ⟨pb, 0, none⟩ = some pv ∧ InpS w' (NewB w w') pv ps nb 0
def RisP (v : Value) (w : World) (e : Ending) (w' : World) : Prop := Chg NoB w w' ∧ e = .returned (.func (.func 45) #[] #[.pointer (some ⟨w.heap.size, 0, none⟩)]) ∧ w'.heap.size = w.heap.size + 1 ∧ w'.cell? ⟨w.heap.size, 0, none⟩ = some v
theorem rising_any (q : Option Addr) (n c : Nat) (w : World) : Calls Try.prog 38 #[.slice q n c] w (RisP (.slice q n c) w) := by
  have h1 := (Chg.refl NoB w).alloc (.cells #[.slice q n c] 55)
  have h2 := aSize w (.cells #[.slice q n c] 55)
  have h3 := var1 (heap_alloc_new w (.cells #[.slice q n c] 55))
  have H1 := Lib.hid h1
  have H2 := Lib.hid h2
  have H3 := Lib.hid h3
  clear h1 h2 h3
  go_enter Try.func38, Try.ntmps38
  go_wp2_with fail
  go_ret
  exact ⟨H1.out, rfl, H2.out, H3.out⟩
theorem copied_any (ps : List FileL) (hl : ps.length ≤ 1048576) (lo ob : Nat) (w : World) (h : ShO w lo ob ps) : Calls Try.prog 39 #[.pointer (some ⟨ob, 0, none⟩), .int .i64 0, .int .i64 (ps.length : Nat)] w (CloneS ps w) := by
  obtain ⟨q, c, h1, h2, h3⟩ := h.row
  obtain ⟨kb, hs⟩ := InpS.of_row h2 rfl
  have HC := Lib.hid (cloneS_any ps _ _ kb 0 w hl hs)
  have o0 := var1 h1
  obtain ⟨q', c', e, hnc, hcm⟩ := row_shape h2
  simp only [Value.slice.injEq] at e
  obtain ⟨-, -, rfl⟩ := e
  obtain ⟨n, hn⟩ : ∃ n, n = ps.length := ⟨_, rfl⟩
  rw [← hn] at HC o0 hnc ⊢
  unfold maxLen at hcm
  clear h h1 h2 h3 hs hn hl
  go_enter Try.func39, Try.ntmps39
  go_wp2_with fail
  refine HC.out.mono ?_
  rintro e w2 ⟨hc2, v2, rfl, hrow⟩
  have Hc2 := Lib.hid hc2
  have Hrow := Lib.hid hrow
  clear hc2 hrow o0
  go_wp2_with fail
  go_ret
  exact ⟨Hc2.out, _, rfl, Hrow.out⟩
theorem copied_nil (w : World) : Calls Try.prog 39 #[.pointer none, .int .i64 0, .int .i64 0] w fun e w' => e = .returned (.slice none 0 0) ∧ w = w' := by
  go_enter Try.func39, Try.ntmps39
  go_wp2_with fail
  go_ret
  exact ⟨rfl, rfl⟩
theorem sall_any (ps : List FileL) (hl : ps.length ≤ 1048576) (lo ob : Nat) (w : World) (h : ShO w lo ob ps) : Calls Try.prog 31 #[.pointer (some ⟨ob, 0, none⟩)] w (AllP ps w) := by
  have HL := Lib.hid (slen_any ps lo ob w h)
  have HC := Lib.hid (copied_any ps hl lo ob w h)
  obtain ⟨n, hn⟩ : ∃ n, n = ps.length := ⟨_, rfl⟩
  rw [← hn] at HL HC
  have Hn := Lib.hid hn
  clear h hl hn
  go_enter Try.func31, Try.ntmps31
  go_wp2_with fail
  refine HL.out.mono ?_
  rintro e w' ⟨rfl, rfl⟩
  go_wp2_with fail
  refine HC.out.mono ?_
  rintro e w2 ⟨hc2, v2, rfl, hrow⟩
  obtain ⟨vq, vc, rfl, -, -⟩ := row_shape hrow
  obtain ⟨nb, hns⟩ := InpS.of_row hrow rfl
  have HR := Lib.hid (rising_any vq ps.length vc w2)
  have Hc2 := Lib.hid hc2
  have Hns := Lib.hid hns
  rw [← Hn.out] at HR ⊢
  rw [← Hn.out] at Hns
  clear hc2 hrow hns
  go_wp2_with fail
  refine HR.out.mono ?_
  rintro e w3 ⟨hc3, rfl, hz3, hp3⟩
  have Hc3 := Lib.hid hc3
  have Hz3 := Lib.hid hz3
  have Hp3 := Lib.hid hp3
  clear hc3 hz3 hp3
  go_wp2_with fail
  go_ret
  have s2 := Hc2.out.size
  have s3 := Hz3.out
  exact ⟨Hc2.out.trans Hc3.out, w2.heap.size, _, nb, rfl, s2, Hp3.out, (Hns.out.keep Hc3.out fun _ _ => id).mono fun y hy => ⟨hy.1, by have := hy.2; omega⟩⟩
theorem sall_nil (w : World) : Calls Try.prog 31 #[.pointer none] w (AllP [] w) := by
  have HL := Lib.hid (slen_nil w)
  have HC := Lib.hid (copied_nil w)
  have HR := Lib.hid (rising_any none 0 0 w)
  go_enter Try.func31, Try.ntmps31
  go_wp2_with fail
  refine HL.out.mono ?_
  rintro e w' ⟨rfl, rfl⟩
  go_wp2_with fail
  refine HC.out.mono ?_
  rintro e w' ⟨rfl, rfl⟩
  go_wp2_with fail
  refine HR.out.mono ?_
  rintro e w3 ⟨hc3, rfl, hz3, hp3⟩
  have Hc3 := Lib.hid hc3
  have Hp3 := Lib.hid hp3
  clear hc3 hz3 hp3
  go_wp2_with fail
  go_ret
  exact ⟨Hc3.out, w.heap.size, _, 0, rfl, Nat.le_refl _, Hp3.out, InpS.nil _ _⟩
theorem InpS.keepT {w w' : World} {S T : Nat → Prop} (hc : KeepT T w w') (hST : ∀ k, S k → ¬ T k) {v : Value} {xs : List FileL} {kb ko : Nat} (h : InpS w S v xs kb ko) : InpS w' S v xs kb ko := by
  obtain ⟨hsh, hat⟩ := h
  refine ⟨hsh, fun i hi => ?_⟩
  obtain ⟨q, c, _, _, _, hq⟩ := hsh
  have hne : xs ≠ [] := by rintro rfl; simp at hi
  have hS := (hq hne).2
  exact ⟨hc.cell (hat i hi).1 (hST kb hS), hc.cell (hat i hi).2 (hST kb hS)⟩
theorem abides_chg {β : Type} {B : Nat} {J : β → World → Prop} (h : AbidesFrom B J) {s : β} {W W' : World} (hc : Chg NoB W W') (hs : J s W) : J s W' :=
  h s W W' none hs ⟨hc.os, hc.tape, hc.output, hc.size, fun k hk _ => hc.block k hk id⟩ fun r e => by cases e
set_option maxRecDepth 100000 in
set_option maxHeartbeats 4000000 in
theorem rising1_in (m l pb : Nat) (T S : Nat → Prop) (ps : List FileL) (ht : ps.length ≤ 1048576) (pv : Value) (kb ko : Nat)
    (hST : ∀ k, S k → ¬ T k) (hpT : ¬ T pb) (J Jx : List FileL → World → Prop) (W : World) (hJ : AbidesFrom W.heap.size J)
    (hY : ∀ pre x W, J pre W → pre.length < ps.length → YieldAt Fence.wide (m - 1) Try.prog l #[.string (tx x.1), .string (tx x.2)] W fun e W' =>
      (e = .returned (.bool true) ∧ J (pre ++ [x]) W' ∧ KeepT T W W') ∨ (e = .returned (.bool false) ∧ Jx (pre ++ [x]) W'))
    (hp : W.cell? ⟨pb, 0, none⟩ = some pv) (hs : InpS W S pv ps kb ko) (h0 : J [] W) :
    CallsIn Fence.wide m Try.prog 45 #[.func (.yield l) #[] #[], .pointer (some ⟨pb, 0, none⟩)] W fun e W' => (∃ v, e = .returned v) ∧
      ((∃ ys, ys = ps ∧ J ys W') ∨ (∃ pre, pre <+: ps ∧ Jx pre W')) := by
  have Hs := Lib.hid hs
  obtain ⟨⟨q, c, rfl, h1, h2, h3⟩, hat⟩ := hs
  have H3 := Lib.hid h3
  unfold maxLen at h2
  obtain ⟨n, hn⟩ : ∃ n, n = ps.length := ⟨_, rfl⟩
  rw [← hn] at h1 ht hp Hs
  have Hn := Lib.hid hn
  have HJ := Lib.hid hJ
  have HY := Lib.hid hY
  have Hp := Lib.hid hp
  have HST := Lib.hid hST
  have H0 := Lib.hid h0
  clear hn hJ hY hpT hST h0 h3 hat
  refine callsIn_of_wp Try.func45 rfl trivial ?_ rfl
  simp only [Try.ntmps45, List.size_toArray, List.length_cons, List.length_nil, Nat.reduceAdd, Nat.reduceSub, Array.replicate_succ, Array.replicate_zero, List.push_toArray, List.append_toArray, List.nil_append, List.cons_append]
  gi_wp2
  clear hp
  gi_loopw [7] (fun i wr => ∃ k : Nat, k ≤ n ∧ i = .int .i64 k ∧ J (ps.take k) wr ∧ KeepT T W wr) (fun i _ => n - (intOf i).toNat)
  case atStart => exact ⟨0, Nat.zero_le _, rfl, by rw [List.take_zero]; exact H0.out, KeepT.refl _ _⟩
  case round =>
    obtain ⟨k, hk, rfl, hJr, hkr⟩ := hrel
    have HJr := Lib.hid hJr
    have Hkr := Lib.hid hkr
    clear hJr hkr
    by_cases hlt : k < n
    · have hlt' : k < ps.length := by rw [← Hn.out]; exact hlt
      obtain ⟨rfl, -⟩ := H3.out (by intro e; rw [e] at hlt'; simp at hlt')
      obtain ⟨-, hat⟩ := Hs.out.keepT Hkr.out HST.out
      obtain ⟨c0, c1⟩ := hat k hlt'
      have Htk := Lib.hid (take_at hlt')
      have Hpre := Lib.hid (List.take_prefix (k + 1) ps)
      generalize ps[k] = x at *
      obtain ⟨x1, x2⟩ := x
      simp only at c0 c1
      have hal := (Chg.refl NoB wr).alloc (.cells #[.string (tx x1), .string (tx x2)] 61)
      have hbx := heap_alloc_new wr (.cells #[.string (tx x1), .string (tx x2)] 61)
      have Hk7 := Lib.hid (Hkr.out.trans (Chg.keepT hal fun _ => False.elim))
      obtain ⟨fn, tmps, assign, body, hy, hR⟩ := HY.out (ps.take k) (x1, x2) (wr.alloc (.cells #[.string (tx x1), .string (tx x2)] 61)) (abides_chg HJ.out hal HJr.out) (by rw [List.length_take]; omega)
      have HR := Lib.hid hR
      obtain ⟨g0, g1⟩ := var2 hbx
      clear hlt' hat hal hbx hR
      gi_wp2
      refine ⟨fun h => (by cases h), ?_⟩
      refine HR.out.mono ?_
      rintro e W4 (⟨rfl, hJ4, hk4⟩ | ⟨rfl, hx4⟩)
      · gi_wp2
        go_roundw
        case rel => exact ⟨k + 1, by omega, by go_num, by rw [Htk.out]; exact hJ4, Hk7.out.trans hk4⟩
        case measure => simp [intOf]; omega
      · gi_wp2
        refine bodyPost_ret (results_none rfl _ _ _) rfl ?_
        exact ⟨⟨_, rfl⟩, .inr ⟨_, by rw [← Htk.out]; exact Hpre.out, hx4⟩⟩
    · obtain rfl : k = n := by omega
      have htk : ps.take k = ps := by rw [Hn.out, List.take_length]
      rw [htk] at HJr
      clear htk hlt
      gi_wp2
      go_end0
      exact ⟨⟨_, rfl⟩, .inl ⟨_, rfl, HJr.out⟩⟩
theorem rising1_stops (m pb : Nat) (T S : Nat → Prop) (ps : List FileL) (ht : ps.length ≤ 1048576) (pv : Value) (kb ko : Nat) (w : World)
    (hST : ∀ k, S k → ¬ T k) (hpT : ¬ T pb) (hp : w.cell? ⟨pb, 0, none⟩ = some pv) (hs : InpS w S pv ps kb ko) :
    SeqStopsK Fence.wide m Try.prog 45 #[.pointer (some ⟨pb, 0, none⟩)] (fun x : FileL => #[Value.string (tx x.1), Value.string (tx x.2)]) (KeepT T) (fun ys => ys = ps) (fun pre => pre <+: ps) ps.length w := fun l J Jx W hW hJ hJx hY h0 => by
  have hc : Chg NoB w W := ⟨hW.os, hW.tape, hW.output, hW.size, fun k hk _ => hW.block k hk⟩
  refine (rising1_in m l pb T S ps ht pv kb ko hST hpT J Jx W (fun s A B row hs hg hr => hJ _ A B row hs hg hr) (fun pre x V hj hl => hY pre x V hj hl) (hc.keep hp) (hs.keep hc fun _ _ => id) h0).mono ?_
  rintro e W' ⟨hv, (⟨ys, rfl, hj⟩ | ⟨pre, hr, hj⟩)⟩
  · exact ⟨hv, .inl ⟨_, rfl, hj⟩⟩
  · exact ⟨hv, .inr ⟨_, hr, hj⟩⟩
end Go.Proofs.Ytbloglfmhhgccaa
