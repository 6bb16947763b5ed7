/- The iterator that strings.SplitSeq makes (a mark that is not empty): the pieces one by one, until a round says no more; it keeps what is left in a block of its own. Condition: the body writes none of its three blocks. -/
import Derived.Test.YtaihgciokfkonaaDoorSpOver
import Derived.Test.YtaihgciokfkonaaDoorSpSplit
import Derived.Test.YtaihgciokfkonaaDoorShelf
import Derived.RangeFuncBox

namespace Go.Proofs.YtaihgciokfkonaaDoor
set_option linter.unusedVariables false
open Go.ChangeShapes Go.WideShapes Go.ChangeAt Go.RowKit Go.Shelf
attribute [local go_sem] Oper.semAt_some
theorem cut_tx (t : List UInt8) (a b : Nat) (hab : a ≤ b) (hb : b ≤ t.length) : (tx t).extract a b = tx ((t.take b).drop a) := by
  apply ByteArray.ext
  rw [ByteArray.data_extract]
  show t.toArray.extract a b = ((t.take b).drop a).toArray
  simp [List.drop_take]
def leftN (sb : Nat) (w : World) : Nat := match w.cell? ⟨sb, 0, none⟩ with | some (.string b) => b.size | _ => 0
theorem leftN_eq {sb : Nat} {w : World} {b : ByteArray} (h : w.cell? ⟨sb, 0, none⟩ = some (.string b)) : leftN sb w = b.size := by unfold leftN; rw [h]
set_option maxRecDepth 100000 in
set_option maxHeartbeats 4000000 in
theorem seq1_in (m l sb pb zb : Nat) (Tb : Nat → Prop) (s0 sep : List UInt8) (hsep : sep ≠ []) (hs0 : s0.length ≤ 1048576) (hsl : sep.length ≤ 1048576) (h1 : ¬ Tb sb) (h2 : ¬ Tb pb) (h3 : ¬ Tb zb) (h4 : ¬ Tb 3) (hps : pb ≠ sb) (hzs : zb ≠ sb) (h2s : 3 ≠ sb) (J Jx : List (List UInt8) → World → Prop) (W : World) (hJ : FreeX W.heap.size (fun k => k = sb) J)
    (hY : ∀ pre x W1, x.length ≤ s0.length → J pre W1 → pre.length < (Lib.split s0 sep).length → W.heap.size ≤ W1.heap.size → YieldAt Fence.wide (m - 1) Tryd.prog l #[.string (tx x)] W1 fun e W' =>
      (e = .returned (.bool true) ∧ J (pre ++ [x]) W' ∧ KeepT Tb W1 W') ∨ (e = .returned (.bool false) ∧ Jx (pre ++ [x]) W'))
    (mx : Int) (hm : W.cell? ⟨3, 0, none⟩ = some (.int .i64 mx)) (hs : W.heap[sb]? = some (.cells #[.string (tx s0)] 9 (0, 0))) (hp : W.cell? ⟨pb, 0, none⟩ = some (.string (tx sep))) (hz : W.cell? ⟨zb, 0, none⟩ = some (.int .i64 0)) (h0 : J [] W) :
    CallsIn Fence.wide m Tryd.prog 52 #[.func (.yield l) #[] #[], .pointer (some ⟨pb, 0, none⟩), .pointer (some ⟨sb, 0, none⟩), .pointer (some ⟨zb, 0, none⟩)] W fun e W' => (∃ v, e = .returned v) ∧
      ((∃ ys, ys = Lib.split s0 sep ∧ J ys W') ∨ (∃ pre, pre <+: Lib.split s0 sep ∧ Jx pre W')) := by
  have HJ := Lib.hid hJ
  have HY := Lib.hid hY
  have H0 := Lib.hid h0
  have HT := Lib.hid (And.intro h1 (And.intro h2 (And.intro h3 h4)))
  have Hne := Lib.hid (And.intro hps (And.intro hzs h2s))
  have Hs := Lib.hid hs
  have Hm := Lib.hid hm
  have Hz := Lib.hid hz
  have Hp := Lib.hid hp
  have Hsep := Lib.hid hsep
  have Hs0 := Lib.hid hs0
  have hz1 : (tx sep).size = sep.length := tx_size sep
  have hpos : 0 < sep.length := List.length_pos_iff.2 hsep
  clear hJ hY h0 h1 h2 h3 h4 hps hzs h2s hs hm hz hsep
  refine callsIn_of_wp Tryd.func52 rfl trivial ?_ rfl
  simp only [Tryd.ntmps52, List.size_toArray, List.length_cons, List.length_nil, Nat.reduceAdd, Nat.reduceSub, Array.replicate_succ, Array.replicate_zero, List.push_toArray, List.append_toArray, List.nil_append, List.cons_append]
  have hn0 : ¬ ((sep.length : Int) = 0) := by omega
  have hn1 : ((sep.length : Int) == 0) = false := by simpa using hn0
  gi_wp2
  try rw [hn1]
  gi_loopw [7] (fun _ wr => ∃ (pre : List (List UInt8)) (r : List UInt8), Lib.split s0 sep = pre ++ Lib.split r sep ∧ r.length ≤ s0.length ∧ J pre wr ∧ wr.heap[sb]? = some (.cells #[.string (tx r)] 9 (0, 0)) ∧ KeepT (fun k => Tb k ∨ k = sb) W wr) (fun _ wr => leftN sb wr)
  case atStart => exact ⟨[], s0, rfl, Nat.le_refl _, H0.out, Hs.out, KeepT.refl _ _⟩
  case round =>
    obtain ⟨pre, r, hsp, hrl, hjr, hsr, hkr⟩ := hrel
    have Hsp := Lib.hid hsp
    have Hjr := Lib.hid hjr
    have Hsr := Lib.hid hsr
    have Hkr := Lib.hid hkr
    have c0 := var1 hsr
    have c1 := hkr.cell Hp.out (fun h => h.elim HT.out.2.1 Hne.out.1)
    have c2 := hkr.cell Hz.out (fun h => h.elim HT.out.2.2.1 Hne.out.2.1)
    have Hmr := Lib.hid (hkr.cell Hm.out (fun h => h.elim HT.out.2.2.2 Hne.out.2.2))
    have hI := Tryd.strings_Index (tx r) (tx sep) mx wr (by rw [tx_size]; omega) Hmr.out
    rw [tx_list, tx_list] at hI
    obtain ⟨z, hz⟩ : ∃ z, z = Lib.index r sep := ⟨_, rfl⟩
    rw [← hz] at hI
    have HI := Lib.hid ((callsIn_wide (n := m - 1)).2 hI)
    have Hz' := Lib.hid hz
    clear hsp hjr hsr hkr hI hz
    have HK := Lib.hid (And.intro c1 c2)
    gi_wp2
    refine ⟨trivial, fun h => (by cases h), ?_⟩
    refine HI.out.mono ?_
    rintro e W3 ⟨rfl, hW3⟩
    rw [hW3]
    clear hW3 HI W3
    have hlp : pre.length < (Lib.split s0 sep).length := by
      rw [Hsp.out, List.length_append]
      have : 0 < (Lib.split r sep).length := by
        rcases Lib.index_spec r sep with ⟨h, -⟩ | ⟨i, h, hi, -, -⟩
        · rw [spl_miss h]; exact Nat.one_pos
        · rw [spl_hit Hsep.out h]; exact Nat.succ_pos _
      omega
    have Hlp := Lib.hid hlp
    clear hlp
    rcases Lib.index_spec r sep with ⟨h, -⟩ | ⟨i, h, hi, -, -⟩
    · have Hone := Lib.hid (show Lib.split s0 sep = pre ++ [r] by rw [Hsp.out, spl_miss h])
      rw [Hz'.out, h]
      clear h
      obtain ⟨fn, tmps, assign, body, hy, hR⟩ := HY.out pre r wr (by omega) Hjr.out Hlp.out Hkr.out.size
      have HR := Lib.hid hR
      clear hR
      gi_wp2
      refine ⟨fun h => (by cases h), ?_⟩
      refine HR.out.mono ?_
      rintro e W4 (⟨rfl, hJ4, hk4⟩ | ⟨rfl, hx4⟩)
      · gi_wp2
        go_end0
        exact ⟨⟨_, rfl⟩, .inl ⟨_, rfl, by rw [Hone.out]; exact hJ4⟩⟩
      · gi_wp2
        go_end0
        exact ⟨⟨_, rfl⟩, .inr ⟨_, by rw [Hone.out]; exact List.prefix_refl _, hx4⟩⟩
    · have hroom := Lib.index_room r sep (by omega)
      rw [h] at hroom
      replace hroom : i + sep.length ≤ r.length := by omega
      have Hhit := Lib.hid (show Lib.split s0 sep = (pre ++ [r.take i]) ++ Lib.split (r.drop (i + sep.length)) sep by rw [Hsp.out, spl_hit Hsep.out h, List.append_assoc]; rfl)
      rw [Hz'.out, h]
      have hcut1 : (tx r).extract 0 i = tx (r.take i) := by rw [cut_tx r 0 i (by omega) (by omega)]; rfl
      have hcut2 : (tx r).extract (i + sep.length) r.length = tx (r.drop (i + sep.length)) := by rw [cut_tx r _ _ (by omega) (Nat.le_refl _), List.take_length]
      have HYk := HY.out pre (r.take i) wr (by rw [List.length_take]; omega) Hjr.out Hlp.out Hkr.out.size
      rw [← hcut1] at HYk
      obtain ⟨fn, tmps, assign, body, hy, hR⟩ := HYk
      have HR := Lib.hid hR
      have Hcut2 := Lib.hid hcut2
      have hrs : (tx r).size = r.length := tx_size r
      have hrl' : r.length ≤ 1048576 := by omega
      clear hR h hcut1 hcut2
      gi_wp2
      refine ⟨fun h => (by cases h), ?_⟩
      refine HR.out.mono ?_
      rintro e W4 (⟨rfl, hJ4, hk4⟩ | ⟨rfl, hx4⟩)
      · have Hx4 := Lib.hid (hk4.row Hsr.out HT.out.1)
        have e0 := var1 Hx4.out
        have e1 := hk4.cell HK.out.1 HT.out.2.1
        have fr := row_free Hx4.out
        have HJ4 := Lib.hid hJ4
        have Hk4 := Lib.hid hk4
        clear hJ4 hk4 HR c0 c1 c2
        gi_wp2
        rw [Hcut2.out]
        go_roundw
        case rel => exact ⟨pre ++ [r.take i], r.drop (i + sep.length), Hhit.out, by rw [List.length_drop]; omega, HJ.out _ _ _ (some sb) HJ4.out (grownBy_setCell' W4 sb _) (fun r e => .inr (by cases e; rfl)), heap_set Hx4.out _, (Hkr.out.trans ⟨Hk4.out.size, fun k o hk ho ht => Hk4.out.same k o hk ho fun x => ht (.inl x)⟩).trans (((Chg.refl (fun k => k = sb) W4).setCell (p := ⟨sb, 0, none⟩) (.inl rfl) _).keepT fun k h => .inr h)⟩
        case measure =>
          rw [leftN_eq (var1 (heap_set Hx4.out _)), leftN_eq (var1 Hsr.out), tx_size, tx_size, List.length_drop]
          omega
      · gi_wp2
        refine bodyPost_ret (results_none rfl _ _ _) rfl ?_
        refine ⟨⟨_, rfl⟩, .inr ⟨pre ++ [r.take i], ?_, ?_⟩⟩
        · rw [Hhit.out]; exact List.prefix_append _ _
        · exact hx4
/- texts that are not too long -/
abbrev B20 := { x : List UInt8 // x.length ≤ 65536 }
def clip (x : List UInt8) : B20 := if h : x.length ≤ 65536 then ⟨x, h⟩ else ⟨[], by decide⟩
theorem clip_val {x : List UInt8} (h : x.length ≤ 65536) : (clip x).1 = x := by unfold clip; rw [dif_pos h]
theorem clip_of (x : B20) : clip x.1 = x := Subtype.ext (clip_val x.2)
theorem seq1_x (m sb pb zb : Nat) (Tb : Nat → Prop) (s0 sep : List UInt8) (hsep : sep ≠ []) (hs0 : s0.length ≤ 65536) (hsl : sep.length ≤ 1048576) (h1 : ¬ Tb sb) (h2 : ¬ Tb pb) (h3 : ¬ Tb zb) (h4 : ¬ Tb 3) (hps : pb ≠ sb) (hzs : zb ≠ sb) (h2s : 3 ≠ sb)
    (mx : Int) (w : World) (hm : w.cell? ⟨3, 0, none⟩ = some (.int .i64 mx)) (hs : w.heap[sb]? = some (.cells #[.string (tx s0)] 9 (0, 0))) (hp : w.cell? ⟨pb, 0, none⟩ = some (.string (tx sep))) (hz : w.cell? ⟨zb, 0, none⟩ = some (.int .i64 0)) :
    SeqX Fence.wide m Tryd.prog 52 #[.pointer (some ⟨pb, 0, none⟩), .pointer (some ⟨sb, 0, none⟩), .pointer (some ⟨zb, 0, none⟩)] (fun x : B20 => #[Value.string (tx x.1)]) (KeepT Tb) (fun k => k = sb) (fun ys => ys = (Lib.split s0 sep).map clip) (fun pre => pre <+: (Lib.split s0 sep).map clip) (Lib.split s0 sep).length w := fun l J Jx W hW hl hJ hJx hY h0 => by
  have hc : Chg NoB w W := ⟨hW.os, hW.tape, hW.output, hW.size, fun k hk _ => hW.block k hk⟩
  refine (seq1_in m l sb pb zb Tb s0 sep hsep (by omega) hsl h1 h2 h3 h4 hps hzs h2s (fun ys => J (ys.map clip)) (fun ys => Jx (ys.map clip)) W (fun s A B row hs hg hr => hJ _ A B row hs hg hr) (fun pre x V hx hj hl hV => ?_) mx (hc.keep hm) (row_kept hc hs id) (hc.keep hp) (hc.keep hz) h0).mono ?_
  · have h := hY (pre.map clip) (clip x) V hj (by rw [List.length_map]; exact hl) hV
    simp only [clip_val (Nat.le_trans hx hs0)] at h
    refine h.mono fun e W' hh => ?_
    rw [List.map_append]
    exact hh.2.imp (fun a => ⟨a.1, a.2.1, a.2.2⟩) id
  · rintro e W' ⟨hv, (⟨ys, rfl, hj⟩ | ⟨pre, hpre, hx⟩)⟩
    · exact ⟨hv, .inl ⟨_, rfl, hj⟩⟩
    · exact ⟨hv, .inr ⟨_, hpre.map _, hx⟩⟩
structure SeqM (w : World) (s sep : List UInt8) (pb sb zb : Nat) : Prop where
  s' : w.heap[sb]? = some (.cells #[.string (tx s)] 9 (0, 0))
  p' : w.heap[pb]? = some (.cells #[.string (tx sep)] 9 (0, 0))
  z' : w.heap[zb]? = some (.cells #[.int .i64 0] 3 (0, 0))
  ps : pb ≠ sb
  zs : zb ≠ sb
def SeqP (s sep : List UInt8) (w : World) (e : Ending) (w' : World) : Prop := ∃ pb sb zb, e = .returned (.func (.func 52) #[] #[.pointer (some ⟨pb, 0, none⟩), .pointer (some ⟨sb, 0, none⟩), .pointer (some ⟨zb, 0, none⟩)]) ∧ SeqM w' s sep pb sb zb ∧ (w.heap.size ≤ pb ∧ w.heap.size ≤ sb ∧ w.heap.size ≤ zb) ∧ Chg NoB w w'
theorem spl_any (s sep : List UInt8) (w : World) : Calls Tryd.prog 35 #[.string (tx s), .string (tx sep), .int .i64 0] w (SeqP s sep w) := by
  have hal_ := (Chg.refl NoB w).alloc (.cells #[.string (tx s)] 9)
  have hb_ := heap_alloc_new w (.cells #[.string (tx s)] 9)
  obtain ⟨b1, hxb_⟩ : ∃ b, b = w.heap.size := ⟨_, rfl⟩
  obtain ⟨w1, hw_⟩ : ∃ w_, w.alloc (.cells #[.string (tx s)] 9) = w_ := ⟨_, rfl⟩
  have hz_ : w1.heap.size = b1 + 1 := by rw [← hw_, hxb_]; exact alloc_size _ _
  rw [hw_] at hal_ hb_
  rw [← hxb_] at hb_
  have Hw1 := Lib.hid hw_
  have Hx1 := Lib.hid hxb_
  have Ha1 := Lib.hid hal_
  have Hb1 := Lib.hid hb_
  have Hz1 := Lib.hid hz_
  clear hal_ hb_ hxb_ hw_ hz_
  have hal_ := (Chg.refl NoB w1).alloc (.cells #[.string (tx sep)] 9)
  have hb_ := heap_alloc_new w1 (.cells #[.string (tx sep)] 9)
  obtain ⟨b2, hxb_⟩ : ∃ b, b = w1.heap.size := ⟨_, rfl⟩
  obtain ⟨w2, hw_⟩ : ∃ w_, w1.alloc (.cells #[.string (tx sep)] 9) = w_ := ⟨_, rfl⟩
  have hz_ : w2.heap.size = b2 + 1 := by rw [← hw_, hxb_]; exact alloc_size _ _
  rw [hw_] at hal_ hb_
  rw [← hxb_] at hb_
  have Hw2 := Lib.hid hw_
  have Hx2 := Lib.hid hxb_
  have Ha2 := Lib.hid hal_
  have Hb2 := Lib.hid hb_
  have Hz2 := Lib.hid hz_
  clear hal_ hb_ hxb_ hw_ hz_
  have hal_ := (Chg.refl NoB w2).alloc (.cells #[.int .i64 0] 3)
  have hb_ := heap_alloc_new w2 (.cells #[.int .i64 0] 3)
  obtain ⟨b3, hxb_⟩ : ∃ b, b = w2.heap.size := ⟨_, rfl⟩
  obtain ⟨w3, hw_⟩ : ∃ w_, w2.alloc (.cells #[.int .i64 0] 3) = w_ := ⟨_, rfl⟩
  have hz_ : w3.heap.size = b3 + 1 := by rw [← hw_, hxb_]; exact alloc_size _ _
  rw [hw_] at hal_ hb_
  rw [← hxb_] at hb_
  have Hw3 := Lib.hid hw_
  have Hx3 := Lib.hid hxb_
  have Ha3 := Lib.hid hal_
  have Hb3 := Lib.hid hb_
  have Hz3 := Lib.hid hz_
  clear hal_ hb_ hxb_ hw_ hz_
  have HM := Lib.hid (show SeqM w3 s sep b2 b1 b3 from ⟨row_kept (Ha2.out.trans Ha3.out) Hb1.out id, row_kept Ha3.out Hb2.out id, Hb3.out, by have := Hx1.out; have := Hx2.out; have := Hz1.out; omega, by have := Hx1.out; have := Hx3.out; have := Hz1.out; have := Hz2.out; have := Hx2.out; omega⟩)
  have HC := Lib.hid (show Chg NoB w w3 from Ha1.out.trans (Ha2.out.trans Ha3.out))
  have Hb := Lib.hid (show w.heap.size ≤ b2 ∧ w.heap.size ≤ b1 ∧ w.heap.size ≤ b3 by have := Hx1.out; have := Hx2.out; have := Hx3.out; have := Hz1.out; have := Hz2.out; omega)
  go_enter Tryd.func35, Tryd.ntmps35
  go_upto_region 1 with fail
  rw [Hw1.out, ← Hx1.out]
  rw [Hw2.out, ← Hz1.out, ← Hx2.out]
  rw [Hw3.out, ← Hz2.out, ← Hx3.out]
  go_wp2_with fail
  go_ret
  exact ⟨b2, b1, b3, rfl, HM.out, Hb.out, HC.out⟩
theorem splitseq_any (s sep : List UInt8) (w : World) : Calls Tryd.prog 18 #[.string (tx s), .string (tx sep)] w (SeqP s sep w) := by
  have HS := Lib.hid (spl_any s sep w)
  go_enter Tryd.func18, Tryd.ntmps18
  go_wp2_with fail
  refine HS.out.mono ?_
  rintro e w' ⟨pb, sb, zb, rfl, h1, h2, h3⟩
  have H1 := Lib.hid h1
  have H2 := Lib.hid h2
  have H3 := Lib.hid h3
  clear h1 h2 h3
  go_wp2_with fail
  go_ret
  exact ⟨pb, sb, zb, rfl, H1.out, H2.out, H3.out⟩
end Go.Proofs.YtaihgciokfkonaaDoor
