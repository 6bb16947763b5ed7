/- The contract of Decode. Condition: at most 2^20 bytes; the library's variables. -/
import Derived.Test.YtilkcjcmcnlfnaaGreatDoorRdNode
namespace Go.Proofs.YtilkcjcmcnlfnaaGreatDoor
set_option linter.unusedVariables false
open Go.ChangeShapes Go.WideShapes Go.ChangeAt Go.RowKit
def decR (s : List UInt8) : Except Int Nd := if 65536 < s.length then .error 3 else match decN s 0 with
  | .error y => .error y
  | .ok (n, r) => if r = [] then .ok n else .error 5
/- what a decoding answers -/
def DecP (r : Except Int Nd) (w : World) (e : Ending) (w' : World) : Prop := Chg NoB w w' ∧ match r with
  | .error y => e = .returned (.tuple #[nodeZ, .int .i64 y])
  | .ok n => ∃ v, e = .returned (.tuple #[v, .int .i64 0]) ∧ NdV w' (NewZ w w') v n
theorem chg_none {b : Nat} {w w' : World} (h : Chg (OneB b) w w') (hb : w.heap.size ≤ b) : Chg NoB w w' := ⟨h.os, h.tape, h.output, h.size, fun k hk _ => h.block k hk fun x => by have : k = b := x; omega⟩
set_option maxHeartbeats 4000000 in
set_option maxRecDepth 20000 in
theorem dec_any (s : List UInt8) (w : World) (hl : Lb w.heap.size w) (hs : s.length ≤ 1048576) :
    Calls Tryz.prog 63 #[.string (tx s)] w (DecP (decR s) w) := by
  have hal := (Chg.refl NoB w).alloc (.cells #[.bool false, .string ⟨#[]⟩, .slice none 0 0] 71)
  have hblk := heap_alloc_new w (.cells #[.bool false, .string ⟨#[]⟩, .slice none 0 0] 71)
  have hss : (tx s).size = s.length := tx_size s
  have HL1 := Lib.hid (hl.keep hal)
  obtain ⟨vb, hvb⟩ : ∃ vb, vb = w.heap.size := ⟨_, rfl⟩
  have hsz := lt_of_block hblk
  rw [← hvb] at hblk hsz
  have Hvb := Lib.hid hvb
  have Hal := Lib.hid hal
  have Hblk := Lib.hid hblk
  have hb0 : w.heap.size ≤ vb := by omega
  have Hb0 := Lib.hid hb0
  obtain ⟨d0, d1, d2⟩ := var3 hblk
  have df := row_free hblk
  clear hl hal hblk hvb hb0
  by_cases hbig : 65536 < s.length
  · have hres : decR s = .error 3 := by unfold decR; rw [if_pos hbig]
    have Hres := Lib.hid hres
    clear hres
    go_enter Tryz.func63, Tryz.ntmps63
    go_upto_region 1 with fail
    rw [← Hvb.out]
    generalize w.alloc (.cells #[.bool false, .string ⟨#[]⟩, .slice none 0 0] 71) = w1 at *
    go_wp2_with fail
    obtain ⟨e0, e1, e2⟩ := var3 (box3 Hblk.out (.bool false) (.string ⟨#[]⟩) (.slice none 0 0))
    have hfin := box3_chg (b := vb) Hal.out Hb0.out (.bool false) (.string ⟨#[]⟩) (.slice none 0 0)
    generalize ((w1.setCell ⟨vb, 0, none⟩ (.bool false)).setCell ⟨vb, 1, none⟩ (.string ⟨#[]⟩)).setCell ⟨vb, 2, none⟩ (.slice none 0 0) = wf at *
    refine bodyPost_ret (v := .tuple #[nodeZ, .int .i64 3]) (by simp [results, Tryz.results63, go_sem, e0, e1, e2, nodeZ]) rfl ⟨hfin, ?_⟩
    rw [Hres.out]
  · clear d0 d1 d2 df
    go_enter Tryz.func63, Tryz.ntmps63
    go_upto_region 3 with fail
    rw [← Hvb.out]
    generalize w.alloc (.cells #[.bool false, .string ⟨#[]⟩, .slice none 0 0] 71) = w1 at *
    have hal2 := (Chg.refl NoB w1).alloc (.cells #[.string (tx s)] 93)
    have hrd : Rd (w1.alloc (.cells #[.string (tx s)] 93)) w1.heap.size s := heap_alloc_new w1 _
    have hz1 := Hal.out.size
    have Hcall := Lib.hid (rnode_any 65536 (Nat.le_refl _) s (by omega) 0 w1.heap.size w.heap.size _ hrd hz1 (HL1.out.keep hal2) (by decide))
    have Hal2 := Lib.hid hal2
    have Hblk2 := Lib.hid (row_kept hal2 Hblk.out id)
    have hz2 := hal2.size
    clear hal2 hrd
    obtain ⟨b, hb⟩ : ∃ b, b = w1.heap.size := ⟨_, rfl⟩
    have Hb := Lib.hid hb
    have hsz1 := hsz
    rw [← hb] at Hcall hsz
    clear hb
    cases hdec : decN s 0 with
    | error y =>
      obtain ⟨y0, y1⟩ := rdN_err _ _ _ _ hdec
      have hyb : (y == 0) = false := by rw [beq_eq_false_iff_ne]; omega
      have hres : decR s = .error y := by unfold decR; rw [if_neg hbig, hdec]
      rw [hdec] at Hcall
      have Hres := Lib.hid hres
      clear hres hdec
      go_wp2_with fail
      rw [← Hb.out]
      refine Hcall.out.mono ?_
      rintro e w3 ⟨hc3, rfl⟩
      have Hc3 := Lib.hid hc3
      have hblk3 := row_kept hc3 Hblk2.out (by show ¬ vb = b; omega)
      have hal4 := (Chg.refl NoB w3).alloc (.cells #[.bool false, .string ⟨#[]⟩, .slice none 0 0] 71)
      have hblk4 := row_kept hal4 hblk3 id
      obtain ⟨d0, d1, d2⟩ := var3 hblk4
      have df := row_free hblk4
      have Hblk4 := Lib.hid hblk4
      have Hal4 := Lib.hid hal4
      clear hc3 hblk3 hal4 hblk4
      unfold nodeZ
      go_wp2_with fail
      generalize w3.alloc (.cells #[.bool false, .string ⟨#[]⟩, .slice none 0 0] 71) = w4 at *
      have hpre : Chg NoB w w4 := (Hal.out.trans (chg_none ((Hal2.out.mono fun _ _ x => x.elim).trans Hc3.out) (Nat.le_of_eq Hb.out.symm))).trans Hal4.out
      obtain ⟨e0, e1, e2⟩ := var3 (box3 Hblk4.out (.bool false) (.string ⟨#[]⟩) (.slice none 0 0))
      have hfin := box3_chg (b := vb) hpre Hb0.out (.bool false) (.string ⟨#[]⟩) (.slice none 0 0)
      generalize ((w4.setCell ⟨vb, 0, none⟩ (.bool false)).setCell ⟨vb, 1, none⟩ (.string ⟨#[]⟩)).setCell ⟨vb, 2, none⟩ (.slice none 0 0) = wf at *
      refine bodyPost_ret (v := .tuple #[nodeZ, .int .i64 y]) (by simp [results, Tryz.results63, go_sem, e0, e1, e2, nodeZ]) rfl ⟨hfin, ?_⟩
      rw [Hres.out]
    | ok nr =>
      obtain ⟨n, r⟩ := nr
      rw [hdec] at Hcall
      by_cases hr0 : r = []
      · subst hr0
        have hres : decR s = .ok n := by unfold decR; rw [if_neg hbig, hdec]; rfl
        have Hres := Lib.hid hres
        clear hres hdec
        go_wp2_with fail
        rw [← Hb.out]
        refine Hcall.out.mono ?_
        rintro e w3 ⟨hc3, v3, rfl, hrd3, hv3⟩
        obtain ⟨ha3, q, len, c, kb, ko, rfl, hs3⟩ := hv3.shape
        have Hc3 := Lib.hid hc3
        have hblk3 := row_kept hc3 Hblk2.out (by show ¬ vb = b; omega)
        have hal4 := (Chg.refl NoB w3).alloc (.cells #[.bool n.leaf, .string n.atom, .slice q len c] 71)
        have hblk4 := row_kept hal4 hblk3 id
        have hrd4 := (hrd3.keep hal4).cell
        have htx0 : tx [] = ⟨#[]⟩ := rfl
        obtain ⟨d0, d1, d2⟩ := var3 hblk4
        have df := row_free hblk4
        obtain ⟨g0, g1, g2⟩ := var3 (heap_alloc_new w3 (.cells #[.bool n.leaf, .string n.atom, .slice q len c] 71))
        have Hblk4 := Lib.hid hblk4
        have Hal4 := Lib.hid hal4
        have Hv3 := Lib.hid hv3
        clear hc3 hblk3 hal4 hblk4 hv3 hs3 hrd3
        go_wp2_with fail
        generalize w3.alloc (.cells #[.bool n.leaf, .string n.atom, .slice q len c] 71) = w4 at *
        have hpre : Chg NoB w w4 := (Hal.out.trans (chg_none ((Hal2.out.mono fun _ _ x => x.elim).trans Hc3.out) (Nat.le_of_eq Hb.out.symm))).trans Hal4.out
        obtain ⟨e0, e1, e2⟩ := var3 (box3 Hblk4.out (.bool n.leaf) (.string n.atom) (.slice q len c))
        have hfin := box3_chg (b := vb) hpre Hb0.out (.bool n.leaf) (.string n.atom) (.slice q len c)
        have hst := st3 w4 (g := vb) 0 (.bool n.leaf) (.string n.atom) (.slice q len c)
        have z3 := Hc3.out.size
        have z4 := Hal4.out.size
        generalize ((w4.setCell ⟨vb, 0, none⟩ (.bool n.leaf)).setCell ⟨vb, 1, none⟩ (.string n.atom)).setCell ⟨vb, 2, none⟩ (.slice q len c) = wf at *
        have z5 := hst.size
        refine bodyPost_ret (v := .tuple #[.agg #[.bool n.leaf, .string n.atom, .slice q len c], .int .i64 0]) (by simp [results, Tryz.results63, go_sem, e0, e1, e2]) rfl ⟨hfin, ?_⟩
        rw [Hres.out]
        refine ⟨_, rfl, NdV.mono (fun x hx => ?_) ((Hv3.out.keep Hal4.out fun _ _ => id).keep hst fun x hx hv => ?_)⟩
        · have h4 := hx.1.1
          exact (Nw.keep (Nw.keep hx Hal4.out id) hst fun hv => by have : x = vb := hv; omega).le (by omega)
        · have h4 := hx.1.1
          have : x = vb := hv
          omega
      · have hres : decR s = .error 5 := by unfold decR; rw [if_neg hbig, hdec]; simp only; rw [if_neg hr0]
        have hre : (tx r).toList.isEmpty = false := by
          rw [Lib.toList_data, tx_list]
          exact List.isEmpty_eq_false_iff.2 hr0
        have Hres := Lib.hid hres
        clear hres hdec
        go_wp2_with fail
        rw [← Hb.out]
        refine Hcall.out.mono ?_
        rintro e w3 ⟨hc3, v3, rfl, hrd3, hv3⟩
        obtain ⟨ha3, q, len, c, kb, ko, rfl, hs3⟩ := hv3.shape
        have Hc3 := Lib.hid hc3
        have hblk3 := row_kept hc3 Hblk2.out (by show ¬ vb = b; omega)
        have hal4 := (Chg.refl NoB w3).alloc (.cells #[.bool n.leaf, .string n.atom, .slice q len c] 71)
        have hblk4 := row_kept hal4 hblk3 id
        have hrd4 := (hrd3.keep hal4).cell
        obtain ⟨d0, d1, d2⟩ := var3 hblk4
        have df := row_free hblk4
        have Hblk4 := Lib.hid hblk4
        have Hal4 := Lib.hid hal4
        clear hc3 hblk3 hal4 hblk4 hv3 hs3 hrd3
        go_wp2_with fail
        generalize w3.alloc (.cells #[.bool n.leaf, .string n.atom, .slice q len c] 71) = w4 at *
        have hpre : Chg NoB w w4 := (Hal.out.trans (chg_none ((Hal2.out.mono fun _ _ x => x.elim).trans Hc3.out) (Nat.le_of_eq Hb.out.symm))).trans Hal4.out
        obtain ⟨e0, e1, e2⟩ := var3 (box3 Hblk4.out (.bool false) (.string ⟨#[]⟩) (.slice none 0 0))
        have hfin := box3_chg (b := vb) hpre Hb0.out (.bool false) (.string ⟨#[]⟩) (.slice none 0 0)
        generalize ((w4.setCell ⟨vb, 0, none⟩ (.bool false)).setCell ⟨vb, 1, none⟩ (.string ⟨#[]⟩)).setCell ⟨vb, 2, none⟩ (.slice none 0 0) = wf at *
        refine bodyPost_ret (v := .tuple #[nodeZ, .int .i64 5]) (by simp [results, Tryz.results63, go_sem, e0, e1, e2, nodeZ]) rfl ⟨hfin, ?_⟩
        rw [Hres.out]
end Go.Proofs.YtilkcjcmcnlfnaaGreatDoor
