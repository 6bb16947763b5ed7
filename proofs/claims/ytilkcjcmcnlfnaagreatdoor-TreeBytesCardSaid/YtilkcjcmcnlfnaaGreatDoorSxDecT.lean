/- The contract of the document's Decode of nodes. Condition: at most 2^20 bytes. -/
import Derived.Test.YtilkcjcmcnlfnaaGreatDoorCdBackP
import Derived.Test.YtilkcjcmcnlfnaaGreatDoorSxTake
namespace Go.Proofs.YtilkcjcmcnlfnaaGreatDoor
set_option linter.unusedVariables false
open Go.ChangeShapes Go.WideShapes Go.ChangeAt Go.RowKit
set_option maxHeartbeats 4000000 in
set_option maxRecDepth 20000 in
theorem decT_any (S : ByteArray) (w : World) (hs : S.size ≤ 1048576) :
    Calls Tryz.prog 64 #[.string S] w (DecP (decR S.data.toList) w) := by
  have hsl : S.data.toList.length = S.size := by simp
  have Hsl := Lib.hid hsl
  have hal := (Chg.refl NoB w).alloc (.cells #[.bool false, .string ⟨#[]⟩, .slice none 0 0] 71)
  have hblk := heap_alloc_new w (.cells #[.bool false, .string ⟨#[]⟩, .slice none 0 0] 71)
  obtain ⟨vb, hvb⟩ : ∃ vb, vb = w.heap.size := ⟨_, rfl⟩
  have hsz := lt_of_block hblk
  rw [← hvb] at hblk hsz
  have Hvb := Lib.hid hvb
  have Hal := Lib.hid hal
  have Hblk := Lib.hid hblk
  have Hb0 := Lib.hid (show w.heap.size ≤ vb by omega)
  obtain ⟨d0, d1, d2⟩ := var3 hblk
  have df := row_free hblk
  clear hal hblk hvb hsl
  by_cases hbig : 65536 < S.size
  · have hres : decR S.data.toList = .error 3 := by unfold decR; rw [if_pos (by rw [Hsl.out]; exact hbig)]
    have Hres := Lib.hid hres
    clear hres
    go_enter Tryz.func64, Tryz.ntmps64
    go_upto_region 1 with fail
    rw [← Hvb.out]
    generalize w.alloc (.cells #[.bool false, .string ⟨#[]⟩, .slice none 0 0] 71) = w1 at *
    go_wp2_with fail
    obtain ⟨e0, e1, e2⟩ := var3 (box3 Hblk.out (.bool false) (.string ⟨#[]⟩) (.slice none 0 0))
    have hfin := box3_chg (b := vb) Hal.out Hb0.out (.bool false) (.string ⟨#[]⟩) (.slice none 0 0)
    generalize ((w1.setCell ⟨vb, 0, none⟩ (.bool false)).setCell ⟨vb, 1, none⟩ (.string ⟨#[]⟩)).setCell ⟨vb, 2, none⟩ (.slice none 0 0) = wf at *
    refine bodyPost_ret (v := .tuple #[nodeZ, .int .i64 3]) (by simp [results, Tryz.results64, go_sem, e0, e1, e2, nodeZ]) rfl ⟨hfin, ?_⟩
    rw [Hres.out]
  · have hnb : ¬ 65536 < S.data.toList.length := by rw [Hsl.out]; exact hbig
    have Hnb := Lib.hid hnb
    clear d0 d1 d2 df hnb
    go_enter Tryz.func64, Tryz.ntmps64
    go_upto_region 3 with fail
    rw [← Hvb.out]
    generalize w.alloc (.cells #[.bool false, .string ⟨#[]⟩, .slice none 0 0] 71) = w1 at *
    have Hcall := Lib.hid (take_any 65536 (Nat.le_refl _) S (by omega) 0 w1 (by decide))
    cases hdec : decN S.data.toList 0 with
    | error y =>
      obtain ⟨y0, y1⟩ := rdN_err _ _ _ _ hdec
      have hyb : (y == 0) = false := by rw [beq_eq_false_iff_ne]; omega
      have hres : decR S.data.toList = .error y := by unfold decR; rw [if_neg Hnb.out, hdec]
      rw [hdec] at Hcall
      have Hres := Lib.hid hres
      clear hres hdec
      go_wp2_with fail
      refine Hcall.out.mono ?_
      rintro e w3 ⟨hc3, rfl⟩
      have hal4 := hc3.alloc (.cells #[.bool false, .string ⟨#[]⟩, .slice none 0 0] 71)
      have hblk4 := row_kept hal4 Hblk.out id
      obtain ⟨d0, d1, d2⟩ := var3 hblk4
      have df := row_free hblk4
      have Hblk4 := Lib.hid hblk4
      have Hc4 := Lib.hid (Hal.out.trans hal4)
      clear hc3 hal4 hblk4
      unfold nodeZ
      go_wp2_with fail
      generalize w3.alloc (.cells #[.bool false, .string ⟨#[]⟩, .slice none 0 0] 71) = w4 at *
      obtain ⟨e0, e1, e2⟩ := var3 (box3 Hblk4.out (.bool false) (.string ⟨#[]⟩) (.slice none 0 0))
      have hfin := box3_chg (b := vb) Hc4.out Hb0.out (.bool false) (.string ⟨#[]⟩) (.slice none 0 0)
      generalize ((w4.setCell ⟨vb, 0, none⟩ (.bool false)).setCell ⟨vb, 1, none⟩ (.string ⟨#[]⟩)).setCell ⟨vb, 2, none⟩ (.slice none 0 0) = wf at *
      refine bodyPost_ret (v := .tuple #[nodeZ, .int .i64 y]) (by simp [results, Tryz.results64, go_sem, e0, e1, e2, nodeZ]) rfl ⟨hfin, ?_⟩
      rw [Hres.out]
    | ok nr =>
      obtain ⟨n, r⟩ := nr
      have hrl := rdN_len _ _ _ _ _ hdec
      rw [Hsl.out] at hrl
      rw [hdec] at Hcall
      obtain ⟨us, hus⟩ : ∃ us, us = S.size - r.length := ⟨_, rfl⟩
      have Hus := Lib.hid hus
      by_cases hr0 : r = []
      · have hres : decR S.data.toList = .ok n := by unfold decR; rw [if_neg Hnb.out, hdec]; simp only; rw [if_pos hr0]
        have Hres := Lib.hid hres
        have hlt : ¬ (us : Int) < (S.size : Int) := by rw [hus, hr0, List.length_nil]; omega
        clear hres hdec hus hrl
        go_wp2_with fail
        refine Hcall.out.mono ?_
        rintro e w3 ⟨hc3, v3, he3, hv3, _⟩
        rw [← Hus.out] at he3
        subst he3
        obtain ⟨ha3, q, len, c, kb, ko, rfl, hs3⟩ := hv3.shape
        have hal4 := (Chg.refl NoB w3).alloc (.cells #[.bool n.leaf, .string n.atom, .slice q len c] 71)
        have hblk4 := row_kept hal4 (row_kept hc3 Hblk.out id) id
        obtain ⟨d0, d1, d2⟩ := var3 hblk4
        have df := row_free hblk4
        obtain ⟨g0, g1, g2⟩ := var3 (heap_alloc_new w3 (.cells #[.bool n.leaf, .string n.atom, .slice q len c] 71))
        have Hblk4 := Lib.hid hblk4
        have Hal4 := Lib.hid hal4
        have Hc3 := Lib.hid hc3
        have Hv3 := Lib.hid hv3
        clear hc3 hal4 hblk4 hv3 hs3
        go_wp2_with fail
        generalize w3.alloc (.cells #[.bool n.leaf, .string n.atom, .slice q len c] 71) = w4 at *
        obtain ⟨e0, e1, e2⟩ := var3 (box3 Hblk4.out (.bool n.leaf) (.string n.atom) (.slice q len c))
        have hfin := box3_chg (b := vb) (Hal.out.trans (Hc3.out.trans Hal4.out)) Hb0.out (.bool n.leaf) (.string n.atom) (.slice q len c)
        have hst := st3 w4 (g := vb) 0 (.bool n.leaf) (.string n.atom) (.slice q len c)
        have z1 := Hal.out.size
        have z3 := Hc3.out.size
        have z4 := Hal4.out.size
        generalize ((w4.setCell ⟨vb, 0, none⟩ (.bool n.leaf)).setCell ⟨vb, 1, none⟩ (.string n.atom)).setCell ⟨vb, 2, none⟩ (.slice q len c) = wf at *
        have z5 := hst.size
        refine bodyPost_ret (v := .tuple #[.agg #[.bool n.leaf, .string n.atom, .slice q len c], .int .i64 0]) (by simp [results, Tryz.results64, go_sem, e0, e1, e2]) rfl ⟨hfin, ?_⟩
        rw [Hres.out]
        refine ⟨_, rfl, NdV.mono (fun x hx => ?_) ((Hv3.out.keep Hal4.out fun _ _ => id).keep hst fun x hx hv => ?_)⟩
        · have h3 := hx.1.1
          exact (Nw.keep (Nw.keep hx Hal4.out id) hst fun hv => by have : x = vb := hv; omega).le (by omega)
        · have h3 := hx.1.1
          have : x = vb := hv
          omega
      · have hres : decR S.data.toList = .error 5 := by unfold decR; rw [if_neg Hnb.out, hdec]; simp only; rw [if_neg hr0]
        have Hres := Lib.hid hres
        have hrp := List.length_pos_iff.2 hr0
        have hlt : (us : Int) < (S.size : Int) := by omega
        clear hres hdec hus hrl hrp
        go_wp2_with fail
        refine Hcall.out.mono ?_
        rintro e w3 ⟨hc3, v3, he3, hv3, _⟩
        rw [← Hus.out] at he3
        subst he3
        obtain ⟨ha3, q, len, c, kb, ko, rfl, hs3⟩ := hv3.shape
        have hal4 := hc3.alloc (.cells #[.bool n.leaf, .string n.atom, .slice q len c] 71)
        have hblk4 := row_kept hal4 Hblk.out id
        obtain ⟨d0, d1, d2⟩ := var3 hblk4
        have df := row_free hblk4
        have Hblk4 := Lib.hid hblk4
        have Hc4 := Lib.hid (Hal.out.trans hal4)
        clear hc3 hal4 hblk4 hv3 hs3
        go_wp2_with fail
        generalize w3.alloc (.cells #[.bool n.leaf, .string n.atom, .slice q len c] 71) = w4 at *
        obtain ⟨e0, e1, e2⟩ := var3 (box3 Hblk4.out (.bool false) (.string ⟨#[]⟩) (.slice none 0 0))
        have hfin := box3_chg (b := vb) Hc4.out Hb0.out (.bool false) (.string ⟨#[]⟩) (.slice none 0 0)
        generalize ((w4.setCell ⟨vb, 0, none⟩ (.bool false)).setCell ⟨vb, 1, none⟩ (.string ⟨#[]⟩)).setCell ⟨vb, 2, none⟩ (.slice none 0 0) = wf at *
        refine bodyPost_ret (v := .tuple #[nodeZ, .int .i64 5]) (by simp [results, Tryz.results64, go_sem, e0, e1, e2, nodeZ]) rfl ⟨hfin, ?_⟩
        rw [Hres.out]
end Go.Proofs.YtilkcjcmcnlfnaaGreatDoor
