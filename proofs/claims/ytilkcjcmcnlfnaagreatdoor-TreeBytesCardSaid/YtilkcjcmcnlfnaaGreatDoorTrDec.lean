/- The contract of the program's Decode of a tree. Conditions: at most 2^20 bytes; the library's variables read as the program's text lays them. -/
import Derived.Test.YtilkcjcmcnlfnaaGreatDoorTrDm
namespace Go.Proofs.YtilkcjcmcnlfnaaGreatDoor
set_option linter.unusedVariables false
open Go.ChangeShapes Go.WideShapes Go.ChangeAt Go.RowKit
set_option maxHeartbeats 8000000 in
set_option maxRecDepth 20000 in
theorem tdec_any (s : List UInt8) (base : Nat) (w : World) (hl : Lb base w) (hm : Pth.Ml w) (hs : s.length ≤ 1048576) : Calls Tryz.prog 30 #[.string (tx s)] w (MakeP (decT s) w) := by
  have hal_ := (Chg.refl NoB w).alloc (.cells #[.slice none 0 0] 26)
  have hb_ := heap_alloc_new w (.cells #[.slice none 0 0] 26)
  obtain ⟨rb, hxb_⟩ : ∃ b, b = w.heap.size := ⟨_, rfl⟩
  obtain ⟨w1, hw_⟩ : ∃ w_, w.alloc (.cells #[.slice none 0 0] 26) = w_ := ⟨_, rfl⟩
  have hz_ : w1.heap.size = rb + 1 := by rw [← hw_, hxb_]; exact alloc_size _ _
  rw [hw_] at hal_ hb_
  rw [← hxb_] at hb_
  have Hw1 := Lib.hid hw_
  have Hx1 := Lib.hid hxb_
  have Ha1 := Lib.hid hal_
  have Hb1 := Lib.hid hb_
  have Hz1 := Lib.hid hz_
  clear hal_ hb_ hxb_ hw_ hz_
  have Hwr := Lib.hid (show w.heap.size ≤ rb by have := Hx1.out; omega)
  have Hd := Lib.hid (dec_any s w1 (hl.keep Ha1.out).top hs)
  have Hm := Lib.hid hm
  obtain ⟨res, hres⟩ : ∃ r, r = decT s := ⟨_, rfl⟩
  rw [← hres]
  have Hres0 := Lib.hid hres
  clear hl hm hs hres
  go_enter Tryz.func30, Tryz.ntmps30
  go_upto_region 1 with fail
  rw [Hw1.out, ← Hx1.out]
  cases hdec : decR s with
  | error y =>
    obtain ⟨y0, y1⟩ := decR_err hdec
    have hyb : (y != 0) = true := by rw [bne_iff_ne]; omega
    have Hres : Hid (res = .error y) := Lib.hid (by rw [Hres0.out]; unfold decT; rw [hdec])
    rw [hdec] at Hd
    clear hdec
    unfold DecP nodeZ at Hd
    go_wp2_with fail
    refine Hd.out.mono ?_
    rintro e w3 ⟨hc3, rfl⟩
    have hc3' := hc3.alloc (.cells #[.bool false, .string ⟨#[]⟩, .slice none 0 0] 71)
    have Hc3 := Lib.hid (Ha1.out.trans hc3')
    have Hr3 := Lib.hid (row_kept hc3' Hb1.out id)
    clear hc3 hc3'
    go_upto_region 2 with fail
    generalize w3.alloc (.cells #[.bool false, .string ⟨#[]⟩, .slice none 0 0] 71) = w4 at *
    have r0 := var1 Hr3.out
    have rf := row_free Hr3.out
    go_wp2_with fail
    have e0 := var1 (heap_set Hr3.out (i := 0) (.slice none 0 0))
    have hfin := Hc3.out.setCell (p := ⟨rb, 0, none⟩) (.inr Hwr.out) (.slice none 0 0)
    generalize w4.setCell ⟨rb, 0, none⟩ (.slice none 0 0) = wf at *
    refine bodyPost_ret (v := .tuple #[.agg #[.slice none 0 0], .int .i64 y]) (by simp [results, Tryz.results30, go_sem, e0]) rfl ⟨hfin, ?_⟩
    rw [Hres.out]
  | ok n =>
    have Hcnt := Lib.hid (dec_count hdec)
    have Hdec := Lib.hid hdec
    rw [hdec] at Hd
    clear hdec
    go_wp2_with fail
    refine Hd.out.mono ?_
    rintro e w3 ⟨hc3, v3, rfl, hv3⟩
    obtain ⟨ha3, q, len, c, kb, ko, rfl, hs3⟩ := hv3.shape
    have hal_ := (Chg.refl NoB w3).alloc (.cells #[.bool n.leaf, .string n.atom, .slice q len c] 71)
    have hb_ := heap_alloc_new w3 (.cells #[.bool n.leaf, .string n.atom, .slice q len c] 71)
    obtain ⟨vb, hxb_⟩ : ∃ b, b = w3.heap.size := ⟨_, rfl⟩
    obtain ⟨w2, hw_⟩ : ∃ w_, w3.alloc (.cells #[.bool n.leaf, .string n.atom, .slice q len c] 71) = w_ := ⟨_, rfl⟩
    have hz_ : w2.heap.size = vb + 1 := by rw [← hw_, hxb_]; exact alloc_size _ _
    rw [hw_] at hal_ hb_
    rw [← hxb_] at hb_
    have Hw4 := Lib.hid hw_
    have Hx4 := Lib.hid hxb_
    have Ha4 := Lib.hid hal_
    have Hb4 := Lib.hid hb_
    have Hz4 := Lib.hid hz_
    clear hal_ hb_ hxb_ hw_ hz_
    have Hc2 := Lib.hid (Ha1.out.trans (hc3.trans Ha4.out))
    have hs4 := hs3.keep (T := NoB) Ha4.out fun _ _ => id
    obtain ⟨S, hS0⟩ : ∃ S : Nat → Prop, S = NewZ w1 w3 := ⟨_, rfl⟩
    have Hs0 : Hid (NdS w2 S (.slice q len c) n.kids kb ko) := Lib.hid (by rw [hS0]; exact hs4)
    have Hat := Lib.hid ha3
    obtain ⟨q', c', e', h1, h2, h3⟩ := hs4.sh
    simp only [Value.slice.injEq] at e'
    obtain ⟨rfl, hlk, rfl⟩ := e'
    have Hlen := Lib.hid hlk
    have H3 := Lib.hid h3
    unfold maxLen at h2
    have hlc : len ≤ c := by omega
    have hlb : len ≤ 65536 := by have h1 := cnt_len n.kids; have h2 := (cnt_parts n).2; have := Hcnt.out; omega
    have hal_ := (Chg.refl NoB w2).alloc (.cells #[.slice none 0 0] 26)
    have hb_ := heap_alloc_new w2 (.cells #[.slice none 0 0] 26)
    obtain ⟨db, hxb_⟩ : ∃ b, b = w2.heap.size := ⟨_, rfl⟩
    obtain ⟨w5, hw_⟩ : ∃ w_, w2.alloc (.cells #[.slice none 0 0] 26) = w_ := ⟨_, rfl⟩
    have hz_ : w5.heap.size = db + 1 := by rw [← hw_, hxb_]; exact alloc_size _ _
    rw [hw_] at hal_ hb_
    rw [← hxb_] at hb_
    have Hw5 := Lib.hid hw_
    have Hx5 := Lib.hid hxb_
    have Ha5 := Lib.hid hal_
    have Hb5 := Lib.hid hb_
    have Hz5 := Lib.hid hz_
    clear hal_ hb_ hxb_ hw_ hz_
    have Hr6 := Lib.hid (row_kept (hc3.trans (Ha4.out.trans Ha5.out)) Hb1.out id)
    have Hv6 := Lib.hid (row_kept Ha5.out Hb4.out id)
    have Hc5 := Lib.hid (Hc2.out.trans Ha5.out)
    obtain ⟨lo, hlo⟩ : ∃ l, l = w5.heap.size := ⟨_, rfl⟩
    have Hord := Lib.hid (show w.heap.size ≤ rb ∧ rb < vb ∧ vb < db ∧ db < lo by have := Hwr.out; have := hc3.size; have := Hz1.out; have := Hz4.out; have := Hz5.out; have := Hx4.out; have := Hx5.out; omega)
    have Hlo := Lib.hid hlo
    obtain ⟨i0, hi, hz0, hz1, hz2⟩ := info_parts inpInfo
    have Hi := Lib.hid hi
    have Hz0 := Lib.hid hz0
    have Hzb1 := Lib.hid hz1
    have Hzb2 := Lib.hid hz2
    clear hc3 hv3 hs3 ha3 Hd hs4 hS0 h1 h3 hlk hlo hi hz0 hz1 hz2
    go_upto_region 2 with fail
    rw [Hw4.out, ← Hx4.out]
    go_upto_region 5 with fail
    rw [Hw5.out, ← Hx5.out]
    have f2 := (var3 Hv6.out).2.2
    go_wp2_with fail
    clear f2
    go_loopw [21] (fun i wr => ∃ (k : Nat) (lv : Value) (acc : List InL), k ≤ len ∧ i = .int .i64 k ∧ inputsOf (n.kids.take k) = some acc ∧ wr.heap[db]? = some (.cells #[lv] 26 (0, 0)) ∧ wr.ownsRow lo 33 2 lv k (flatP acc) ∧ Chg (fun y => y = db) w5 wr) (fun i _ => len - (intOf i).toNat)
    case atStart => exact ⟨0, _, [], Nat.zero_le _, rfl, rfl, Hb5.out, World.ownsRow_nil _ _ _ _, Chg.refl _ _⟩
    case round =>
      obtain ⟨k, lv, acc, hk, rfl, hin, hob, hrow, hch⟩ := hrel
      obtain ⟨lq, lc, rfl, hnc, hcm⟩ := row_shape hrow
      have hc2r : Chg NoB w2 wr := Ha5.out.above hch fun y hy => by have h : y = db := hy; have := Hx5.out; omega
      have Hcw := Lib.hid (Hc2.out.trans hc2r)
      have Hc2r := Lib.hid hc2r
      have Hch := Lib.hid hch
      have Hob := Lib.hid hob
      have Hrow := Lib.hid hrow
      have Hin := Lib.hid hin
      have Hrr := Lib.hid (row_kept Hch.out Hr6.out (by have := Hord.out; omega))
      unfold maxLen at hcm
      clear hin hob hrow hch hc2r
      by_cases hlt : k < len
      · have hlt' : k < n.kids.length := by rw [← Hlen.out]; exact hlt
        obtain ⟨rfl, -⟩ := H3.out (by intro e; rw [e] at hlt'; simp at hlt')
        obtain ⟨-, hxa, s5, kb5, ko5, c0, c1, c2, hs5⟩ := ((Hs0.out.at' k hlt').keep Hc2r.out fun _ _ => id).cells
        have Htk : Hid (n.kids.take (k + 1) = n.kids.take k ++ [n.kids[k]]) := Lib.hid (by rw [List.take_add_one, List.getElem?_eq_getElem hlt']; rfl)
        have Hbad : Hid (inputOf n.kids[k] = none → res = .error 5) := Lib.hid fun h => by
          rw [Hres0.out]
          exact decT_none Hdec.out (inputsOf_bad (List.getElem_mem hlt') h)
        have Hxl : Hid (n.kids[k].kids.length ≤ 65536) := Lib.hid (by
          have h1 := Nd.counts_get n.kids k hlt'
          have h2 := (cnt_parts n.kids[k]).2
          have h3 := cnt_len n.kids[k].kids
          have h4 := (cnt_parts n).2
          have := Hcnt.out
          omega)
        generalize n.kids[k] = x at *
        obtain ⟨q5, cap5, e5, j1, j2, j3⟩ := hs5.sh
        obtain ⟨len5, hl5⟩ : ∃ l, l = x.kids.length := ⟨_, rfl⟩
        rw [← hl5] at e5 j1
        subst e5
        obtain ⟨xl, xa, xk⟩ := x
        simp only [Nd.leaf, Nd.atom] at c0 c1 c2 hxa
        change NdS wr S _ xk kb5 ko5 at hs5
        change xk ≠ [] → _ at j3
        change len5 = xk.length at hl5
        change Hid (xk.length ≤ 65536) at Hxl
        have hxl5 : len5 ≤ 65536 := by have := Hxl.out; omega
        unfold maxLen at j2
        have Hs5 := Lib.hid hs5
        have Hl5 := Lib.hid hl5
        have J3 := Lib.hid j3
        have hal_ := (Chg.refl NoB wr).alloc (.cells #[.bool xl, .string xa, .slice q5 len5 cap5] 71)
        have hb_ := heap_alloc_new wr (.cells #[.bool xl, .string xa, .slice q5 len5 cap5] 71)
        obtain ⟨pb, hxb_⟩ : ∃ b, b = wr.heap.size := ⟨_, rfl⟩
        obtain ⟨w7, hw_⟩ : ∃ w_, wr.alloc (.cells #[.bool xl, .string xa, .slice q5 len5 cap5] 71) = w_ := ⟨_, rfl⟩
        have hz_ : w7.heap.size = pb + 1 := by rw [← hw_, hxb_]; exact alloc_size _ _
        rw [hw_] at hal_ hb_
        rw [← hxb_] at hb_
        have Hw7 := Lib.hid hw_
        have Hx7 := Lib.hid hxb_
        have Ha7 := Lib.hid hal_
        have Hb7 := Lib.hid hb_
        have Hz7 := Lib.hid hz_
        clear hal_ hb_ hxb_ hw_ hz_
        clear hs5 hl5 j3 hlt' hxa
        go_upto_region 8 with fail
        rw [Hw7.out, ← Hx7.out]
        clear c0 c1 c2
        obtain ⟨g0, g1, g2⟩ := var3 Hb7.out
        have hr7 := row_kept Ha7.out Hrr.out id
        have r0 := var1 hr7
        have rf := row_free hr7
        have Hr7 := Lib.hid hr7
        have Hc7 := Lib.hid (Hcw.out.trans Ha7.out)
        clear hr7
        by_cases h2k : len5 = 2
        · subst h2k
          obtain ⟨p, q, rfl⟩ := len2 xk Hl5.out.symm
          obtain ⟨rfl, -⟩ := J3.out (by simp)
          have Hio := Lib.hid (inputOf_two (x := .mk xl xa [p, q]) rfl)
          obtain ⟨-, -, s6, kb6, ko6, u0, u1, -, -⟩ := ((Hs5.out.at' 0 (by simp)).keep Ha7.out fun _ _ => id).cells
          obtain ⟨-, -, s7, kb7, ko7, y0, y1, -, -⟩ := ((Hs5.out.at' 1 (by simp)).keep Ha7.out fun _ _ => id).cells
          simp only [List.getElem_cons_zero, List.getElem_cons_succ] at u0 u1 y0 y1
          rw [← atL_tx p] at u1
          rw [← atL_tx q] at y1
          obtain ⟨ap, hap⟩ : ∃ a, a = atL p := ⟨_, rfl⟩
          obtain ⟨aq, haq⟩ : ∃ a, a = atL q := ⟨_, rfl⟩
          rw [← hap, ← haq] at Hio
          rw [← hap] at u1
          rw [← haq] at y1
          obtain ⟨pl, hpl⟩ : ∃ b, b = p.leaf := ⟨_, rfl⟩
          obtain ⟨ql, hql⟩ : ∃ b, b = q.leaf := ⟨_, rfl⟩
          rw [← hpl] at u0 Hio
          rw [← hql] at y0 Hio
          simp only [Nat.reduceMul, Nat.add_zero] at u0 y0
          clear hpl hql
          cases pl with
          | false =>
            have Hres := Lib.hid (Hbad.out (by rw [Hio.out, if_neg (by simp)]))
            go_wp2_with fail
            have e0 := var1 (heap_set Hr7.out (i := 0) (.slice none 0 0))
            have hfin := Hc7.out.setCell (p := ⟨rb, 0, none⟩) (.inr Hwr.out) (.slice none 0 0)
            generalize w7.setCell ⟨rb, 0, none⟩ (.slice none 0 0) = wf at *
            refine bodyPost_ret (v := .tuple #[.agg #[.slice none 0 0], .int .i64 5]) (by simp [results, Tryz.results30, go_sem, e0]) rfl ⟨hfin, ?_⟩
            rw [Hres.out]
          | true =>
          cases ql with
          | false =>
            have Hres := Lib.hid (Hbad.out (by rw [Hio.out, if_neg (by simp)]))
            go_wp2_with fail
            have e0 := var1 (heap_set Hr7.out (i := 0) (.slice none 0 0))
            have hfin := Hc7.out.setCell (p := ⟨rb, 0, none⟩) (.inr Hwr.out) (.slice none 0 0)
            generalize w7.setCell ⟨rb, 0, none⟩ (.slice none 0 0) = wf at *
            refine bodyPost_ret (v := .tuple #[.agg #[.slice none 0 0], .int .i64 5]) (by simp [results, Tryz.results30, go_sem, e0]) rfl ⟨hfin, ?_⟩
            rw [Hres.out]
          | true =>
          rw [if_pos ⟨rfl, rfl⟩] at Hio
          have hob8 := row_kept Ha7.out Hob.out id
          have o5 := var1 hob8
          have Hob8 := Lib.hid hob8
          have HL := Lib.hid (show ∀ j, (Value.slice lq k lc).ownBlock = some j → lo ≤ j from fun j hj => (World.ownsRow.lt Hrow.out j hj).1)
          have hownK : ∀ w', Chg NoB w7 w' → Hid (w'.ownsRow lo 33 2 (.slice lq k lc) k (flatP acc)) := fun w' h => Lib.hid (ownsRow_chg Hrow.out (Ha7.out.trans h) fun _ _ => id)
          have hstep : ∀ (wz : World), Chg NoB w7 wz → ∀ (v9 : Value) (w9 : World), w9.ownsRow lo 33 2 v9 (k + 1) (flatP acc ++ [.string (tx ap), .string (tx aq)]) → wz.grownBy w9 (Value.slice lq k lc).ownBlock →
              Hid (w9.ownsRow lo 33 2 v9 (k + 1) (flatP (acc ++ [(ap, aq)]))) ∧ Hid (Chg (fun y => y = db) w5 w9) ∧ Hid (w9.heap[db]? = some (.cells #[.slice lq k lc] 26 (0, 0))) ∧ ∃ r9 s9 t9, v9 = .slice r9 s9 t9 := fun wz hcz v9 w9 hown9 hgr9 => by
            have hgc9 : Chg (fun j => (Value.slice lq k lc).ownBlock = some j) wz w9 := (Chg.refl _ _).grown hgr9 fun j hj => .inl hj
            have h69 : Chg (fun j => (Value.slice lq k lc).ownBlock = some j) w7 w9 := (hcz.mono fun _ _ x => x.elim).trans hgc9
            have hch9 : Chg (fun y => y = db) w5 w9 := by
              have h1 : Chg (fun y => y = db) w5 w7 := Hch.out.trans (Ha7.out.mono fun _ _ => False.elim)
              refine ⟨h69.os.trans h1.os, h69.tape.trans h1.tape, h69.output.trans h1.output, Nat.le_trans h1.size h69.size, fun y hy hne => ?_⟩
              rw [h69.block y (Nat.lt_of_lt_of_le hy h1.size) fun e => by have := HL.out y e; have := Hlo.out; omega]
              exact h1.block y hy hne
            obtain ⟨r9, s9, e9, -, -⟩ := row_shape hown9
            exact ⟨Lib.hid (by rw [flatP_app]; exact hown9), Lib.hid hch9, Lib.hid (row_kept h69 Hob8.out fun e => by have := HL.out db e; have := Hord.out; omega), r9, k + 1, s9, e9⟩
          have Hstep := Lib.hid hstep
          have M1 := Lib.hid (show k + 1 ≤ maxLen by unfold maxLen; omega)
          have M2 := Lib.hid (show (k + 1) * 32 ≤ 140737488355328 by omega)
          have hdr : Chg NoB w7 w7.drew := (Chg.refl NoB w7).drew
          have hal9 := hdr.alloc (.cells #[.string (tx ap), .string (tx aq)] 33)
          have Hlo8 : Hid (lo ≤ (w7.drew.alloc (.cells #[.string (tx ap), .string (tx aq)] 33)).heap.size) := Lib.hid (by have h1 := Hlo.out; have h2 := Hch.out.size; have h3 := Ha7.out.size; have h4 := hal9.size; omega)
          have Hal9 := Lib.hid hal9
          have Hown9 := hownK _ hal9
          have d5 := hdr.keep o5
          have d2 := hdr.keep g2
          have du := hdr.keep u1
          have dy := hdr.keep y1
          have z5 := hal9.keep o5
          have z2 := hal9.keep g2
          have zu := hal9.keep u1
          have zy := hal9.keep y1
          have halA := (Chg.refl NoB w7).alloc (.cells #[.string (tx ap), .string (tx aq)] 33)
          have halB := halA.drew
          have HlitB := Lib.hid (show ∀ (j : Nat) (u : Value), [Value.string (tx ap), .string (tx aq)][j]? = some u → (w7.alloc (.cells #[.string (tx ap), .string (tx aq)] 33)).drew.cell? ((⟨w7.heap.size, 0, none⟩ : Addr).add j) = some u from fun j u h => (Chg.refl NoB (w7.alloc (.cells #[.string (tx ap), .string (tx aq)] 33))).drew.keep (lit2 w7 _ _ _ j u h))
          have HalB := Lib.hid halB
          have HownB := hownK _ halB
          have HloB : Hid (lo ≤ (w7.alloc (.cells #[.string (tx ap), .string (tx aq)] 33)).drew.heap.size) := Lib.hid (by have h1 := Hlo.out; have h2 := Hch.out.size; have h3 := Ha7.out.size; have h4 := halB.size; omega)
          have a5 := halA.keep o5
          have a2' := halA.keep g2
          have au := halA.keep u1
          have ay := halA.keep y1
          have b5 := halB.keep o5
          have b2' := halB.keep g2
          have bu := halB.keep u1
          have by' := halB.keep y1
          clear halA halB
          clear hap haq hob8 hownK hstep hdr hal9 Hbad Hxl r0 rf
          go_upto_region 10 with fail
          clear u0 y0
          go_region_law (first
            | (refine step_append_at (by rfl) _ (.tmp 47) (.tmp 59) 22 (by rfl) lo 33 i0 (.agg #[.string ⟨#[]⟩, .string ⟨#[]⟩]) 2 32 Tryz.underlying22 Hi.out Hz0.out Hzb1.out Hzb2.out rfl (by decide) _ k _ (by rfl) HownB.out ⟨w7.heap.size, 0, none⟩ 1 1 [.string (tx ap), .string (tx aq)] (by rfl) rfl HlitB.out (one2 _ _) M1.out M2.out HloB.out ?_; intro v11 w11 hown11 hgr11 hpl11; obtain ⟨Hrow11, Hch11, Hob11, r11, s11, t11, e11⟩ := Hstep.out _ HalB.out v11 w11 hown11 hgr11; subst e11; have p5 := var1 Hob11.out; have pf := row_free Hob11.out; clear hown11 hgr11 hpl11)
            | (refine step_append_at (by rfl) _ (.tmp 47) (.tmp 59) 22 (by rfl) lo 33 i0 (.agg #[.string ⟨#[]⟩, .string ⟨#[]⟩]) 2 32 Tryz.underlying22 Hi.out Hz0.out Hzb1.out Hzb2.out rfl (by decide) _ k _ (by rfl) Hown9.out ⟨w7.drew.heap.size, 0, none⟩ 1 1 [.string (tx ap), .string (tx aq)] (by rfl) rfl (lit2 w7.drew _ _ _) (one2 _ _) M1.out M2.out Hlo8.out ?_; intro v11 w11 hown11 hgr11 hpl11; obtain ⟨Hrow11, Hch11, Hob11, r11, s11, t11, e11⟩ := Hstep.out _ Hal9.out v11 w11 hown11 hgr11; subst e11; have p5 := var1 Hob11.out; have pf := row_free Hob11.out; clear hown11 hgr11 hpl11))
          all_goals
            clear o5 g2 u1 y1 d5 d2 du dy z5 z2 zu zy a5 a2' au ay b5 b2' bu by' p5 pf
            go_wp2_with fail
            go_roundw
            case rel =>
              have hsc : Chg (fun y => y = db) w11 (w11.setCell ⟨db, 0, none⟩ (.slice r11 s11 t11)) := (Chg.refl (fun y => y = db) w11).setCell (p := ⟨db, 0, none⟩) (.inl rfl) (.slice r11 s11 t11)
              exact ⟨k + 1, .slice r11 s11 t11, acc ++ [(ap, aq)], by omega, by go_num, by rw [Htk.out]; exact inputsOf_snoc Hin.out Hio.out, heap_set Hob11.out (i := 0) (.slice r11 s11 t11), ownsRow_chg Hrow11.out hsc fun j hj e => by have h1 := (World.ownsRow.lt Hrow11.out j hj).1; have h2 : j = db := e; have := Hord.out; omega, Hch11.out.trans hsc⟩
            case measure => simp [intOf]; omega
        · have hlb : ((len5 : Int) != 2) = true := by
            rw [bne_iff_ne]
            omega
          have Hres := Lib.hid (Hbad.out (inputOf_no (x := .mk xl xa xk) (by show xk.length ≠ 2; have := Hl5.out; omega)))
          clear h2k
          go_wp2_with fail
          have e0 := var1 (heap_set Hr7.out (i := 0) (.slice none 0 0))
          have hfin := Hc7.out.setCell (p := ⟨rb, 0, none⟩) (.inr Hwr.out) (.slice none 0 0)
          generalize w7.setCell ⟨rb, 0, none⟩ (.slice none 0 0) = wf at *
          refine bodyPost_ret (v := .tuple #[.agg #[.slice none 0 0], .int .i64 5]) (by simp [results, Tryz.results30, go_sem, e0]) rfl ⟨hfin, ?_⟩
          rw [Hres.out]
      · obtain rfl : k = len := by omega
        have htk : n.kids.take k = n.kids := by rw [Hlen.out]; exact List.take_of_length_le (Nat.le_refl _)
        have hin := Hin.out
        rw [htk] at hin
        have Hraw := Lib.hid hin
        have hln := inputsOf_len hin
        have hal : acc.length = k := by rw [hln.1, Hlen.out]
        have Hsz := Lib.hid (show ∀ x ∈ acc, x.1.length ≤ 1048576 ∧ x.2.length ≤ 1048576 from fun x hx => by have h1 := hln.2 x hx; have h2 := (cnt_parts n).2; have := Hcnt.out; omega)
        have Hal := Lib.hid hal
        have hrw := Hrow.out
        rw [← hal] at hrw
        obtain ⟨nb, hns⟩ := InpS.of_row hrw
        rw [hal] at hns
        have Hns := Lib.hid hns
        have hvr := row_kept (Hch.out) Hv6.out (by have := Hord.out; omega)
        obtain ⟨n0, n1, n2⟩ := var3 hvr
        have o0 := var1 Hob.out
        have r0 := var1 Hrr.out
        have rf := row_free Hrr.out
        have Hvr := Lib.hid hvr
        obtain ⟨gd, hgd⟩ : ∃ g, g = goodF acc := ⟨_, rfl⟩
        have Hgdd := Lib.hid hgd
        have Hgd := Lib.hid (fun w' (h : Chg NoB wr w') => tgood_any acc (by omega) Hsz.out _ _ nb 0 w' (ml_keep Hm.out (Hcw.out.trans h)) (Hns.out.keep h fun _ _ => id))
        rw [← hgd] at Hgd
        obtain ⟨nl, hnl⟩ : ∃ b, b = n.leaf := ⟨_, rfl⟩
        rw [← hnl] at n0
        have Hnl := Lib.hid hnl
        clear hgd htk hin hln hrw hns hvr hal hlt hnl n1 n2
        cases nl with
        | true =>
          have Hres : Hid (res = .error 5) := Lib.hid (by rw [Hres0.out]; exact decT_bad Hdec.out Hraw.out (by rintro ⟨h, -⟩; rw [← Hnl.out] at h; cases h))
          go_wp2_with fail
          have e0 := var1 (heap_set Hrr.out (i := 0) (.slice none 0 0))
          have hfin := Hcw.out.setCell (p := ⟨rb, 0, none⟩) (.inr Hwr.out) (.slice none 0 0)
          generalize wr.setCell ⟨rb, 0, none⟩ (.slice none 0 0) = wf at *
          refine bodyPost_ret (v := .tuple #[.agg #[.slice none 0 0], .int .i64 5]) (by simp [results, Tryz.results30, go_sem, e0]) rfl ⟨hfin, ?_⟩
          rw [Hres.out]
        | false =>
          go_wp2_with fail
          clear r0 rf n0 o0
          refine (Hgd.out wr (Chg.refl _ _)).mono ?_
          rintro e w8 ⟨rfl, hc8⟩
          have Hc8 := Lib.hid hc8
          have hr8 := row_kept hc8 Hrr.out id
          have Hr8 := Lib.hid hr8
          have Hcw8 := Lib.hid (Hcw.out.trans hc8)
          have r0 := var1 hr8
          have rf := row_free hr8
          have o0 := hc8.keep (var1 Hob.out)
          clear hc8 hr8
          cases gd with
          | false =>
            have Hres : Hid (res = .error 5) := Lib.hid (by rw [Hres0.out]; exact decT_bad Hdec.out Hraw.out (by rintro ⟨-, h⟩; rw [← Hgdd.out] at h; cases h))
            go_wp2_with fail
            have e0 := var1 (heap_set Hr8.out (i := 0) (.slice none 0 0))
            have hfin := Hcw8.out.setCell (p := ⟨rb, 0, none⟩) (.inr Hwr.out) (.slice none 0 0)
            generalize w8.setCell ⟨rb, 0, none⟩ (.slice none 0 0) = wf at *
            refine bodyPost_ret (v := .tuple #[.agg #[.slice none 0 0], .int .i64 5]) (by simp [results, Tryz.results30, go_sem, e0]) rfl ⟨hfin, ?_⟩
            rw [Hres.out]
          | true =>
            have Hres : Hid (res = .ok acc) := Lib.hid (by rw [Hres0.out]; exact decT_some Hdec.out Hraw.out Hnl.out.symm Hgdd.out.symm)
            go_wp2_with fail
            have e0 := var1 (heap_set Hr8.out (i := 0) (.slice lq k lc))
            have hfin := Hcw8.out.setCell (p := ⟨rb, 0, none⟩) (.inr Hwr.out) (.slice lq k lc)
            have hst : Chg (fun y => y = rb) w8 (w8.setCell ⟨rb, 0, none⟩ (.slice lq k lc)) := (Chg.refl (fun y => y = rb) w8).setCell (p := ⟨rb, 0, none⟩) (.inl rfl) _
            have hown := ownsRow_chg (ownsRow_chg Hrow.out Hc8.out fun _ _ => id) hst fun y hy e => by have h1 := (World.ownsRow.lt Hrow.out y hy).1; have h2 : y = rb := e; have := Hord.out; omega
            generalize w8.setCell ⟨rb, 0, none⟩ (.slice lq k lc) = wf at *
            refine bodyPost_ret (v := .tuple #[.agg #[.slice lq k lc], .int .i64 0]) (by simp [results, Tryz.results30, go_sem, e0]) rfl ⟨hfin, ?_⟩
            rw [Hres.out]
            refine ⟨_, rfl, ?_⟩
            rw [Hal.out]
            exact ownsRow_low (by have := Hord.out; omega) hown
end Go.Proofs.YtilkcjcmcnlfnaaGreatDoor
