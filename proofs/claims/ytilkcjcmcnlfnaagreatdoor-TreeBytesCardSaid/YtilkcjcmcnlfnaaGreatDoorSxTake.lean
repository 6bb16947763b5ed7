/- The contracts of the document's take and Decode. Condition: at most 2^16 bytes where they are read. -/
import Derived.Test.YtilkcjcmcnlfnaaGreatDoorSxText
namespace Go.Proofs.YtilkcjcmcnlfnaaGreatDoor
set_option linter.unusedVariables false
open Go.ChangeShapes Go.WideShapes Go.ChangeAt Go.RowKit
def TkSays (L : Nat) : Prop := ∀ (S : ByteArray), S.size ≤ L → ∀ (d : Nat) (w : World), d ≤ 32 →
    Calls Tryz.prog 84 #[.string S, .int .i64 d] w (TextP (decN S.data.toList d) S.size w)
theorem TextP.shape {r : Except Int (Nd × List UInt8)} {L : Nat} {w : World} {e : Ending} {w' : World} (h : TextP r L w e w') : ∃ (l : Bool) (a : ByteArray) (q : Option Addr) (n c : Nat) (u y : Int), e = .returned (.tuple #[.agg #[.bool l, .string a, .slice q n c], .int .i64 u, .int .i64 y]) := by
  cases r with
  | error y => exact ⟨false, ⟨#[]⟩, none, 0, 0, 0, y, h.2⟩
  | ok nr =>
    obtain ⟨n, r⟩ := nr
    obtain ⟨v, e1, hv, _⟩ := h.2
    obtain ⟨_, q, len, c, _, _, rfl, _⟩ := hv.shape
    exact ⟨_, _, q, len, c, _, 0, e1⟩
/- the same answer handed on by way of a box -/
theorem TextP.pass {vb : Nat} {r : Except Int (Nd × List UInt8)} {L : Nat} {w w1 w2 wf : World} {e : Ending} (h : TextP r L w1 e w2) (hal : Chg NoB w w1) (hvb : vb = w.heap.size) (hv1 : vb < w1.heap.size)
    (hf : Chg (fun k => k = vb) w2 wf) : TextP r L w e wf := by
  have z1 := hal.size
  have z2 := h.1.size
  have z3 := hf.size
  refine ⟨⟨(hf.os.trans h.1.os).trans hal.os, (hf.tape.trans h.1.tape).trans hal.tape, (hf.output.trans h.1.output).trans hal.output, by omega, fun k hk hkb => ?_⟩, ?_⟩
  · rw [hf.block k (by omega) (fun e => by have : k = vb := e; omega), h.1.block k (by omega) hkb]
    exact hal.block k hk id
  · have h2 := h.2
    cases r with
    | error x => exact h2
    | ok nr =>
      obtain ⟨n, rest⟩ := nr
      obtain ⟨v', e1, hn, hl⟩ := h2
      refine ⟨v', e1, NdV.mono (fun x hx => ?_) (hn.keep hf fun x hx hv => ?_), hl⟩
      · have h3 := hx.1.1
        exact (Nw.keep hx hf fun hv => by have : x = vb := hv; omega).le (by omega)
      · have h3 := hx.1.1
        have : x = vb := hv
        omega
theorem decN_nil (d : Nat) : decN [] d = .error 5 := by rw [decN_atom (by simp)]; exact bad_empty
theorem suffix_drop {L s e r : List UInt8} {a : Nat} (h1 : s = L.drop a) (h2 : s = e ++ r) (ha : a ≤ L.length) : L.drop (a + (s.length - r.length)) = r := by
  have h3 : s.length - r.length = e.length := by rw [h2, List.length_append]; omega
  rw [h3, ← List.drop_drop, ← h1, h2, List.drop_left]
theorem rdL_nil (d : Nat) (acc : List Nd) : rdL (2 * ([] : List UInt8).length + 2) [] d acc = .error 5 := by
  show rdL 2 [] d acc = _
  rw [rdL, if_neg (by simp), rdN, if_neg (by simp)]
  simp [atomL, cutC]
theorem ext_drop (S : ByteArray) (a : Nat) : (S.extract a S.size).data.toList = S.data.toList.drop a := by
  have hs : S.data.toList.length = S.size := by simp
  rw [Lib.extract_eq]
  show (List.take (S.size - a) (List.drop a S.data.toList)) = _
  rw [List.take_of_length_le (by rw [List.length_drop]; omega)]
theorem ext_size (S : ByteArray) (a : Nat) : (S.extract a S.size).size = S.size - a := by
  have h1 : (S.extract a S.size).data.toList.length = (S.extract a S.size).size := by simp
  have hs : S.data.toList.length = S.size := by simp
  rw [← h1, ext_drop, List.length_drop, hs]
theorem head_drop (S : ByteArray) (a : Nat) (h : a < S.size) : (S.data.toList.drop a).head? = some S[a] := by
  rw [List.head?_drop, List.getElem?_eq_getElem (by simpa using h), bget S a h]
set_option maxHeartbeats 8000000 in
set_option maxRecDepth 20000 in
theorem take_any (L : Nat) (hL : L ≤ 65536) : TkSays L := by
  induction L with
  | zero =>
    intro S hS d w hd
    have hnil : S.data.toList = [] := List.eq_nil_of_length_eq_zero (by have : S.data.toList.length = S.size := by simp
                                                                        omega)
    have hemp : S.toList.isEmpty = true := by rw [Lib.toList_data, hnil]; rfl
    have hres : decN S.data.toList d = .error 5 := by rw [hnil]; exact decN_nil d
    have Hres := Lib.hid hres
    have hal := (Chg.refl NoB w).alloc (.cells #[.bool false, .string ⟨#[]⟩, .slice none 0 0] 71)
    have hblk := heap_alloc_new w (.cells #[.bool false, .string ⟨#[]⟩, .slice none 0 0] 71)
    obtain ⟨vb, hvb⟩ : ∃ vb, vb = w.heap.size := ⟨_, rfl⟩
    rw [← hvb] at hblk
    have Hvb := Lib.hid hvb
    have Hal := Lib.hid hal
    have Hblk := Lib.hid hblk
    have Hb0 := Lib.hid (show w.heap.size ≤ vb by omega)
    obtain ⟨d0, d1, d2⟩ := var3 hblk
    have df := row_free hblk
    clear hal hblk hvb hres hnil
    go_enter Tryz.func84, Tryz.ntmps84
    go_upto_region 1 with fail
    rw [← Hvb.out]
    generalize w.alloc (.cells #[.bool false, .string ⟨#[]⟩, .slice none 0 0] 71) = w1 at *
    go_wp2_with fail
    obtain ⟨e0, e1, e2⟩ := var3 (box3 Hblk.out (.bool false) (.string ⟨#[]⟩) (.slice none 0 0))
    have hfin := box3_chg (b := vb) Hal.out Hb0.out (.bool false) (.string ⟨#[]⟩) (.slice none 0 0)
    generalize ((w1.setCell ⟨vb, 0, none⟩ (.bool false)).setCell ⟨vb, 1, none⟩ (.string ⟨#[]⟩)).setCell ⟨vb, 2, none⟩ (.slice none 0 0) = wf at *
    refine bodyPost_ret (v := .tuple #[nodeZ, .int .i64 0, .int .i64 5]) (by simp [results, Tryz.results84, go_sem, e0, e1, e2, nodeZ]) rfl ⟨hfin, ?_⟩
    rw [Hres.out]
  | succ L ih =>
    intro S hS d w hd
    have IH := Lib.hid (ih (by omega))
    clear ih
    have hsl : S.data.toList.length = S.size := by simp
    have Hsl := Lib.hid hsl
    have hal := (Chg.refl NoB w).alloc (.cells #[.bool false, .string ⟨#[]⟩, .slice none 0 0] 71)
    have hblk := heap_alloc_new w (.cells #[.bool false, .string ⟨#[]⟩, .slice none 0 0] 71)
    obtain ⟨vb, hvb⟩ : ∃ vb, vb = w.heap.size := ⟨_, rfl⟩
    have hsz := lt_of_block hblk
    rw [← hvb] at hblk hsz
    have Hvb := Lib.hid hvb
    have Hal := Lib.hid hal
    have Hblk := Lib.hid hblk
    have Hb0 := Lib.hid (show w.heap.size ≤ vb by omega)
    obtain ⟨d0, d1, d2⟩ := var3 hblk
    have df := row_free hblk
    clear hal hblk hvb hsl
    by_cases h0 : S.size = 0
    · have hnil : S.data.toList = [] := List.eq_nil_of_length_eq_zero (by rw [Hsl.out]; exact h0)
      have hemp : S.toList.isEmpty = true := by rw [Lib.toList_data, hnil]; rfl
      have hres : decN S.data.toList d = .error 5 := by rw [hnil]; exact decN_nil d
      have Hres := Lib.hid hres
      clear hres hnil h0
      go_enter Tryz.func84, Tryz.ntmps84
      go_upto_region 1 with fail
      rw [← Hvb.out]
      generalize w.alloc (.cells #[.bool false, .string ⟨#[]⟩, .slice none 0 0] 71) = w1 at *
      go_wp2_with fail
      obtain ⟨e0, e1, e2⟩ := var3 (box3 Hblk.out (.bool false) (.string ⟨#[]⟩) (.slice none 0 0))
      have hfin := box3_chg (b := vb) Hal.out Hb0.out (.bool false) (.string ⟨#[]⟩) (.slice none 0 0)
      generalize ((w1.setCell ⟨vb, 0, none⟩ (.bool false)).setCell ⟨vb, 1, none⟩ (.string ⟨#[]⟩)).setCell ⟨vb, 2, none⟩ (.slice none 0 0) = wf at *
      refine bodyPost_ret (v := .tuple #[nodeZ, .int .i64 0, .int .i64 5]) (by simp [results, Tryz.results84, go_sem, e0, e1, e2, nodeZ]) rfl ⟨hfin, ?_⟩
      rw [Hres.out]
    · have hS0 : 0 < S.size := by omega
      have hSI : (0 : Int) < (S.size : Int) := by omega
      have hne : S.data.toList ≠ [] := by intro e; have := Hsl.out; rw [e, List.length_nil] at this; omega
      have hemp : S.toList.isEmpty = false := by rw [Lib.toList_data]; exact List.isEmpty_eq_false_iff.2 hne
      have hhead : S.data.toList.head? = some S[0] := by rw [List.head?_eq_getElem?, List.getElem?_eq_getElem (by simpa using hS0), bget S 0 hS0]
      have Hhead := Lib.hid hhead
      clear hne hhead
      by_cases h40 : ((S[0]).toNat : Int) = 40
      · have h40' : S[0] = 40 := UInt8.toNat_inj.1 (by rw [show (40 : UInt8).toNat = 40 from rfl]; omega)
        have hh : S.data.toList.head? = some 40 := by rw [Hhead.out, h40']
        have hdl : decN S.data.toList d = listD S.data.toList.tail d := decN_list hh d
        have Hdl := Lib.hid hdl
        clear hdl h40'
        by_cases hd32 : d < 32
        · have hR : listD S.data.toList.tail d = rdL (2 * S.data.toList.tail.length + 2) S.data.toList.tail (d + 1) [] := by unfold listD; rw [if_neg (by omega)]
          rw [hR] at Hdl
          have hdI : ((d : Int) == 32) = false := by rw [beq_eq_false_iff_ne]; omega
          obtain ⟨R, hRR⟩ : ∃ R, R = rdL (2 * S.data.toList.tail.length + 2) S.data.toList.tail (d + 1) [] := ⟨_, rfl⟩
          rw [← hRR] at Hdl
          have HRR := Lib.hid hRR
          have Hh := Lib.hid hh
          clear hR hRR hh d0 d1 d2 df
          go_enter Tryz.func84, Tryz.ntmps84
          go_upto_region 7 with fail
          rw [← Hvb.out]
          generalize w.alloc (.cells #[.bool false, .string ⟨#[]⟩, .slice none 0 0] 71) = w1 at *
          have hal2 := (Chg.refl NoB w1).alloc (.cells #[.bool false, .string ⟨#[]⟩, .slice none 0 0] 71)
          have hnb := heap_alloc_new w1 (.cells #[.bool false, .string ⟨#[]⟩, .slice none 0 0] 71)
          obtain ⟨nb, hnbe⟩ : ∃ nb, nb = w1.heap.size := ⟨_, rfl⟩
          have hsz2 := lt_of_block hnb
          rw [← hnbe] at hnb hsz2
          have Hnbe := Lib.hid hnbe
          have Hnb := Lib.hid hnb
          have Hblk2 := Lib.hid (row_kept hal2 Hblk.out id)
          have Hal2 := Lib.hid (Hal.out.trans hal2)
          have hvn : vb < nb := by omega
          clear hal2 hnb hnbe
          go_wp2_with fail
          rw [← Hnbe.out]
          generalize w1.alloc (.cells #[.bool false, .string ⟨#[]⟩, .slice none 0 0] 71) = w2 at *
          go_loopw [8] (fun av wr => ∃ (a : Nat) (acc : List Nd) (kv : Value), av = .int .i64 a ∧ 1 ≤ a ∧ a ≤ S.size ∧ Kd wr (nb + 1) kv acc ∧ Chg NoB w wr ∧ acc.length + 1 ≤ a ∧
            rdL (2 * (S.data.toList.drop a).length + 2) (S.data.toList.drop a) (d + 1) acc = R ∧ wr.heap[vb]? = some (.cells #[.bool false, .string ⟨#[]⟩, .slice none 0 0] 71 (0, 0)) ∧
            wr.heap[nb]? = some (.cells #[.bool false, .string ⟨#[]⟩, kv] 71 (0, 0))) (fun av _ => S.size - (intOf av).toNat)
          case atStart => exact ⟨1, [], _, rfl, Nat.le_refl _, hS0, Kd.nil _ _ (by omega), Hal2.out, Nat.le_refl _, by rw [drop_one, HRR.out], Hblk2.out, Hnb.out⟩
          case round =>
            obtain ⟨a, acc, kv, rfl, ha1, ha2, hkd, hch, hacc, hinv, hbv, hbn⟩ := hrel
            obtain ⟨q0, n0, cap0, hkv⟩ := hkd.shape2
            subst hkv
            have Hkd := Lib.hid hkd
            have Hch := Lib.hid hch
            have Hinv := Lib.hid hinv
            have Hbv := Lib.hid hbv
            have Hbn := Lib.hid hbn
            obtain ⟨x0, x1, x2⟩ := var3 hbn
            clear hkd hch hinv hbv hbn
            by_cases hlt : a < S.size
            · have haI : (a : Int) < (S.size : Int) := by omega
              have haN : ((a : Int) == (S.size : Int)) = false := by rw [beq_eq_false_iff_ne]; omega
              by_cases h41 : ((S[a]).toNat : Int) = 41
              · have h41' : (S.data.toList.drop a).head? = some 41 := by rw [head_drop S a hlt]; congr 1; exact UInt8.toNat_inj.1 (by rw [show (41 : UInt8).toNat = 41 from rfl]; omega)
                have hres : decN S.data.toList d = .ok (.mk false ⟨#[]⟩ acc, (S.data.toList.drop a).tail) := by rw [Hdl.out, ← Hinv.out, rdL, if_pos h41']
                have Hres := Lib.hid hres
                have htl : (S.data.toList.drop a).tail.length = S.size - a - 1 := by rw [List.length_tail, List.length_drop, Hsl.out]
                have Htl := Lib.hid htl
                obtain ⟨d0, d1, d2⟩ := var3 Hbv.out
                have df := row_free Hbv.out
                clear hres h41' htl
                go_wp2_with fail
                obtain ⟨e0, e1, e2⟩ := var3 (box3 Hbv.out (.bool false) (.string ⟨#[]⟩) (.slice q0 n0 cap0))
                have hfin := box3_chg (b := vb) Hch.out Hb0.out (.bool false) (.string ⟨#[]⟩) (.slice q0 n0 cap0)
                have hst := st3 wr (g := vb) 0 (.bool false) (.string ⟨#[]⟩) (.slice q0 n0 cap0)
                obtain ⟨kb, ko, hnds⟩ := Hkd.out.nds
                have hnds' := hnds.keep hst fun x hx hv => by have : x = vb := hv; have := hx.1.1; omega
                have hsz9 := hst.size
                have hb00 := Hb0.out
                generalize ((wr.setCell ⟨vb, 0, none⟩ (.bool false)).setCell ⟨vb, 1, none⟩ (.string ⟨#[]⟩)).setCell ⟨vb, 2, none⟩ (.slice q0 n0 cap0) = wf at *
                refine bodyPost_ret (v := .tuple #[.agg #[.bool false, .string ⟨#[]⟩, .slice q0 n0 cap0], .int .i64 ((a : Int) + 1), .int .i64 0]) (by simp [results, Tryz.results84, go_sem, e0, e1, e2]) rfl ⟨hfin, ?_⟩
                rw [Hres.out]
                refine ⟨_, ?_, ⟨Nat.zero_le _, _, kb, ko, rfl, hnds'.mono fun x hx => (Nw.keep hx hst fun hv => by have : x = vb := hv; have := hx.1.1; omega).le (by omega)⟩, by rw [Htl.out]; omega⟩
                rw [Htl.out, show S.size - (S.size - a - 1) = a + 1 by omega]
                push_cast
                rfl
              · have h41' : (S.data.toList.drop a).head? ≠ some 41 := by
                  rw [head_drop S a hlt]
                  intro e
                  rw [Option.some.inj e] at h41
                  exact h41 rfl
                have Hcall := Lib.hid (IH.out (S.extract a S.size) (by rw [ext_size]; omega) (d + 1) wr (by omega))
                rw [ext_drop, ext_size] at Hcall
                have hstep : rdL (2 * (S.data.toList.drop a).length + 2) (S.data.toList.drop a) (d + 1) acc = match decN (S.data.toList.drop a) (d + 1) with | .error e => .error e | .ok (k, r) => rdL (2 * (S.data.toList.drop a).length + 1) r (d + 1) (acc ++ [k]) := by
                  rw [rdL, if_neg h41']
                  unfold decN
                  cases rdN (2 * (S.data.toList.drop a).length + 1) (S.data.toList.drop a) (d + 1) <;> rfl
                have Hstep := Lib.hid hstep
                clear hstep h41'
                cases hdec : decN (S.data.toList.drop a) (d + 1) with
                | error y =>
                  obtain ⟨g0, g1⟩ := rdN_err _ _ _ _ hdec
                  have hyb : (y == 0) = false := by rw [beq_eq_false_iff_ne]; omega
                  rw [hdec] at Hcall
                  have hres : decN S.data.toList d = .error y := by rw [Hdl.out, ← Hinv.out, Hstep.out, hdec]
                  have Hres := Lib.hid hres
                  clear hres hdec x0 x1 x2
                  go_wp2_with fail
                  refine Hcall.out.mono ?_
                  rintro e w6 ⟨hc6, rfl⟩
                  have Hc6 := Lib.hid hc6
                  have hal6 := (Chg.refl NoB w6).alloc (.cells #[.bool false, .string ⟨#[]⟩, .slice none 0 0] 71)
                  have hblk7 := row_kept hal6 (row_kept hc6 Hbv.out id) id
                  obtain ⟨d0, d1, d2⟩ := var3 hblk7
                  have df := row_free hblk7
                  have Hblk7 := Lib.hid hblk7
                  have Hal6 := Lib.hid hal6
                  clear hc6 hblk7 hal6
                  unfold nodeZ
                  go_wp2_with fail
                  generalize w6.alloc (.cells #[.bool false, .string ⟨#[]⟩, .slice none 0 0] 71) = w7 at *
                  obtain ⟨e0, e1, e2⟩ := var3 (box3 Hblk7.out (.bool false) (.string ⟨#[]⟩) (.slice none 0 0))
                  have hfin := box3_chg (b := vb) (Hch.out.trans (Hc6.out.trans Hal6.out)) Hb0.out (.bool false) (.string ⟨#[]⟩) (.slice none 0 0)
                  generalize ((w7.setCell ⟨vb, 0, none⟩ (.bool false)).setCell ⟨vb, 1, none⟩ (.string ⟨#[]⟩)).setCell ⟨vb, 2, none⟩ (.slice none 0 0) = wf at *
                  refine bodyPost_ret (v := .tuple #[nodeZ, .int .i64 0, .int .i64 y]) (by simp [results, Tryz.results84, go_sem, e0, e1, e2, nodeZ]) rfl ⟨hfin, ?_⟩
                  rw [Hres.out]
                | ok kr =>
                  obtain ⟨kn, r'⟩ := kr
                  rw [hdec] at Hcall
                  have hlr : r'.length + 2 ≤ (S.data.toList.drop a).length := rdN_len _ _ _ _ _ hdec
                  have hdl2 : (S.data.toList.drop a).length = S.size - a := by rw [List.length_drop, Hsl.out]
                  obtain ⟨hsuf, _⟩ := enc_rd _ _ _ _ _ hdec
                  have hdrop := suffix_drop (a := a) rfl hsuf (by rw [Hsl.out]; exact ha2)
                  rw [hdl2] at hdrop
                  have hnext : rdL (2 * r'.length + 2) r' (d + 1) (acc ++ [kn]) = R := by
                    rw [← Hinv.out, Hstep.out, hdec]
                    exact rdL_fuel _ _ _ _ _ (by omega) (by omega)
                  have Hnext := Lib.hid hnext
                  have Hdrop := Lib.hid hdrop
                  obtain ⟨us, hus⟩ : ∃ us, us = S.size - a - r'.length := ⟨_, rfl⟩
                  have hus1 : 2 ≤ us := by omega
                  have hus2 : a + us ≤ S.size := by omega
                  rw [← hus] at Hdrop
                  have Hus := Lib.hid hus
                  clear hnext hdec hlr hsuf hdrop hdl2 hus x0 x1 x2
                  go_wp2_with fail
                  refine Hcall.out.mono ?_
                  rintro e w6 ⟨hc6, v6, he6, hv6, hrl6⟩
                  rw [← Hus.out] at he6
                  subst he6
                  obtain ⟨hka, q6, len6, cap6, kb6, ko6, rfl, hs6⟩ := hv6.shape
                  have Hc6 := Lib.hid hc6
                  obtain ⟨hlo, xs, hown, hrow⟩ := Hkd.out
                  have hz6 := hc6.size
                  have hownK := ownsRow_chg hown hc6 fun _ _ => id
                  have hrowK := hrow.keep (S' := KdS (nb + 1) (.slice q0 n0 cap0) w6) hc6 (fun _ _ => id) fun k hk => ⟨hk.1.keep hc6 id, hk.2⟩
                  have HN : ∀ k, (Value.slice q0 n0 cap0).ownBlock = some k → k < wr.heap.size := fun k hk => (hown.lt k hk).2
                  have HownK := Lib.hid hownK
                  have HrowK := Lib.hid hrowK
                  have Hs6 := Lib.hid hs6
                  have HN' := Lib.hid HN
                  have Hz6 := Lib.hid hz6
                  obtain ⟨i0, hi, hz0, hz1, hz2⟩ := info_parts nodeInfo
                  have Hi := Lib.hid hi
                  have Hz0 := Lib.hid hz0
                  have Hz1 := Lib.hid hz1
                  have Hz2 := Lib.hid hz2
                  obtain ⟨na, hna⟩ : ∃ na, na = acc.length := ⟨_, rfl⟩
                  have Hna := Lib.hid hna
                  have M1 := Lib.hid (show na + 1 ≤ maxLen by unfold maxLen; omega)
                  have M2 := Lib.hid (show (na + 1) * 48 ≤ 140737488355328 by omega)
                  have Hlo := Lib.hid hlo
                  have Hbv6 := Lib.hid (row_kept hc6 Hbv.out id)
                  have Hbn6 := Lib.hid (row_kept hc6 Hbn.out id)
                  clear hc6 hown hrow hownK hrowK hs6 HN hv6 hz6 hi hz0 hz1 hz2 hna hlo
                  go_upto_region 13 with fail
                  have hal7 := (Chg.refl NoB w6).alloc (.cells #[.bool kn.leaf, .string kn.atom, .slice q6 len6 cap6] 71)
                  obtain ⟨g0, g1, g2⟩ := var3 (heap_alloc_new w6 (.cells #[.bool kn.leaf, .string kn.atom, .slice q6 len6 cap6] 71))
                  obtain ⟨x0, x1, x2⟩ := var3 (row_kept hal7 Hbn6.out id)
                  have hown7 := ownsRow_chg HownK.out hal7 fun _ _ => id
                  have Hal7 := Lib.hid hal7
                  generalize w6.alloc (.cells #[.bool kn.leaf, .string kn.atom, .slice q6 len6 cap6] 71) = w7 at *
                  have hal8 := (Chg.refl NoB w7).alloc (.cells #[.bool kn.leaf, .string kn.atom, .slice q6 len6 cap6] 71)
                  have hown8 := ownsRow_chg hown7 hal8 fun _ _ => id
                  rw [← Hna.out] at hown8
                  have Hown8 := Lib.hid hown8
                  have Hal8 := Lib.hid (Hal7.out.trans hal8)
                  have hb8 : nb + 1 ≤ (w7.alloc (.cells #[.bool kn.leaf, .string kn.atom, .slice q6 len6 cap6] 71)).heap.size := Nat.le_trans Hlo.out (Nat.le_trans Hz6.out Hal8.out.size)
                  clear hal7 hown7 hal8 hown8
                  go_wp2_with (at_builtin; refine wpList_append_at _ rfl _ _ 69 rfl (nb + 1) 71 i0 (.agg #[.bool false, .string ⟨#[]⟩, .slice none 0 0]) 3 48 Tryz.underlying69 Hi.out Hz0.out Hz1.out Hz2.out rfl (by decide) _ na _ rfl Hown8.out ⟨w7.heap.size, 0, none⟩ 1 1 [.bool kn.leaf, .string kn.atom, .slice q6 len6 cap6] rfl rfl (lit3 w7 _ _ _ _) (one3 _ _ _ _ _) M1.out M2.out hb8 ?_)
                  intro v9 w9 hown9 hgr9 hpl9
                  have hgc9 : Chg (fun k => (Value.slice q0 n0 cap0).ownBlock = some k) _ w9 := (Chg.refl _ _).grown hgr9 fun k hk => .inl hk
                  have h69 : Chg (fun k => (Value.slice q0 n0 cap0).ownBlock = some k) w6 w9 := (Hal8.out.mono fun _ _ x => x.elim).trans hgc9
                  have hob : ∀ k, (Value.slice q0 n0 cap0).ownBlock = some k → nb + 1 ≤ k := fun k hk => (HownK.out.lt k hk).1
                  have hkd9 : Kd w9 (nb + 1) v9 (acc ++ [kn]) := Kd.push HN'.out Hlo.out Hz6.out HrowK.out hka Hs6.out Hal8.out (by rw [← Hna.out]; exact hown9) hgr9 (by rw [alloc_size]; exact hpl9)
                  obtain ⟨q9, n9, cap9, hv9⟩ := hkd9.shape2
                  have hbv9 := row_kept h69 Hbv6.out fun hk => by have := hob vb hk; omega
                  have hbn9 := row_kept h69 Hbn6.out fun hk => by have := hob nb hk; omega
                  have hch9 : Chg NoB w w9 := by
                    refine ⟨(h69.os.trans Hc6.out.os).trans Hch.out.os, (h69.tape.trans Hc6.out.tape).trans Hch.out.tape, (h69.output.trans Hc6.out.output).trans Hch.out.output, Nat.le_trans Hch.out.size (Nat.le_trans Hc6.out.size h69.size), fun k hk _ => ?_⟩
                    have hv0 := Hvb.out
                    have z1 := Hch.out.size
                    have z2 := Hc6.out.size
                    rw [h69.block k (by omega) fun hx => by have := hob k hx; omega]
                    exact (Hch.out.trans Hc6.out).block k hk id
                  subst hv9
                  obtain ⟨y0, y1, y2⟩ := var3 hbn9
                  have yf := row_free hbn9
                  have hst : Chg (fun k => k = nb) w9 (w9.setCell ⟨nb, 2, none⟩ (.slice q9 n9 cap9)) := (Chg.refl (fun k => k = nb) w9).setCell (p := ⟨nb, 2, none⟩) (.inl rfl) _
                  have Hkd9 := Lib.hid (hkd9.keep hst fun k _ hk hkb => by have : k = nb := hkb; omega)
                  have Hbv9 := Lib.hid (row_kept hst hbv9 (by show ¬ vb = nb; omega))
                  have Hbn9 := Lib.hid (heap_set hbn9 (i := 2) (.slice q9 n9 cap9))
                  have Hch9 := Lib.hid (hch9.setCell (p := ⟨nb, 2, none⟩) (.inr (by have := Hb0.out; show w.heap.size ≤ nb; omega)) (.slice q9 n9 cap9))
                  clear hown9 hgr9 hpl9 hgc9 h69 hob hkd9 hbv9 hbn9 hch9 hst x0 x1 x2
                  go_wp2_with fail
                  go_roundw
                  case rel => exact ⟨a + us, acc ++ [kn], _, by go_num, by omega, hus2, Hkd9.out, Hch9.out, by rw [List.length_append]; simp only [List.length_cons, List.length_nil]; omega, by rw [Hdrop.out]; exact Hnext.out, Hbv9.out, Hbn9.out⟩
                  case measure => simp [intOf]; omega
            · obtain rfl : a = S.size := by omega
              have haN : ((S.size : Int) == (S.size : Int)) = true := beq_self_eq_true _
              have hres : decN S.data.toList d = .error 5 := by
                rw [Hdl.out, ← Hinv.out, List.drop_of_length_le (by rw [Hsl.out]; exact Nat.le_refl _)]
                exact rdL_nil _ _
              have Hres := Lib.hid hres
              obtain ⟨d0, d1, d2⟩ := var3 Hbv.out
              have df := row_free Hbv.out
              clear hres
              go_wp2_with fail
              obtain ⟨e0, e1, e2⟩ := var3 (box3 Hbv.out (.bool false) (.string ⟨#[]⟩) (.slice none 0 0))
              have hfin := box3_chg (b := vb) Hch.out Hb0.out (.bool false) (.string ⟨#[]⟩) (.slice none 0 0)
              generalize ((wr.setCell ⟨vb, 0, none⟩ (.bool false)).setCell ⟨vb, 1, none⟩ (.string ⟨#[]⟩)).setCell ⟨vb, 2, none⟩ (.slice none 0 0) = wf at *
              refine bodyPost_ret (v := .tuple #[nodeZ, .int .i64 0, .int .i64 5]) (by simp [results, Tryz.results84, go_sem, e0, e1, e2, nodeZ]) rfl ⟨hfin, ?_⟩
              rw [Hres.out]
        · have hd32' : d = 32 := by omega
          subst hd32'
          have hres : decN S.data.toList 32 = .error 4 := by rw [Hdl.out]; unfold listD; rw [if_pos (by decide)]
          have Hres := Lib.hid hres
          clear hres hh
          go_enter Tryz.func84, Tryz.ntmps84
          go_upto_region 1 with fail
          rw [← Hvb.out]
          generalize w.alloc (.cells #[.bool false, .string ⟨#[]⟩, .slice none 0 0] 71) = w1 at *
          go_wp2_with fail
          obtain ⟨e0, e1, e2⟩ := var3 (box3 Hblk.out (.bool false) (.string ⟨#[]⟩) (.slice none 0 0))
          have hfin := box3_chg (b := vb) Hal.out Hb0.out (.bool false) (.string ⟨#[]⟩) (.slice none 0 0)
          generalize ((w1.setCell ⟨vb, 0, none⟩ (.bool false)).setCell ⟨vb, 1, none⟩ (.string ⟨#[]⟩)).setCell ⟨vb, 2, none⟩ (.slice none 0 0) = wf at *
          refine bodyPost_ret (v := .tuple #[nodeZ, .int .i64 0, .int .i64 4]) (by simp [results, Tryz.results84, go_sem, e0, e1, e2, nodeZ]) rfl ⟨hfin, ?_⟩
          rw [Hres.out]
      · have hh : S.data.toList.head? ≠ some 40 := by
          rw [Hhead.out]
          intro e
          have := Option.some.inj e
          rw [this] at h40
          exact h40 rfl
        have hres : decN S.data.toList d = atR S.data.toList := decN_atom hh d
        have Hres := Lib.hid hres
        clear hres hh d0 d1 d2 df
        go_enter Tryz.func84, Tryz.ntmps84
        go_upto_region 1 with fail
        rw [← Hvb.out]
        generalize w.alloc (.cells #[.bool false, .string ⟨#[]⟩, .slice none 0 0] 71) = w1 at *
        have Htext := Lib.hid (text_any S (by omega) w1)
        go_wp2_with fail
        refine Htext.out.mono ?_
        rintro e w2 hq
        obtain ⟨lf, a, q, n, c, u, y, rfl⟩ := hq.shape
        have Hq := Lib.hid hq
        have hblk2 := row_kept hq.1 Hblk.out id
        obtain ⟨d0, d1, d2⟩ := var3 hblk2
        have df := row_free hblk2
        have Hblk2 := Lib.hid hblk2
        clear hq hblk2
        go_wp2_with fail
        obtain ⟨e0, e1, e2⟩ := var3 (box3 Hblk2.out (.bool lf) (.string a) (.slice q n c))
        have hst := st3 w2 (g := vb) 0 (.bool lf) (.string a) (.slice q n c)
        generalize ((w2.setCell ⟨vb, 0, none⟩ (.bool lf)).setCell ⟨vb, 1, none⟩ (.string a)).setCell ⟨vb, 2, none⟩ (.slice q n c) = wf at *
        refine bodyPost_ret (v := .tuple #[.agg #[.bool lf, .string a, .slice q n c], .int .i64 u, .int .i64 y]) (by simp [results, Tryz.results84, go_sem, e0, e1, e2]) rfl ?_
        rw [Hres.out]
        exact Hq.out.pass Hal.out Hvb.out hsz hst
end Go.Proofs.YtilkcjcmcnlfnaaGreatDoor
