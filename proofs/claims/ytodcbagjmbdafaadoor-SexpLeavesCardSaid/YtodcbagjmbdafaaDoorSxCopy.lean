/- The document's Copy: the same node, its nodes in a row of the call's own. Condition: at most 2^20 nodes and bytes. -/
import Derived.Test.YtodcbagjmbdafaaDoorSxSpoil
namespace Go.Proofs.YtodcbagjmbdafaaDoor
set_option linter.unusedVariables false
open Go.ChangeShapes Go.WideShapes Go.ChangeAt Go.RowKit
def CopyP (n : Nd) (w : World) (e : Ending) (w' : World) : Prop := Chg NoB w w' ∧ ∃ q len c lo, e = .returned (.agg #[.bool n.leaf, .string n.atom, .slice q len c]) ∧ w.heap.size ≤ lo ∧ Kd w' lo (.slice q len c) n.kids
set_option maxHeartbeats 4000000 in
set_option maxRecDepth 20000 in
theorem copy_any (N : Nat) (hN : N ≤ 1048576) : ∀ (n : Nd), n.count ≤ N → ∀ (S : Nat → Prop) (v : Value) (w : World), NdV w S v n →
    Calls Tryd.prog 20 #[v] w (CopyP n w) := by
  induction N with
  | zero => intro n hn; have := n.count_pos; omega
  | succ N ih =>
    intro n hn S v w hv
    have IH := Lib.hid (ih (by omega))
    clear ih
    obtain ⟨lf, at', ks⟩ := n
    obtain ⟨ha, s, kb, ko, rfl, hs⟩ := hv
    obtain ⟨⟨q, c, hsq, hkc, hcm, hqq⟩, hk⟩ := hs
    simp only [Nd.leaf, Nd.atom, Nd.kids] at *
    subst hsq
    have hlk := Nd.len_counts ks
    have hcc : Nd.counts ks ≤ N := by rw [Nd.count] at hn; omega
    obtain ⟨len, hlen⟩ : ∃ len, len = ks.length := ⟨_, rfl⟩
    rw [← hlen] at hkc hlk ⊢
    have hlb : len ≤ 1048576 := by omega
    have Hk := Lib.hid hk
    have Hq := Lib.hid hqq
    have Hcc := Lib.hid hcc
    have Hlen := Lib.hid hlen
    unfold maxLen at ha hcm
    have hal0 := (Chg.refl NoB w).alloc (.cells #[.bool lf, .string at', .slice q len c] 24)
    have hb0 := heap_alloc_new w (.cells #[.bool lf, .string at', .slice q len c] 24)
    have hs1 := alloc_size w (.cells #[.bool lf, .string at', .slice q len c] 24)
    have Hal0 := Lib.hid hal0
    have Hb0 := Lib.hid hb0
    obtain ⟨vb, hvb⟩ : ∃ vb, vb = w.heap.size := ⟨_, rfl⟩
    rw [← hvb] at Hb0 hs1
    have Hvb := Lib.hid hvb
    have Hs1 := Lib.hid hs1
    clear hs1 hk hqq hcc hn hlen hlk hal0 hb0 hvb
    go_enter Tryd.func20, Tryd.ntmps20
    go_upto_region 1 with fail
    rw [← Hvb.out]
    generalize w.alloc (.cells #[.bool lf, .string at', .slice q len c] 24) = w1 at *
    have hal1 := (Chg.refl NoB w1).alloc (.cells #[.bool false, .string ⟨#[]⟩, .slice none 0 0] 24)
    have hb1 := heap_alloc_new w1 (.cells #[.bool false, .string ⟨#[]⟩, .slice none 0 0] 24)
    have hb0' := row_kept hal1 Hb0.out id
    have hlt1 := lt_of_block Hb0.out
    have hlt2 := lt_of_block hb1
    rw [Hs1.out] at hb1 hlt1 hlt2
    obtain ⟨vr, hvr⟩ : ∃ vr, vr = vb + 1 := ⟨_, rfl⟩
    rw [← hvr] at hb1 hlt1 hlt2 ⊢
    generalize w1.alloc (.cells #[.bool false, .string ⟨#[]⟩, .slice none 0 0] 24) = w2 at *
    obtain ⟨f0, f1, f2⟩ := var3 hb0'
    have Hb02 := Lib.hid hb0'
    have Hb12 := Lib.hid hb1
    have Hc2 := Lib.hid (Hal0.out.trans hal1)
    obtain ⟨lo, hlo⟩ : ∃ lo, lo = w2.heap.size := ⟨_, rfl⟩
    have hkd0 : Kd w2 lo (.slice none 0 0) [] := Kd.nil _ _ (by omega)
    rw [← hlo] at hlt2
    have Hkd0 := Lib.hid hkd0
    have Hlo := Lib.hid hlo
    clear hal1 hb1 hb0' hvr hkd0 hlo f0 f1
    go_wp2_with fail
    clear f2
    go_loopw [3, 9] (fun lv i wr => ∃ k : Nat, k ≤ len ∧ i = .int .i64 k ∧ Kd wr lo lv (ks.take k) ∧ Chg NoB w2 wr) (fun _ i _ => len - (intOf i).toNat)
    case atStart => exact ⟨0, Nat.zero_le _, rfl, Hkd0.out, Chg.refl _ _⟩
    case round =>
      obtain ⟨k, hk, rfl, hkd, hch⟩ := hrel
      have Hkd := Lib.hid hkd
      have Hch := Lib.hid hch
      clear hkd hch
      by_cases hlt : k < len
      · obtain rfl := Hq.out (by rintro rfl; have := Hlen.out; simp at this; omega)
        have hlt' : k < ks.length := by have := Hlen.out; omega
        obtain ⟨_, hca, s', kb', ko', c0, c1, c2, hs'⟩ := (Hk.out k hlt').cells
        have hw := Hc2.out.trans Hch.out
        have hv : NdV w S (.agg #[.bool ks[k].leaf, .string ks[k].atom, s']) ks[k] := ⟨hca, _, kb', ko', rfl, hs'⟩
        obtain ⟨⟨q', c', hsq', _, _, _⟩, _⟩ := hs'
        subst hsq'
        have c0' := hw.keep c0
        have c1' := hw.keep c1
        have c2' := hw.keep c2
        have hcnt : ks[k].count ≤ N := Nat.le_trans (Nd.counts_get ks k hlt') Hcc.out
        have htk : ks.take (k + 1) = ks.take k ++ [ks[k]] := by rw [List.take_add_one, List.getElem?_eq_getElem hlt']; rfl
        have Hv := Lib.hid (hv.keep hw fun _ _ => id)
        have Hcnt := Lib.hid hcnt
        have Htk := Lib.hid htk
        clear c0 c1 c2 hw hv hcnt htk hca
        generalize ks[k] = kd at *
        obtain ⟨kl, ka, kk⟩ := kd
        simp only [Nd.leaf, Nd.atom, Nd.kids] at *
        obtain ⟨kn, hkn⟩ : ∃ kn, kn = kk.length := ⟨_, rfl⟩
        rw [← hkn] at c2' Hv
        have hal5 := (Chg.refl NoB wr).alloc (.cells #[.bool kl, .string ka, .slice q' kn c'] 24)
        obtain ⟨g0, g1, g2⟩ := var3 (heap_alloc_new wr (.cells #[.bool kl, .string ka, .slice q' kn c'] 24))
        have Hal5 := Lib.hid hal5
        clear hkn hal5
        go_upto_region 5 with fail
        generalize wr.alloc (.cells #[.bool kl, .string ka, .slice q' kn c'] 24) = w5 at *
        have Hcall := Lib.hid (IH.out (.mk kl ka kk) Hcnt.out S _ w5 (Hv.out.keep Hal5.out fun _ _ => id))
        have Hch5 := Lib.hid (Hch.out.trans Hal5.out)
        have Hkd5 := Lib.hid (Hkd.out.keep (T := NoB) Hal5.out fun _ _ _ => id)
        clear c0' c1' c2'
        obtain ⟨acc, hacc⟩ : ∃ acc, acc = ks.take k := ⟨_, rfl⟩
        rw [← hacc] at Hkd5 Htk
        have hna : acc.length = k := by rw [hacc, List.length_take]; omega
        have Hna := Lib.hid hna
        clear hna hacc Hkd
        go_wp2_with fail
        refine Hcall.out.mono ?_
        rintro e w6 ⟨hc6, q6, len6, cap6, lo6, rfl, hlo6, hkd6⟩
        simp only [Nd.leaf, Nd.atom, Nd.kids] at *
        obtain ⟨kb6, ko6, hs6⟩ := hkd6.nds
        obtain ⟨hlo5, xs, hown, hrow⟩ := Hkd5.out
        have hz5 : lo ≤ w5.heap.size := hlo5
        have hz6 := hc6.size
        have hownK := ownsRow_chg hown hc6 fun _ _ => id
        have hrowK := hrow.keep (S' := KdS lo u3 w6) hc6 (fun _ _ => id) fun k hk => ⟨hk.1.keep hc6 id, hk.2⟩
        have HN : ∀ k, u3.ownBlock = some k → k < w5.heap.size := fun k hk => (hown.lt k hk).2
        have HownK := Lib.hid hownK
        have HrowK := Lib.hid hrowK
        have Hs6 := Lib.hid (hs6.mono (T := Nw w5.heap.size w6) fun x hx => hx.le hlo6)
        have HN' := Lib.hid HN
        have Hz5 := Lib.hid hz5
        have Hz6 := Lib.hid hz6
        have Hch6 := Lib.hid (Hch5.out.trans hc6)
        have Hka : Hid (ka.size ≤ maxLen) := Lib.hid Hv.out.1
        obtain ⟨q0, n0, cap0, hu6⟩ := Hkd5.out.shape2
        subst hu6
        obtain ⟨i0, hi, hz0, hz1, hz2⟩ := info_parts nodeInfo
        have Hi := Lib.hid hi
        have Hz0 := Lib.hid hz0
        have Hz1 := Lib.hid hz1
        have Hz2 := Lib.hid hz2
        have M1 := Lib.hid (show k + 1 ≤ maxLen by unfold maxLen; omega)
        have M2 := Lib.hid (show (k + 1) * 48 ≤ 140737488355328 by omega)
        have hal7 := (Chg.refl NoB w6).alloc (.cells #[.bool kl, .string ka, .slice q6 len6 cap6] 24)
        have hown7 := ownsRow_chg HownK.out hal7 fun _ _ => id
        rw [Hna.out] at hown7
        have Hown7 := Lib.hid hown7
        have Hal7 := Lib.hid hal7
        have hb7 : lo ≤ (w6.alloc (.cells #[.bool kl, .string ka, .slice q6 len6 cap6] 24)).heap.size := Nat.le_trans Hz5.out (Nat.le_trans Hz6.out Hal7.out.size)
        clear hal7 hown7 hown hrow hownK hrowK hs6 HN hkd6 hz5 hz6 hi hz0 hz1 hz2 hc6 hlo5 hlo6
        go_wp2_with (at_builtin; refine wpList_append_at _ rfl _ _ 22 rfl lo 24 i0 (.agg #[.bool false, .string ⟨#[]⟩, .slice none 0 0]) 3 48 Tryd.underlying22 Hi.out Hz0.out Hz1.out Hz2.out rfl (by decide) _ k _ rfl Hown7.out ⟨w6.heap.size, 0, none⟩ 1 1 [.bool kl, .string ka, .slice q6 len6 cap6] rfl rfl (lit3 w6 _ _ _ _) (one3 _ _ _ _ _) M1.out M2.out hb7 ?_)
        intro v9 w9 hown9 hgr9 hpl9
        have hgc9 : Chg (fun k => (Value.slice q0 n0 cap0).ownBlock = some k) _ w9 := (Chg.refl _ _).grown hgr9 fun k hk => .inl hk
        have h69 : Chg (fun k => (Value.slice q0 n0 cap0).ownBlock = some k) w6 w9 := (Hal7.out.mono fun _ _ x => x.elim).trans hgc9
        have hob : ∀ k, (Value.slice q0 n0 cap0).ownBlock = some k → lo ≤ k := fun k hk => (HownK.out.lt k hk).1
        have hkd9 : Kd w9 lo v9 (acc ++ [.mk kl ka kk]) := Kd.push HN'.out Hz5.out Hz6.out HrowK.out Hka.out Hs6.out Hal7.out (by rw [Hna.out]; exact hown9) hgr9 (by rw [alloc_size]; exact hpl9)
        rw [← Htk.out] at hkd9
        have hch9 : Chg NoB w2 w9 := Chg.above Hch6.out h69 fun k hk => by have := hob k hk; have := Hlo.out; omega
        have Hkd9 := Lib.hid hkd9
        have Hch9 := Lib.hid hch9
        clear hown9 hgr9 hpl9 hgc9 h69 hob hkd9 hch9
        go_wp2_with fail
        go_roundw
        case rel => exact ⟨k + 1, by omega, by go_num, Hkd9.out, Hch9.out⟩
        case measure => simp [intOf]; omega
      · obtain rfl : k = len := by omega
        have htk : ks.take k = ks := by rw [Hlen.out, List.take_length]
        rw [htk] at Hkd
        have hrb := row_kept Hch.out Hb02.out id
        have hrr := row_kept Hch.out Hb12.out id
        obtain ⟨q9, n9, cap9, hu9⟩ := Hkd.out.shape2
        subst hu9
        have hs9 : Chg (fun x => x = vb) wr (wr.setCell ⟨vb, 2, none⟩ (.slice q9 n9 cap9)) := (Chg.refl (fun x => x = vb) wr).setCell (p := ⟨vb, 2, none⟩) (.inl rfl) _
        have hrb9 := heap_set hrb (i := 2) (.slice q9 n9 cap9)
        have hrr9 := row_kept hs9 hrr (by show ¬ vr = vb; omega)
        have hkd9 := Hkd.out.keep hs9 fun x h1 h2 h3 => by have : x = vb := h3; omega
        obtain ⟨d0, d1, d2⟩ := var3 hrb
        obtain ⟨r0, r1, r2⟩ := var3 hrr
        have df := row_free hrb
        have rf := row_free hrr
        obtain ⟨b0, b1, b2⟩ := var3 hrb9
        obtain ⟨m0, m1, m2⟩ := var3 hrr9
        have mf := row_free hrr9
        have Hrr9 := Lib.hid hrr9
        have Hkd9 := Lib.hid hkd9
        have Hs9 := Lib.hid hs9
        clear hrb hrr hrb9 hrr9 hkd9 hs9 htk
        go_wp2_with fail
        have hch9 := (Hc2.out.trans Hch.out).above Hs9.out fun x hx => by have := Hvb.out; have : x = vb := hx; omega
        have hvr : w.heap.size ≤ vr := by have := Hvb.out; omega
        have hwl : w.heap.size ≤ lo := by omega
        generalize wr.setCell ⟨vb, 2, none⟩ (.slice q9 n9 cap9) = w9 at *
        obtain ⟨e0, e1, e2⟩ := var3 (box3 Hrr9.out (.bool lf) (.string at') (.slice q9 n9 cap9))
        have hfin := box3_chg (b := vr) hch9 hvr (.bool lf) (.string at') (.slice q9 n9 cap9)
        have hst : Chg (fun x => x = vr) w9 (((w9.setCell ⟨vr, 0, none⟩ (.bool lf)).setCell ⟨vr, 1, none⟩ (.string at')).setCell ⟨vr, 2, none⟩ (.slice q9 n9 cap9)) := by
          have := st3 w9 (g := vr) 0 (.bool lf) (.string at') (.slice q9 n9 cap9)
          simpa only [Nat.zero_add] using this
        have hkdf := Hkd9.out.keep hst fun x h1 h2 h3 => by have : x = vr := h3; omega
        generalize ((w9.setCell ⟨vr, 0, none⟩ (.bool lf)).setCell ⟨vr, 1, none⟩ (.string at')).setCell ⟨vr, 2, none⟩ (.slice q9 n9 cap9) = wf at *
        exact bodyPost_ret (v := .agg #[.bool lf, .string at', .slice q9 n9 cap9]) (by simp [results, Tryd.results20, go_sem, e0, e1, e2]) rfl ⟨hfin, q9, n9, cap9, lo, rfl, hwl, hkdf⟩
end Go.Proofs.YtodcbagjmbdafaaDoor
