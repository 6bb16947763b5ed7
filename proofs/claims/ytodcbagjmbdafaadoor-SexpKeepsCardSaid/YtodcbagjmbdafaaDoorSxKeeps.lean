/- Proved: the statement SexpKeeps holds for every node and text. Conditions: the listed package variables read as the program's text lays them (the card ties them); nothing else. -/
import Derived.Test.YtodcbagjmbdafaaDoorSxReads
import Derived.Test.YtodcbagjmbdafaaDoorSxCopy
namespace Go.Proofs.YtodcbagjmbdafaaDoor
open Go.ChangeShapes Go.WideShapes Go.ChangeAt Go.RowKit
set_option linter.unusedVariables false
open Go.ChangeMaps (open_string shut_string)
/- what a decoding leaves, whatever it answers -/
def resN : Except Int Nd → Nd
  | .ok n => n
  | .error _ => .mk false ⟨#[]⟩ []
def resY : Except Int Nd → Int
  | .ok _ => 0
  | .error y => y
theorem DecP.val {r : Except Int Nd} {w : World} {e : Ending} {w' : World} (h : DecP r w e w') : Chg NoB w w' ∧ ∃ v, e = .returned (.tuple #[v, .int .i64 (resY r)]) ∧ NdV w' (NewZ w w') v (resN r) := by
  refine ⟨h.1, ?_⟩
  have h2 := h.2
  cases r with
  | error y => exact ⟨nodeZ, h2, Nat.zero_le _, _, 0, 0, rfl, NdS.nil _ _⟩
  | ok n =>
    obtain ⟨v, e1, h3⟩ := h2
    exact ⟨v, e1, h3⟩
theorem resN_count {s : List UInt8} : (resN (decR s)).count ≤ 131072 := by
  cases h : decR s with
  | error y => show Nd.count (.mk false ⟨#[]⟩ []) ≤ _; decide
  | ok n => exact Nat.le_trans (dec_count h) (by decide)
/- a node of the call's own may be written over -/
theorem NdS.spS {w : World} {S : Nat → Prop} (hz : ∀ k, S k → ∀ j, w.frozen? ⟨k, j, none⟩ = false) {v : Value} {ks : List Nd} {kb ko : Nat} (h : NdS w S v ks kb ko) : SpS w S (Nd.counts ks) v ks.length kb ko := by
  obtain ⟨⟨q, c, rfl, h1, h2, h3⟩, hk⟩ := h
  exact ⟨⟨q, c, rfl, h1, h2, fun hn => h3 fun e => hn (by rw [e]; rfl)⟩, fun i hi => ((hk i hi).sp hz).le (Nd.counts_get ks i hi)⟩
/- a row of nodes that may be written into -/
def MRow (w : World) (v : Value) (n : Nat) : Prop := (v = .slice none 0 0 ∧ n = 0) ∨ ∃ g cap cur, v = .slice (some ⟨g, 0, none⟩) n cap ∧ w.heap[g]? = some (.cells cur 24 (0, 0)) ∧ n ≤ cap ∧ cap ≤ maxLen ∧ n * 3 ≤ cur.size
theorem MRow.of {w : World} {lo n : Nat} {v : Value} {xs : List Value} (h : w.ownsRow lo 24 3 v n xs) : MRow w v n := by
  rcases h.2 with x | ⟨g, cap, cur, h1, _, h2, h3, h4, h5, _⟩
  · exact .inl x
  · exact .inr ⟨g, cap, cur, h1, h2, h3, h4, by omega⟩
theorem MRow.keep {w w' : World} {S : Nat → Prop} {n : Nat} {v : Value} (h : MRow w v n) (hc : Chg S w w') (hS : ∀ k, v.ownBlock = some k → ¬ S k) : MRow w' v n := by
  rcases h with x | ⟨g, cap, cur, rfl, h2, h3⟩
  · exact .inl x
  · exact .inr ⟨g, cap, cur, rfl, row_kept hc h2 (hS g rfl), h3⟩
/- three cells of a row written over -/
theorem box3g {w : World} {b : Nat} {cs : Array Value} {t : TypeId} (h : w.heap[b]? = some (.cells cs t (0, 0))) (i : Nat) (u0 u1 u2 : Value) :
    (((w.setCell ⟨b, i, none⟩ u0).setCell ⟨b, i + 1, none⟩ u1).setCell ⟨b, i + 2, none⟩ u2).heap[b]? = some (.cells (((cs.setIfInBounds i u0).setIfInBounds (i + 1) u1).setIfInBounds (i + 2) u2) t (0, 0)) :=
  heap_set (heap_set (heap_set h u0) u1) u2
theorem sexpKeeps_long (n : Nd) (v : Value) (s : List UInt8) (W : World) (hv : NdV W (OldB W) v n) (hl : Lb W.heap.size W) (hb : 32768 < s.length) :
    Calls Tryd.prog 8 #[v, .string (tx s)] W fun e w' => e = .returned (.bool true) ∧ Chg NoB W w' := by
  obtain ⟨q, len, c, rfl⟩ := box_node hv
  have hss : (tx s).size = s.length := tx_size s
  have hal := (Chg.refl NoB W).alloc (.cells #[.bool n.leaf, .string n.atom, .slice q len c] 24)
  have hblk := heap_alloc_new W (.cells #[.bool n.leaf, .string n.atom, .slice q len c] 24)
  obtain ⟨vb, hvb⟩ : ∃ vb, vb = W.heap.size := ⟨_, rfl⟩
  rw [← hvb] at hblk
  have Hvb := Lib.hid hvb
  have Hal := Lib.hid hal
  have Hblk := Lib.hid hblk
  have Hv := Lib.hid (hv.keep hal fun _ _ => id)
  have Hl := Lib.hid hl
  clear hal hblk hvb hv hl
  go_enter Tryd.func8, Tryd.ntmps8
  go_upto_region 1 with fail
  rw [← Hvb.out]
  generalize W.alloc (.cells #[.bool n.leaf, .string n.atom, .slice q len c] 24) = w1 at *
  go_wp2_with fail
  refine (alive_any _ w1 (Hl.out.keep Hal.out)).mono ?_
  rintro e w2 ⟨rfl, hc2⟩
  have Hc2 := Lib.hid (Hal.out.trans hc2)
  have Hblk2 := Lib.hid (row_kept hc2 Hblk.out id)
  obtain ⟨v0, v1, v2⟩ := var3 Hblk2.out
  have Hv2 := Lib.hid (Hv.out.keep hc2 fun _ _ => id)
  have Hgr := Lib.hid (great_any n _ _ w2 Hv2.out)
  clear hc2
  go_wp2_with fail
  cases hg : greatN n with
  | true =>
    rw [hg] at Hgr
    refine Hgr.out.mono ?_
    rintro e w3 ⟨rfl, hc3⟩
    go_wp2_with fail
    go_ret
    exact ⟨rfl, Hc2.out.trans hc3⟩
  | false =>
    rw [hg] at Hgr
    refine Hgr.out.mono ?_
    rintro e w3 ⟨rfl, hc3⟩
    go_wp2_with fail
    go_ret
    exact ⟨rfl, Hc2.out.trans hc3⟩
set_option maxHeartbeats 1000000 in
set_option maxRecDepth 20000 in
theorem sexpKeeps_all (n : Nd) (v : Value) (x : ByteArray) (W : World) (hv : NdV W (OldB W) v n) (wx : x.size ≤ maxLen) (hl : Lb W.heap.size W) :
    Calls Tryd.prog 8 #[v, .string x] W fun e w' => e = .returned (.bool true) ∧ Chg NoB W w' := by
  obtain ⟨s, rfl⟩ : ∃ s, x = tx s := ⟨_, (tx_back x).symm⟩
  have hss : (tx s).size = s.length := tx_size s
  by_cases hbig : 32768 < s.length
  · exact sexpKeeps_long n v s W hv hl hbig
  obtain ⟨ha, sl, kb, ko, rfl, hs⟩ := hv
  obtain ⟨lf, at', ks⟩ := n
  have hsh := hs.sh
  obtain ⟨q, c, rfl, hkc, hcm, hqq⟩ := hsh
  simp only [Nd.leaf, Nd.atom, Nd.kids] at *
  obtain ⟨len, hlen⟩ : ∃ len, len = ks.length := ⟨_, rfl⟩
  rw [← hlen] at hs hkc ⊢
  have hal := (Chg.refl NoB W).alloc (.cells #[.bool lf, .string at', .slice q len c] 24)
  have hblk := heap_alloc_new W (.cells #[.bool lf, .string at', .slice q len c] 24)
  obtain ⟨vb, hvb⟩ : ∃ vb, vb = W.heap.size := ⟨_, rfl⟩
  rw [← hvb] at hblk
  have Hvb := Lib.hid hvb
  have Hal := Lib.hid hal
  have Hblk := Lib.hid hblk
  have Hs := Lib.hid (hs.keep hal fun _ _ => id)
  have Hl := Lib.hid hl
  have Ha := Lib.hid ha
  have Hlen := Lib.hid hlen
  clear hal hblk hvb hl wx hs ha hqq hlen
  go_enter Tryd.func8, Tryd.ntmps8
  go_upto_region 1 with fail
  rw [← Hvb.out]
  generalize W.alloc (.cells #[.bool lf, .string at', .slice q len c] 24) = w1 at *
  go_wp2_with fail
  refine (alive_any _ w1 (Hl.out.keep Hal.out)).mono ?_
  rintro e w2 ⟨rfl, hc2⟩
  have Hc2 := Lib.hid (Hal.out.trans hc2)
  have Hblk2 := Lib.hid (row_kept hc2 Hblk.out id)
  obtain ⟨v0, v1, v2⟩ := var3 Hblk2.out
  have hs2 := Hs.out.keep hc2 fun _ _ => id
  have Hs2 := Lib.hid hs2
  have hV : NdV w2 (OldB W) (.agg #[.bool lf, .string at', .slice q len c]) (.mk lf at' ks) := ⟨Ha.out, _, kb, ko, rfl, hs2⟩
  have Hgr := Lib.hid (great_any (.mk lf at' ks) _ _ w2 hV)
  clear hc2 hV hs2
  go_wp2_with fail
  cases hg : greatN (.mk lf at' ks) with
  | true =>
    rw [hg] at Hgr
    refine Hgr.out.mono ?_
    rintro e w3 ⟨rfl, hc3⟩
    go_wp2_with fail
    go_ret
    exact ⟨rfl, Hc2.out.trans hc3⟩
  | false =>
    have hcnt := great_no hg
    rw [hg] at Hgr
    have hcs : Nd.counts ks ≤ 131072 := by rw [Nd.count] at hcnt; omega
    have hlb : len ≤ 131072 := by have := Nd.len_counts ks; have := Hlen.out; omega
    have Hcs := Lib.hid hcs
    have Hcnt := Lib.hid hcnt
    clear hg hcnt hcs
    refine Hgr.out.mono ?_
    rintro e w3 ⟨rfl, hc3⟩
    have Hc3 := Lib.hid (Hc2.out.trans hc3)
    have Hblk3 := Lib.hid (row_kept hc3 Hblk2.out id)
    have hs3 := Hs2.out.keep hc3 fun _ _ => id
    have Hs3 := Lib.hid hs3
    clear v0 v1 v2
    obtain ⟨v0, v1, v2⟩ := var3 Hblk3.out
    have Hcopy := Lib.hid (copy_any 1048576 (Nat.le_refl _) (.mk lf at' ks) (by have := Hcnt.out; omega) (OldB W) (.agg #[.bool lf, .string at', .slice q len c]) w3 ⟨Ha.out, _, kb, ko, rfl, hs3⟩)
    clear hc3 hs3
    go_wp2_with fail
    refine Hcopy.out.mono ?_
    rintro e w4 ⟨hc4, q4, len4, c4, lo4, rfl, hlo4, hkd4⟩
    simp only [Nd.leaf, Nd.atom, Nd.kids] at *
    obtain ⟨mb, mo, hs4⟩ := hkd4.nds
    have hl4 : len4 = len := by
      obtain ⟨_, _, e1, _, _⟩ := hs4.sh
      simp only [Value.slice.injEq] at e1
      rw [Hlen.out]; exact e1.2.1
    subst hl4
    obtain ⟨-, rs, hown4, -⟩ := hkd4
    have hal5 := (Chg.refl NoB w4).alloc (.cells #[.bool lf, .string at', .slice q4 len4 c4] 24)
    have hblk5 := heap_alloc_new w4 (.cells #[.bool lf, .string at', .slice q4 len4 c4] 24)
    obtain ⟨mv, hmv⟩ : ∃ mv, mv = w4.heap.size := ⟨_, rfl⟩
    rw [← hmv] at hblk5
    have Hmv := Lib.hid hmv
    have Hc5 := Lib.hid (Hc3.out.trans (hc4.trans hal5))
    have Hblk5 := Lib.hid (row_kept (hc4.trans hal5) Hblk3.out id)
    have Hmb5 := Lib.hid hblk5
    have Hs5 := Lib.hid (Hs3.out.keep (hc4.trans hal5) fun _ _ => id)
    have Hm5 := Lib.hid ((hs4.keep hal5 fun _ _ => id).mono (T := Nw lo4 w4) fun _ => id)
    have Hown5 := Lib.hid (ownsRow_chg hown4 hal5 fun _ _ => id)
    have hk4 : ∀ k, (Value.slice q4 len4 c4).ownBlock = some k → vb < k ∧ k < mv := fun k hk => by
      have h1 := hown4.lt k hk
      have h2 := lt_of_block Hblk3.out
      omega
    have Hk4 := Lib.hid hk4
    have Hlo4 := Lib.hid (show W.heap.size ≤ lo4 from Nat.le_trans Hc3.out.size hlo4)
    have Hz5 := Lib.hid hal5.size
    clear hc4 hal5 hblk5 hmv hs4 hown4 hlo4 hk4 v0 v1 v2
    obtain ⟨v0, v1, v2⟩ := var3 Hblk5.out
    obtain ⟨m0, m1, m2⟩ := var3 Hmb5.out
    go_upto_region 6 with fail
    rw [← Hmv.out]
    generalize w4.alloc (.cells #[.bool lf, .string at', .slice q4 len4 c4] 24) = w5 at *
    have hV5 : NdV w5 (Nw lo4 w4) (.agg #[.bool lf, .string at', .slice q4 len4 c4]) (.mk lf at' ks) := ⟨Ha.out, _, mb, mo, rfl, by rw [Hlen.out] at Hm5; rw [Hlen.out]; exact Hm5.out⟩
    have Henc := Lib.hid ((enc_any (.mk lf at' ks) (by have := Hcnt.out; omega) _ _ w5 hV5 (fun k hk => Nat.lt_of_lt_of_le hk.1.2 Hz5.out) (Hl.out.keep Hc5.out).top).mono fun e w' h => h.val)
    clear hV5
    go_wp2_with fail
    refine Henc.out.mono ?_
    rintro e w6 ⟨hc6, s6, y6, rfl, -, -⟩
    have Hc6 := Lib.hid (Hc5.out.trans hc6)
    have Hblk6 := Lib.hid (row_kept hc6 Hblk5.out id)
    have Hmb6 := Lib.hid (row_kept hc6 Hmb5.out id)
    have Hs6 := Lib.hid (Hs5.out.keep hc6 fun _ _ => id)
    have Hm6 := Lib.hid (Hm5.out.keep hc6 fun _ _ => id)
    have Hmw := Lib.hid (lt_of_block Hmb6.out)
    have Hown6 := Lib.hid (ownsRow_chg Hown5.out hc6 fun _ _ => id)
    have Hz6 := Lib.hid (Nat.le_trans Hz5.out hc6.size)
    have Hlist := Lib.hid (list_new ks (by have := Hcs.out; omega) _ _ mb mo w6 Hm6.out)
    clear hc6 v0 v1 v2 m0 m1 m2 Henc Hblk5 Hmb5 Hs5 Hm5 Hown5 Hcopy Hgr Hs Hs2 Hs3 Hblk Hblk2 Hblk3
    obtain ⟨v0, v1, v2⟩ := var3 Hblk6.out
    obtain ⟨m0, m1, m2⟩ := var3 Hmb6.out
    go_wp2_with fail
    refine Hlist.out.mono ?_
    rintro e w7 ⟨hc7, v7, rfl, hv7⟩
    obtain ⟨-, sl7, xb, xo, rfl, hs7⟩ := hv7
    simp only [Nd.leaf, Nd.atom, Nd.kids] at *
    have hs7' := hs7
    obtain ⟨⟨q7, c7, rfl, -, -, -⟩, -⟩ := hs7
    rw [← Hlen.out] at hs7' ⊢
    have hal8 := (Chg.refl NoB w7).alloc (.cells #[.bool false, .string ⟨#[]⟩, .slice q7 len4 c7] 24)
    have hblk8 := heap_alloc_new w7 (.cells #[.bool false, .string ⟨#[]⟩, .slice q7 len4 c7] 24)
    obtain ⟨xv, hxv⟩ : ∃ xv, xv = w7.heap.size := ⟨_, rfl⟩
    rw [← hxv] at hblk8
    have Hxv := Lib.hid hxv
    have Hxw : Hid (w6.heap.size ≤ xv) := Lib.hid (by have := hc7.size; omega)
    have Hc8 := Lib.hid (Hc6.out.trans (hc7.trans hal8))
    have Hblk8 := Lib.hid (row_kept (hc7.trans hal8) Hblk6.out id)
    have Hmb8 := Lib.hid (row_kept (hc7.trans hal8) Hmb6.out id)
    have Hxb8 := Lib.hid hblk8
    have Hs8 := Lib.hid (Hs6.out.keep (hc7.trans hal8) fun _ _ => id)
    have Hm8 := Lib.hid (Hm6.out.keep (hc7.trans hal8) fun _ _ => id)
    have Hx8 := Lib.hid (hs7'.keep hal8 fun _ _ => id)
    have Hown8 := Lib.hid (ownsRow_chg Hown6.out (hc7.trans hal8) fun _ _ => id)
    have Hz8 := Lib.hid (Nat.le_trans Hz6.out (hc7.trans hal8).size)
    have hsame : sameN (.mk lf at' ks) (.mk lf at' ks) = true := (sameN_iff _ _).2 rfl
    have Hsm := Lib.hid (same_any 131072 (.mk lf at' ks) (.mk lf at' ks) (by have := Hcnt.out; omega) (by decide) (Nw lo4 w4) (OldB W) (.agg #[.bool lf, .string at', .slice q4 len4 c4]) (.agg #[.bool lf, .string at', .slice q len4 c]) (w7.alloc (.cells #[.bool false, .string ⟨#[]⟩, .slice q7 len4 c7] 24))
      ⟨Ha.out, _, mb, mo, rfl, by have := Hm8.out; rw [Hlen.out] at this ⊢; exact this⟩ ⟨Ha.out, _, kb, ko, rfl, by have := Hs8.out; rw [Hlen.out] at this ⊢; exact this⟩)
    rw [hsame] at Hsm
    clear hc7 hal8 hblk8 hxv hs7' v0 v1 v2 m0 m1 m2 Hlist Hblk6 Hmb6 Hs6 Hm6 Hown6 hsame
    obtain ⟨v0, v1, v2⟩ := var3 Hblk8.out
    obtain ⟨m0, m1, m2⟩ := var3 Hmb8.out
    obtain ⟨x0, x1, x2⟩ := var3 Hxb8.out
    go_upto_region 8 with fail
    rw [← Hxv.out]
    generalize w7.alloc (.cells #[.bool false, .string ⟨#[]⟩, .slice q7 len4 c7] 24) = w8 at *
    go_wp2_with fail
    refine Hsm.out.mono ?_
    rintro e w9 ⟨rfl, hc9⟩
    have Hc9 := Lib.hid (Hc8.out.trans hc9)
    have Hblk9 := Lib.hid (row_kept hc9 Hblk8.out id)
    have Hmb9 := Lib.hid (row_kept hc9 Hmb8.out id)
    have Hxb9 := Lib.hid (row_kept hc9 Hxb8.out id)
    have Hs9 := Lib.hid (Hs8.out.keep hc9 fun _ _ => id)
    have Hx9 := Lib.hid (Hx8.out.keep hc9 fun _ _ => id)
    have Hrow9 := Lib.hid ((MRow.of Hown8.out).keep hc9 fun _ _ => id)
    have Hz9 := Lib.hid (Nat.le_trans Hz8.out hc9.size)
    clear hc9 v0 v1 v2 m0 m1 m2 x0 x1 x2 Hblk8 Hmb8 Hxb8 Hs8 Hx8 Hm8 Hown8 Hsm
    obtain ⟨v0, v1, v2⟩ := var3 Hblk9.out
    obtain ⟨m0, m1, m2⟩ := var3 Hmb9.out
    obtain ⟨x0, x1, x2⟩ := var3 Hxb9.out
    go_wp2_with fail
    clear v0 v1 v2 m0 m1 m2 x0 x1 x2
    go_loopw [7, 37] (fun _ i wr => ∃ k : Nat, k ≤ len4 ∧ i = .int .i64 k ∧ MRow wr (.slice q4 len4 c4) len4 ∧ Chg (fun y => (Value.slice q4 len4 c4).ownBlock = some y) w9 wr) (fun _ i _ => len4 - (intOf i).toNat)
    case atStart => exact ⟨0, Nat.zero_le _, rfl, by have := Hrow9.out; rwa [← Hlen.out] at this, Chg.refl _ _⟩
    case round =>
      obtain ⟨k, hk, rfl, hrow, hch⟩ := hrel
      have Hch := Lib.hid hch
      have hmbr := row_kept hch Hmb9.out fun e => by have := Hk4.out mv e; omega
      have Hmbr := Lib.hid hmbr
      obtain ⟨m0, m1, m2⟩ := var3 hmbr
      clear hch hmbr
      by_cases hlt : k < len4
      · rcases hrow with ⟨_, h0⟩ | ⟨g, cap, cur, he, hg, h3, h4, h5⟩
        · omega
        simp only [Value.slice.injEq] at he
        obtain ⟨rfl, _, rfl⟩ := he
        obtain ⟨y0, y1, y2, d0, d1, d2, df⟩ := row_three hg (k * 3) (by omega)
        have Hg := Lib.hid hg
        clear hg
        go_wp2_with fail
        clear m0 m1 m2 d0 d1 d2 df
        go_roundw
        case rel =>
          have hrow' := box3g Hg.out (k * 3) (.bool true) (.string ⟨#[115, 112, 111, 105, 108, 116]⟩) (.slice none 0 0)
          have hsz' : len4 * 3 ≤ (((cur.setIfInBounds (k * 3) (.bool true)).setIfInBounds (k * 3 + 1) (.string ⟨#[115, 112, 111, 105, 108, 116]⟩)).setIfInBounds (k * 3 + 2) (.slice none 0 0)).size := by
            rw [Array.size_setIfInBounds, Array.size_setIfInBounds, Array.size_setIfInBounds]; exact h5
          refine ⟨k + 1, by omega, by go_num, .inr ⟨g, c4, _, rfl, hrow', h3, h4, hsz'⟩, ?_⟩
          have hgo : (Value.slice (some ⟨g, 0, none⟩) len4 c4).ownBlock = some g := rfl
          have hc1 := Hch.out.setCell (p := ⟨g, k * 3, none⟩) (.inl hgo) (.bool true)
          have hc2 := hc1.setCell (p := ⟨g, k * 3 + 1, none⟩) (.inl hgo) (.string ⟨#[115, 112, 111, 105, 108, 116]⟩)
          exact hc2.setCell (p := ⟨g, k * 3 + 2, none⟩) (.inl hgo) (.slice none 0 0)
        case measure => simp [intOf]; omega
      · obtain rfl : k = len4 := by omega
        have hsr := Hs9.out.keep Hch.out fun x hx e => by have h1 := (Hk4.out x e).1; have h2 : x < W.heap.size := hx; have := Hvb.out; omega
        have hxr := Hx9.out.keep Hch.out fun x hx e => by have h1 := (Hk4.out x e).2; have h2 : w6.heap.size ≤ x := hx.1; have := Hmw.out; omega
        have hbr := row_kept Hch.out Hblk9.out fun e => by have := (Hk4.out vb e).1; omega
        have hxbr := row_kept Hch.out Hxb9.out fun e => by have := (Hk4.out xv e).2; have := Hmw.out; have := Hxw.out; omega
        obtain ⟨v0, v1, v2⟩ := var3 hbr
        obtain ⟨x0, x1, x2⟩ := var3 hxbr
        have hcr : Chg NoB W wr := Hc9.out.above Hch.out fun k e => by have := (Hk4.out k e).1; have := Hvb.out; omega
        have Hcr := Lib.hid hcr
        have hzl : Nd.count (.mk false ⟨#[]⟩ ks) ≤ 131072 := by have := Hcnt.out; rw [Nd.count] at this ⊢; have : (⟨#[]⟩ : ByteArray).size = 0 := rfl; omega
        have hsame : sameN (.mk false ⟨#[]⟩ ks) (.mk false ⟨#[]⟩ ks) = true := (sameN_iff _ _).2 rfl
        have Hsm := Lib.hid (same_any 131072 (.mk false ⟨#[]⟩ ks) (.mk false ⟨#[]⟩ ks) hzl (by decide) (NewB w6 w7) (OldB W) (.agg #[.bool false, .string ⟨#[]⟩, .slice q7 k c7]) (.agg #[.bool false, .string ⟨#[]⟩, .slice q k c]) wr
          ⟨Nat.zero_le _, _, xb, xo, rfl, by rw [Hlen.out] at hxr ⊢; exact hxr⟩ ⟨Nat.zero_le _, _, kb, ko, rfl, by rw [Hlen.out] at hsr ⊢; exact hsr⟩)
        rw [hsame] at Hsm
        clear hbr hxbr hcr hsr hxr hzl hsame hrow Hrow9 Hs9 Hx9 Hblk9 Hmb9 Hxb9 Hmbr Hch Hc9 Hk4 Hlen Hcs Hcnt m0 m1 m2
        go_wp2_with fail
        refine Hsm.out.mono ?_
        rintro e w10 ⟨rfl, hc10⟩
        have Hc10 := Lib.hid (Hcr.out.trans hc10)
        have Hd1 := Lib.hid ((dec_any s w10 (Hl.out.keep (Hcr.out.trans hc10)).top (by omega)).mono fun e w' h => h.val)
        clear hc10 v0 v1 v2 x0 x1 x2 Hsm Hcr
        go_wp2_with fail
        refine Hd1.out.mono ?_
        rintro e w11 ⟨hc11, v11, rfl, hv11⟩
        obtain ⟨rn, hrn⟩ : ∃ rn, rn = resN (decR s) := ⟨_, rfl⟩
        obtain ⟨ry, hry⟩ : ∃ ry, ry = resY (decR s) := ⟨_, rfl⟩
        have hrc : rn.count ≤ 131072 := by rw [hrn]; exact resN_count
        rw [← hrn] at hv11
        rw [← hry]
        have Hrn := Lib.hid hrn
        have Hry := Lib.hid hry
        have Hrc := Lib.hid hrc
        clear hrn hry hrc
        obtain ⟨ha11, sl11, ab, ao, rfl, hs11⟩ := hv11
        have hs11' := hs11
        obtain ⟨⟨q11, c11, rfl, -, -, -⟩, -⟩ := hs11
        obtain ⟨l11, hl11⟩ : ∃ l, l = rn.kids.length := ⟨_, rfl⟩
        rw [← hl11] at hs11' ⊢
        have Hl11 := Lib.hid hl11
        have hal12 := (Chg.refl NoB w11).alloc (.cells #[.bool rn.leaf, .string rn.atom, .slice q11 l11 c11] 24)
        obtain ⟨a0, a1, a2⟩ := var3 (heap_alloc_new w11 (.cells #[.bool rn.leaf, .string rn.atom, .slice q11 l11 c11] 24))
        have Hc12 := Lib.hid (Hc10.out.trans (hc11.trans hal12))
        have Hs12 := Lib.hid (hs11'.keep hal12 fun _ _ => id)
        have Hz11 := Lib.hid hc11.size
        have Hz10 := Lib.hid Hc10.out.size
        have Hal12 := Lib.hid hal12
        clear hc11 hs11' hal12 hl11 Hd1 ha11
        go_upto_region 18 with fail
        generalize hb12 : w11.heap.size = b12 at *
        generalize w11.alloc (.cells #[.bool rn.leaf, .string rn.atom, .slice q11 l11 c11] 24) = w12 at *
        have hS12 := Hs12.out.spS (S := NewZ w10 w11) fun x hx j => (Nw.keep hx Hal12.out id).2 j
        have Hsp := Lib.hid (spoil_any _ (NewZ w10 w11) (.slice q11 l11 c11) _ ab ao rn.leaf rn.atom w12 hS12 fun x hx => Nat.lt_of_lt_of_le hx.1.2 Hal12.out.size)
        clear hS12 hb12 Hs12 hkc hk hlt
        go_wp2_with fail
        refine Hsp.out.mono ?_
        rintro e w13 ⟨rfl, hc13, -⟩
        have Hc13 := Lib.hid (Hc12.out.above hc13 fun x hx => Nat.le_trans Hz10.out hx.1.1)
        have Hd2 := Lib.hid ((dec_any s w13 (Hl.out.keep Hc13.out).top (by omega)).mono fun e w' h => h.val)
        rw [← Hrn.out, ← Hry.out] at Hd2
        clear hc13 Hsp a0 a1 a2 Hc12 Hal12
        go_wp2_with fail
        refine Hd2.out.mono ?_
        rintro e w14 ⟨hc14, v14, rfl, hv14⟩
        obtain ⟨q14, l14, c14, hq14⟩ := box_node hv14
        subst hq14
        have hal15 := (Chg.refl NoB w14).alloc (.cells #[.bool rn.leaf, .string rn.atom, .slice q14 l14 c14] 24)
        obtain ⟨v0, v1, v2⟩ := var3 (heap_alloc_new w14 (.cells #[.bool rn.leaf, .string rn.atom, .slice q14 l14 c14] 24))
        have Hc15 := Lib.hid (Hc13.out.trans (hc14.trans hal15))
        have Hv15 := Lib.hid (hv14.keep hal15 fun _ _ => id)
        clear hc14 hal15 hv14 Hd2 Hc13
        go_upto_region 20 with fail
        generalize hb15 : w14.heap.size = b15 at *
        generalize w14.alloc (.cells #[.bool rn.leaf, .string rn.atom, .slice q14 l14 c14] 24) = w15 at *
        clear hb15
        have Hd3 := Lib.hid ((decT_any (tx s) w15 (by omega)).mono fun e w' h => h.val)
        rw [tx_list, ← Hrn.out, ← Hry.out] at Hd3
        go_wp2_with fail
        refine Hd3.out.mono ?_
        rintro e w16 ⟨hc16, v16, rfl, hv16⟩
        obtain ⟨q16, l16, c16, hq16⟩ := box_node hv16
        subst hq16
        have hal17 := (Chg.refl NoB w16).alloc (.cells #[.bool rn.leaf, .string rn.atom, .slice q16 l16 c16] 24)
        obtain ⟨u0, u1, u2⟩ := var3 (heap_alloc_new w16 (.cells #[.bool rn.leaf, .string rn.atom, .slice q16 l16 c16] 24))
        have v0' := (hc16.trans hal17).keep v0
        have v1' := (hc16.trans hal17).keep v1
        have v2' := (hc16.trans hal17).keep v2
        have Hc17 := Lib.hid (Hc15.out.trans (hc16.trans hal17))
        have Hsm := Lib.hid (same_any 131072 rn rn Hrc.out (by decide) _ _ _ _ _ (Hv15.out.keep (hc16.trans hal17) fun _ _ => id) (hv16.keep hal17 fun _ _ => id))
        rw [(sameN_iff _ _).2 rfl] at Hsm
        clear hc16 hal17 v0 v1 v2 hv16 Hd3 Hv15 Hc15
        go_wp2_with fail
        refine Hsm.out.mono ?_
        rintro e w18 ⟨rfl, hc18⟩
        go_wp2_with fail
        go_ret
        exact ⟨rfl, Hc17.out.trans hc18⟩
/-FRAME-/
set_option maxRecDepth 100000 in
theorem sexpKeeps_lifted (os : Os) (started : os.Started) (H : Type) (enc : TypeId × Value → H) :
    ReturnsInHanded {} Tryd.checked os 8 .any (fun w args => (Rows.sexpKeepsSpec.pre enc Tryd.prog Tryd.f8 [] false w args ∧ laidMetH Tryd.prog Rows.sexpKeepsRow.laid w) ∧ sizedMet enc Tryd.prog Tryd.f8 (OpenSpec.ofChange Rows.sexpKeepsSpec) false w args)
      (Rows.sexpKeepsSpec.post enc Tryd.prog Tryd.f8 false true false false) := by
  refine returns_both (C := Tryd.checked) (X := fun w _ => laidMetH Tryd.prog Rows.sexpKeepsRow.laid w) (fun _ _ _ hh h => h.of_heap hh) Tryd.own started (by kernel_rfl) Tryd.func8
    (ChangeSpec.witness_shaped (enc := enc) (C := Tryd.checked) (os := os) (X := fun w _ => laidMetH Tryd.prog Rows.sexpKeepsRow.laid w) false (World.laidAll Tryd.prog os Rows.sexpKeepsRow.laid) #[.agg #[.bool false, .string ByteArray.empty, .slice none 0 0], .string ByteArray.empty] 8 (World.laidAll_os _ _ _)
      (World.shaped_of_ZipB (by kernel_rfl) (by kernel_rfl)) (by kernel_rfl) (by kernel_rfl) (by kernel_rfl)
      (by rw [MakeChecks.laidMetH_plain _ _ _ (by kernel_rfl)]; exact laidMet_laidAll _ (by kernel_rfl) (by kernel_rfl))) ?_
  intro W base args ds gs before hval0 hW _ hsz hL hsh _
  have hval : ∀ (j : Nat) t v, Tryd.f8.params[j]? = some t → args[j]? = some v → Value.okWide Tryd.prog W .any base t v := hval0
  have hW' := hW
  obtain ⟨p, q, hA0, hV, rfl, _, _⟩ := hW
  have hA : DataW.TrodAll enc Tryd.prog W 0 (fun _ => true) true Tryd.f8.params.toList args.toList ds p := hA0
  rw [Tryd.params8] at hA hval
  obtain ⟨v0, v1, d0, d1, p0, p1, rfl, rfl, rfl, h0, h1⟩ := trodAll_two hA
  obtain ⟨rfl, rfl⟩ := trodVars_none hV
  obtain ⟨n0, hn0⟩ := open_node (hval 0 24 v0 rfl rfl) h0
  obtain ⟨x1, rfl, rfl, rfl, wx1⟩ := open_string Tryd.underlying9 (hval 1 9 v1 rfl rfl) h1
  simp only [List.append_nil] at hW'
  rw [MakeChecks.laidMetH_plain _ _ _ (by kernel_rfl)] at hL
  have hlb : Lb W.heap.size W := lb_of hL hsh
  clear hA0 hval0
  refine (sexpKeeps_all n0 _ x1 W hn0 wx1 hlb).mono fun e W' ⟨he, hb⟩ => ?_
  subst he
  exact ⟨_, rfl, _, _, _, [], _, [], hW', trodAll_mk1 (shut_bool Tryd.underlying4 _), (trodAll_cons_mk (node_stays h0 hb.below) (trodAll_cons_mk (shut_string Tryd.underlying9 wx1) trodAll_mk0)), rfl, hb.below.frame _, fun h => by cases h⟩
theorem sexpKeeps_holds : Rows.SexpKeepsSaid :=
  OpenClaim.holds_of_wide 8 Tryd.f8 rfl rfl rfl rfl rfl rfl rfl ⟨rfl, rfl, rfl, rfl, rfl⟩ rfl rfl rfl rfl rfl (by kernel_rfl) Tryd.func8 (by kernel_rfl)
    (of_decide_eq_true (by kernel_rfl)) (by unfold Func.isWrapper; first | (rw [if_pos (by decide +kernel)]; kernel_rfl) | (rw [if_neg (by decide +kernel)]; exact ⟨rfl, rfl⟩))
    (fun os started H enc _ => sexpKeeps_lifted os started H enc)
theorem sexpKeeps_card : Rows.SexpKeepsCardSaid :=
  Claim7.holds_tied_plain_at .later [] [.data, .data, .data, .sentinel, .sentinel] true (true, "1aacac15555e80772747c4c143a44f28a139365c580872b528a8a21d441e086a") true sexpKeeps_holds (fun _ h => by cases h) (by kernel_rfl) (fun _ h => by cases h) sexpKeeps_row_tie rfl ⟨rfl, rfl⟩ (by kernel_rfl) rfl
    (fun f fn hf hfn => by
      obtain rfl : f = 8 := Option.some.inj ((show Tryd.prog.funcNamed "sapling/saplinglaw01.SexpKeeps" = some 8 by kernel_rfl).symm.trans hf) |>.symm
      obtain rfl : fn = Tryd.f8 := (Option.some.inj (Tryd.func8.symm.trans hfn)).symm
      exact ⟨by kernel_rfl, fun j t ht => by
        rw [Tryd.params8] at ht
        have hm : t ∈ [24, 9] := by simpa using Array.mem_of_getElem? ht
        have hall : ([24, 9].all fun u => !Tryd.prog.wantsStandIn u) = true := by kernel_rfl
        exact (show Tryd.prog.wantsStandIn t = false by simpa using List.all_eq_true.1 hall t hm)⟩)
    (by kernel_rfl)
#print axioms sexpKeeps_card
end Go.Proofs.YtodcbagjmbdafaaDoor
