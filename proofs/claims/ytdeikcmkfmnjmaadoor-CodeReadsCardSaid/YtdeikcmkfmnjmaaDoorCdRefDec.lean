/- The contract of the document's Decode. Condition: at most 2^20 bytes; the library's variables and the lists of words and of powers read as the program's text lays them. -/
import Derived.Test.YtdeikcmkfmnjmaaDoorCdRefMath
import Derived.Deep.QuietTactic
import Derived.BigQuiet
namespace Go.Proofs.YtdeikcmkfmnjmaaDoor
set_option linter.unusedVariables false
open Go.ChangeShapes Go.WideShapes Go.ChangeAt Go.RowKit
theorem NdV_of {w : World} {S : Nat → Prop} {n : Nd} {q : Option Addr} {l c kb ko : Nat} (ha : n.atom.size ≤ maxLen) (h : NdS w S (.slice q l c) n.kids kb ko) : NdV w S (.agg #[.bool n.leaf, .string n.atom, .slice q l c]) n := ⟨ha, _, kb, ko, rfl, h⟩
set_option maxHeartbeats 4000000 in
set_option maxRecDepth 20000 in
theorem rcdec_any (s : List UInt8) (base : Nat) (w : World) (hl : Lb base w) (hw : Ev base w) (hs : s.length ≤ 1048576) :
    Calls Tryd.prog 21 #[.string (tx s)] w (CDecP (cdecF s) w) := by
  have hd0 := decT_any (tx s) w (by rw [tx_size]; exact hs)
  rw [tx_list] at hd0
  have Hd := Lib.hid hd0
  clear hd0
  have Hl := Lib.hid hl
  have Hw := Lib.hid hw
  obtain ⟨lo, hlo⟩ : ∃ lo, lo = w.heap.size := ⟨_, rfl⟩
  have Hlo := Lib.hid hlo
  clear hl hw hs hlo
  go_enter Tryd.func21, Tryd.ntmps21
  cases hdec : decR s with
  | error y =>
    obtain ⟨y0, y1⟩ := decR_err hdec
    have hyb : (y != 0) = true := by rw [bne_iff_ne]; omega
    have hres : cdecF s = .error y := by unfold cdecF; rw [hdec]
    have Hres := Lib.hid hres
    rw [hdec] at Hd
    clear hres hdec
    unfold DecP nodeZ at Hd
    go_wp2_with fail
    refine Hd.out.mono ?_
    rintro e w3 ⟨hc3, rfl⟩
    have Hc3 := Lib.hid (hc3.alloc (.cells #[.bool false, .string ⟨#[]⟩, .slice none 0 0] 49))
    clear hc3
    go_wp2_with fail
    go_ret2
    refine ⟨Hc3.out, ?_⟩
    rw [Hres.out]
    rfl
  | ok n =>
    obtain ⟨hlen, henc, hok⟩ := decR_ok hdec
    have Hok := Lib.hid hok
    have hkl := kidslen_enc hok
    rw [← henc] at hkl
    have Henc := Lib.hid henc
    have Hdec := Lib.hid hdec
    rw [hdec] at Hd
    have hsl : s.length ≤ 65536 := hlen
    have Hsl := Lib.hid hsl
    clear hdec henc hok hlen hsl
    go_wp2_with fail
    refine Hd.out.mono ?_
    rintro e w3 ⟨hc3, v3, rfl, hv3⟩
    obtain ⟨ha3, q, len, c, kb, ko, rfl, hs3⟩ := hv3.shape
    obtain ⟨q', c', e', h1, h2, h3⟩ := hs3.sh
    simp only [Value.slice.injEq] at e'
    obtain ⟨rfl, hlk, rfl⟩ := e'
    have Hlen := Lib.hid hlk
    have H3 := Lib.hid h3
    have Hs3 := Lib.hid hs3
    have Hat := Lib.hid ha3
    have hal4 := (Chg.refl NoB w3).alloc (.cells #[.bool n.leaf, .string n.atom, .slice q len c] 49)
    have hblk4 := heap_alloc_new w3 (.cells #[.bool n.leaf, .string n.atom, .slice q len c] 49)
    obtain ⟨w4, hw4⟩ : ∃ w4, w3.alloc (.cells #[.bool n.leaf, .string n.atom, .slice q len c] 49) = w4 := ⟨_, rfl⟩
    rw [hw4] at hal4 hblk4
    obtain ⟨nb, hnb⟩ : ∃ nb, nb = w3.heap.size := ⟨_, rfl⟩
    rw [← hnb] at hblk4
    have Hnb := Lib.hid hnb
    have Hw4 := Lib.hid hw4
    have Hc4 := Lib.hid (hc3.trans hal4)
    have Hz3 := Lib.hid hc3.size
    have Hs4 := Lib.hid (hs3.keep hal4 fun _ _ => id)
    obtain ⟨n0, n1, n2⟩ := var3 hblk4
    have Hblk4 := Lib.hid hblk4
    have hlb : len ≤ 65536 := by have := Hsl.out; omega
    have hlc : len ≤ c := by omega
    unfold maxLen at h2
    clear hc3 hv3 hs3 h3 hlk hal4 hblk4 hw4 hnb ha3 Hd hkl h1
    go_wp2_with fail
    rw [Hw4.out, ← Hnb.out]
    have hrow0 : w4.ownsRow w4.heap.size 39 3 (.slice none 0 0) 0 (flatI (rfirsts (n.kids.take 0))) := World.ownsRow_nil _ _ _ _
    obtain ⟨l4, hl4⟩ : ∃ l, l = w4.heap.size := ⟨_, rfl⟩
    rw [← hl4] at hrow0
    have Hrow0 := Lib.hid hrow0
    have Hl4 := Lib.hid hl4
    obtain ⟨i0, hi, hz0, hz1, hz2⟩ := info_parts insInfo
    have Hi := Lib.hid hi
    have Hz0 := Lib.hid hz0
    have Hz1 := Lib.hid hz1
    have Hz2 := Lib.hid hz2
    clear hrow0 n0 n1 n2 hi hz0 hz1 hz2 hl4 Hw4 Hs3
    go_loopw [6, 22] (fun pv i wr => ∃ k : Nat, k ≤ len ∧ i = .int .i64 k ∧ wr.ownsRow l4 39 3 pv k (flatI (rfirsts (n.kids.take k))) ∧ Chg NoB w4 wr) (fun _ i _ => len - (intOf i).toNat)
    case atStart => exact ⟨0, Nat.zero_le _, rfl, Hrow0.out, Chg.refl _ _⟩
    case round =>
      obtain ⟨k, hk, rfl, hrow, hch4⟩ := hrel
      have Hrow := Lib.hid hrow
      have Hch4 := Lib.hid hch4
      have Hch := Lib.hid (Hc4.out.trans hch4)
      obtain ⟨pq, pc, rfl, hpn⟩ : ∃ q c, u6 = .slice q k c ∧ k ≤ c := by
        rcases hrow.2 with ⟨rfl, h0⟩ | ⟨g, cap, cur, rfl, _, _, h3, _⟩
        · exact ⟨_, _, by rw [h0], by omega⟩
        · exact ⟨_, _, rfl, h3⟩
      clear hrow hch4 Hrow0
      by_cases hlt : k < len
      · have hlt' : k < n.kids.length := by rw [← Hlen.out]; exact hlt
        obtain rfl := H3.out (by intro e; rw [e] at hlt'; simp at hlt')
        have hn5 := (Hs4.out.at' k hlt').keep (T := NoB) Hch4.out fun _ _ => id
        have hke := kids_enc Hok.out (List.getElem_mem hlt')
        have Hft := Lib.hid (rfirsts_take n.kids k hlt')
        have Hmem := Lib.hid (List.getElem_mem hlt')
        have Hke := Lib.hid hke
        have hwf := rinst_wf hke.2 (Nat.le_trans hke.1 (by rw [← Henc.out]; exact Hsl.out))
        have Hwf := Lib.hid hwf
        clear hke hwf
        generalize n.kids[k] = kd at *
        obtain ⟨kl, ka, ks⟩ := kd
        obtain ⟨hnb, hna, s5, kb5, ko5, c0, c1, c2, hs5⟩ := hn5.cells
        simp only [Nd.leaf, Nd.atom, Nd.kids] at c0 c1 c2 hs5 hna
        obtain ⟨q5, cap5, e5, h51, h52, h53⟩ := hs5.sh
        obtain ⟨len5, hl5⟩ : ∃ l, l = ks.length := ⟨_, rfl⟩
        rw [← hl5] at e5 h51
        subst e5
        have Hl5 := Lib.hid hl5
        have H53 := Lib.hid h53
        have hkd1 : len5 ≤ 1048576 := by
          have := kidslen_enc Hke.out.2
          have h2 := Hke.out.1
          rw [← Henc.out] at h2
          have := Hsl.out
          have h3 : (Nd.mk kl ka ks).kids.length = ks.length := rfl
          omega
        have hat5 : ∀ y ∈ ks, y.atom.size ≤ 281474976710656 := fun y hy => by
          have h1 := kids_enc (n := Nd.mk kl ka ks) Hke.out.2 hy
          have h2 := Hke.out.1
          rw [← Henc.out] at h2
          have := Hsl.out
          have := atom_enc h1.2
          omega
        have Hat5 := Lib.hid hat5
        have hal5 := (Chg.refl NoB wr).alloc (.cells #[.bool kl, .string ka, .slice q5 len5 cap5] 49)
        have hb5 := heap_alloc_new wr (.cells #[.bool kl, .string ka, .slice q5 len5 cap5] 49)
        have Hs5 := Lib.hid (hs5.keep hal5 fun _ _ => id)
        have Hal5 := Lib.hid hal5
        have Hch5 := Lib.hid (Hch.out.trans hal5)
        have Hch45 := Lib.hid (Hch4.out.trans hal5)
        have Hrow5 := Lib.hid (ownsRow_chg Hrow.out hal5 fun _ _ => id)
        unfold maxLen at h52
        obtain ⟨g0, g1, g2⟩ := var3 hb5
        obtain ⟨bb, hbb⟩ : ∃ b, b = wr.heap.size := ⟨_, rfl⟩
        rw [← hbb] at hb5 g0 g1 g2
        have Hb5 := Lib.hid hb5
        have Hbb := Lib.hid hbb
        clear hn5 hnb hna hs5 hl5 h53 hat5 hal5 hb5 hbb Hrow
        have hkz : (k : Int) ≤ (pc : Int) := by omega
        go_upto_region 8 with fail
        rw [← Hbb.out]
        obtain ⟨w5, hw5⟩ : ∃ w5, wr.alloc (.cells #[.bool kl, .string ka, .slice q5 len5 cap5] 49) = w5 := ⟨_, rfl⟩
        rw [hw5] at g0 g1 g2 Hch5 Hch45 Hrow5 Hs5 Hal5 Hb5 ⊢
        clear hw5 c0 c1 c2
        by_cases h50 : len5 = 0
        · have hks : ks = [] := List.eq_nil_of_length_eq_zero (by rw [← Hl5.out]; exact h50)
          have Hres := Lib.hid (cdecF_kid Hdec.out Hmem.out hks)
          subst h50
          clear hks
          go_wp2_with fail
          go_ret2
          refine ⟨Hch5.out, ?_⟩
          rw [Hres.out]
          rfl
        by_cases hk6 : 256 < k
        · have Hres := Lib.hid (cdecF_many Hdec.out (by rw [← Hlen.out]; omega))
          have hl51 : ¬ (len5 : Int) < 1 := by omega
          have hk61 : (256 : Int) < (k : Int) := by omega
          go_wp2_with fail
          go_ret2
          refine ⟨Hch5.out, ?_⟩
          rw [Hres.out]
          rfl
        have hl51 : ¬ (len5 : Int) < 1 := by omega
        have hk61 : ¬ (256 : Int) < (k : Int) := by omega
        obtain ⟨a, rest, hks⟩ : ∃ a rest, ks = a :: rest := by
          cases ks with
          | nil => exact absurd Hl5.out h50
          | cons a r => exact ⟨a, r, rfl⟩
        obtain rfl := H53.out (by rw [hks]; exact List.cons_ne_nil _ _)
        have hna := Hs5.out.at' 0 (by rw [hks]; simp)
        have hn0 : ks[0]'(by rw [hks]; simp) = a := by simp [hks]
        rw [hn0] at hna
        obtain ⟨-, -, s6, kb6, ko6, -, ck, -, -⟩ := hna.cells
        have ck : w5.cell? ⟨kb5, ko5 + 1, none⟩ = some (.string a.atom) := by simpa using ck
        have hop := refOp_any (atL a) w5
        have hak : tx (atL a) = a.atom := tx_back a.atom
        rw [hak] at hop
        have Hop := Lib.hid hop
        obtain ⟨op, hopq⟩ : ∃ o, o = opF (atL a) := ⟨_, rfl⟩
        rw [← hopq] at Hop
        have Hopq := Lib.hid hopq
        have hol := opF_lt (atL a)
        rw [← hopq] at hol
        have Hol := Lib.hid hol
        have Hks := Lib.hid hks
        have hll : 1 ≤ len5 := by omega
        have hll1 : (0 : Int) < (len5 : Int) := by omega
        clear hna hn0 s6 kb6 ko6 hop hak hopq hks hol
        go_wp2_with fail
        refine Hop.out.mono ?_
        rintro e w6 ⟨rfl, hc6⟩
        have Hch6 := Lib.hid (Hch5.out.trans hc6)
        have Hch46 := Lib.hid (Hch45.out.trans hc6)
        have Hrow6 := Lib.hid (ownsRow_chg Hrow5.out hc6 fun _ _ => id)
        have Hb6 := Lib.hid (row_kept hc6 Hb5.out id)
        have Hs6 := Lib.hid (Hs5.out.keep hc6 fun _ _ => id)
        clear hc6 g0 g1 g2 ck Hop
        have hal7 := (Chg.refl NoB w6).alloc (.cells #[.int .i64 op, .int .i64 0, .string ⟨#[]⟩] 39)
        have hx7 := heap_alloc_new w6 (.cells #[.int .i64 op, .int .i64 0, .string ⟨#[]⟩] 39)
        have hrlt : ∀ j, (Value.slice pq k pc).ownBlock = some j → j < w6.heap.size := fun j hj => (World.ownsRow.lt Hrow6.out j hj).2
        have hxl : w4.heap.size ≤ w6.heap.size := Hch46.out.size
        obtain ⟨w7, hw7⟩ : ∃ w7, w6.alloc (.cells #[.int .i64 op, .int .i64 0, .string ⟨#[]⟩] 39) = w7 := ⟨_, rfl⟩
        obtain ⟨xb, hxb⟩ : ∃ x, x = w6.heap.size := ⟨_, rfl⟩
        rw [hw7] at hal7 hx7
        rw [← hxb] at hx7 hrlt hxl
        have Hw7 := Lib.hid hw7
        have Hxb := Lib.hid hxb
        have Hxl := Lib.hid hxl
        have Hrlt := Lib.hid hrlt
        have Hx7 := Lib.hid hx7
        have Hch7 := Lib.hid (Hch6.out.trans hal7)
        have Hch47 := Lib.hid (Hch46.out.trans hal7)
        have Hrow7 := Lib.hid (ownsRow_chg Hrow6.out hal7 fun _ _ => id)
        have Hb7 := Lib.hid (row_kept hal7 Hb6.out id)
        have Hs7 := Lib.hid (Hs6.out.keep hal7 fun _ _ => id)
        obtain ⟨x0, x1, x2⟩ := var3 hx7
        clear hal7 hx7 hrlt hxl hw7 hxb
        obtain ⟨tk, htk⟩ : ∃ t, t = takesF (op : Int) := ⟨_, rfl⟩
        have Ht := Lib.hid (refTakes_any (op : Int) (by omega) (by have := Hol.out; omega) w7)
        rw [← htk] at Ht
        have Htk := Lib.hid htk
        clear htk
        go_upto_region 11 with fail
        rw [Hw7.out, ← Hxb.out]
        go_wp2_with fail
        refine Ht.out.mono ?_
        rintro e w8 ⟨rfl, hc8⟩
        have Hch8 := Lib.hid (Hch7.out.trans hc8)
        have Hch48 := Lib.hid (Hch47.out.trans hc8)
        have Hrow8 := Lib.hid (ownsRow_chg Hrow7.out hc8 fun _ _ => id)
        have Hb8 := Lib.hid (row_kept hc8 Hb7.out id)
        have Hx8 := Lib.hid (row_kept hc8 Hx7.out id)
        have Hs8 := Lib.hid (Hs7.out.keep hc8 fun _ _ => id)
        clear hc8 Ht x0 x1 x2 Hw7 Hxb Hx7 Hb7 Hs7 Hrow7 Hb6 Hs6 Hrow6 Hch6 Hch46 Hch5 Hch45 Hrow5 Hb5 Hs5
        obtain ⟨g0, g1, g2⟩ := var3 Hb8.out
        by_cases hone : len5 = 1
        · have Hrx : Hid (rinstF (Nd.mk kl ka ks) = ⟨op, 0, []⟩) := Lib.hid (by
            have hr : rest = [] := List.eq_nil_of_length_eq_zero (by have h1 := Hl5.out; rw [Hks.out] at h1; simp at h1; omega)
            rw [rinst_one (k := a) (show (Nd.mk kl ka ks).kids = [a] by rw [← hr]; exact Hks.out), ← Hopq.out])
          subst hone
          have Hch9 := Hch8
          have Hch49 := Hch48
          have Hrow9 := Hrow8
          have Hx9 : Hid (w8.heap[xb]? = some (.cells #[.int .i64 op, .int .i64 0, .string (tx [])] 39 (0, 0))) := Hx8
          obtain ⟨w9, hw9⟩ : ∃ w9, w9 = w8 := ⟨_, rfl⟩
          rw [← hw9] at Hch9 Hch49 Hrow9 Hx9 g0 g1 g2 ⊢
          clear hw9 Hch8 Hch48 Hrow8 Hx8
          rw [Hrx.out] at Hft
          obtain ⟨x0, x1, x2⟩ := var3 Hx9.out
          have hal8 := (Chg.refl NoB w9).alloc (.cells #[.int .i64 op, .int .i64 0, .string (tx [])] 39)
          have Hch8 := Lib.hid (Hch9.out.trans hal8)
          have Hch48 := Lib.hid (Hch49.out.trans hal8)
          have Hrow8 := Lib.hid (ownsRow_chg Hrow9.out hal8 fun _ _ => id)
          have hb8 : l4 ≤ (w9.alloc (.cells #[.int .i64 op, .int .i64 0, .string (tx [])] 39)).heap.size := by rw [Hl4.out]; exact Hch48.out.size
          have M1 := Lib.hid (show k + 1 ≤ maxLen by unfold maxLen; omega)
          have M2 := Lib.hid (show (k + 1) * 32 ≤ 140737488355328 by omega)
          have Hone : Hid (∀ u ∈ [Value.int .i64 op, .int .i64 0, .string (tx [])], u.oneCell' = true) := Lib.hid (flatI_one [⟨op, 0, []⟩])
          clear hal8
          go_wp2_with (at_builtin; refine wpList_append_at _ rfl _ _ 27 rfl l4 39 i0 (.agg #[.int .i64 0, .int .i64 0, .string ⟨#[]⟩]) 3 32 Tryd.underlying27 Hi.out Hz0.out Hz1.out Hz2.out rfl (by decide) _ k _ rfl Hrow8.out ⟨w9.heap.size, 0, none⟩ 1 1 [.int .i64 op, .int .i64 0, .string (tx [])] rfl rfl (lit3 w9 _ _ _ _) Hone.out M1.out M2.out hb8 ?_)
          intro v9 w10 hown9 hgr9 hpl9
          have hob : ∀ j, (Value.slice pq k pc).ownBlock = some j → w4.heap.size ≤ j := fun j hj => by have := (World.ownsRow.lt Hrow8.out j hj).1; rw [Hl4.out] at this; exact this
          have Hch49 := Lib.hid (show Chg NoB w4 w10 from Hch48.out.grown hgr9 fun j hj => .inr (hob j hj))
          have Hrow10 : Hid (w10.ownsRow l4 39 3 v9 (k + 1) (flatI (rfirsts (n.kids.take (k + 1))))) := Lib.hid (by
            rw [Hft.out, flatI_app]
            exact hown9)
          clear hown9 hgr9 hpl9 hob hb8 x0 x1 x2
          go_wp2_with fail
          go_roundw
          case rel => exact ⟨k + 1, by omega, by go_num, Hrow10.out, Hch49.out⟩
          case measure => simp [intOf]; omega
        · have hmore : (1 : Int) < (len5 : Int) := by omega
          have hmore2 : 1 < len5 := by omega
          obtain ⟨y, r2, hr⟩ : ∃ y r2, rest = y :: r2 := by
            have h1 := Hl5.out
            rw [Hks.out] at h1
            cases rest with
            | nil => simp at h1; omega
            | cons y r => exact ⟨y, r, rfl⟩
          have hkk : (Nd.mk kl ka ks).kids = a :: y :: r2 := by rw [← hr]; exact Hks.out
          have hny := Hs8.out.at' 1 (by rw [Hks.out, hr]; simp)
          have hn1 : ks[1]'(by rw [Hks.out, hr]; simp) = y := by simp [Hks.out, hr]
          rw [hn1] at hny
          obtain ⟨-, -, s6, kb6, ko6, -, cy, -, -⟩ := hny.cells
          have e4 : ko5 + 1 * 3 + 1 = ko5 + 4 := by omega
          rw [e4, ← tx_back y.atom] at cy
          have hya := Hat5.out y (by rw [Hks.out, hr]; simp)
          have Hkk := Lib.hid hkk
          have haty : atL y = y.atom.data.toList := rfl
          have hyl : (tx (atL y)).size ≤ 281474976710656 := by rw [haty, tx_back]; exact hya
          rw [← haty] at cy
          have Hyl := Lib.hid hyl
          clear hny hn1 s6 kb6 ko6 e4 hya haty hyl hr hkk hone
          by_cases ht2 : tk = 2
          · have Hrx : Hid (rinstF (Nd.mk kl ka ks) = ⟨op, 0, atL y⟩) := Lib.hid (by
              rw [rinst_text Hkk.out (by rw [← Hopq.out, ← Htk.out]; exact ht2), ← Hopq.out])
            have hb2 : (tk == 2) = true := by rw [beq_iff_eq]; exact ht2
            generalize atL y = ya at *
            obtain ⟨x0, x1, x2⟩ := var3 Hx8.out
            have xf := row_free Hx8.out
            have hc89 : Chg (fun j => j = xb) w8 (w8.setCell ⟨xb, 2, none⟩ (.string (tx ya))) := Chg.setCell (S := fun j => j = xb) (p := ⟨xb, 2, none⟩) (Chg.refl _ w8) (.inl rfl) _
            have Hx9 : Hid ((w8.setCell ⟨xb, 2, none⟩ (.string (tx ya))).heap[xb]? = some (.cells #[.int .i64 op, .int .i64 0, .string (tx ya)] 39 (0, 0))) := Lib.hid (heap_set Hx8.out (i := 2) (.string (tx ya)))
            have Hch49 : Hid (Chg NoB w4 (w8.setCell ⟨xb, 2, none⟩ (.string (tx ya)))) := Lib.hid (Hch48.out.setCell (.inr Hxl.out) _)
            have Hch9 : Hid (Chg NoB w (w8.setCell ⟨xb, 2, none⟩ (.string (tx ya)))) := Lib.hid (Hc4.out.trans Hch49.out)
            have Hrow9 := Lib.hid (ownsRow_chg Hrow8.out hc89 fun j hj => by have := Hrlt.out j hj; show ¬ j = xb; omega)
            clear hc89 ht2
            go_upto_region 16 with fail
            generalize w8.setCell ⟨xb, 2, none⟩ (.string (tx ya)) = w9 at *
            clear x0 x1 x2 xf g0 g1 g2 cy Hch8 Hch48 Hrow8 Hx8 Hb8 Hs8
            rw [Hrx.out] at Hft
            obtain ⟨x0, x1, x2⟩ := var3 Hx9.out
            have hal8 := (Chg.refl NoB w9).alloc (.cells #[.int .i64 op, .int .i64 0, .string (tx ya)] 39)
            have Hch8 := Lib.hid (Hch9.out.trans hal8)
            have Hch48 := Lib.hid (Hch49.out.trans hal8)
            have Hrow8 := Lib.hid (ownsRow_chg Hrow9.out hal8 fun _ _ => id)
            have hb8 : l4 ≤ (w9.alloc (.cells #[.int .i64 op, .int .i64 0, .string (tx ya)] 39)).heap.size := by rw [Hl4.out]; exact Hch48.out.size
            have M1 := Lib.hid (show k + 1 ≤ maxLen by unfold maxLen; omega)
            have M2 := Lib.hid (show (k + 1) * 32 ≤ 140737488355328 by omega)
            have Hone : Hid (∀ u ∈ [Value.int .i64 op, .int .i64 0, .string (tx ya)], u.oneCell' = true) := Lib.hid (flatI_one [⟨op, 0, ya⟩])
            clear hal8
            go_wp2_with (at_builtin; refine wpList_append_at _ rfl _ _ 27 rfl l4 39 i0 (.agg #[.int .i64 0, .int .i64 0, .string ⟨#[]⟩]) 3 32 Tryd.underlying27 Hi.out Hz0.out Hz1.out Hz2.out rfl (by decide) _ k _ rfl Hrow8.out ⟨w9.heap.size, 0, none⟩ 1 1 [.int .i64 op, .int .i64 0, .string (tx ya)] rfl rfl (lit3 w9 _ _ _ _) Hone.out M1.out M2.out hb8 ?_)
            intro v9 w10 hown9 hgr9 hpl9
            have hob : ∀ j, (Value.slice pq k pc).ownBlock = some j → w4.heap.size ≤ j := fun j hj => by have := (World.ownsRow.lt Hrow8.out j hj).1; rw [Hl4.out] at this; exact this
            have Hch49 := Lib.hid (show Chg NoB w4 w10 from Hch48.out.grown hgr9 fun j hj => .inr (hob j hj))
            have Hrow10 : Hid (w10.ownsRow l4 39 3 v9 (k + 1) (flatI (rfirsts (n.kids.take (k + 1))))) := Lib.hid (by
              rw [Hft.out, flatI_app]
              exact hown9)
            clear hown9 hgr9 hpl9 hob hb8 x0 x1 x2
            go_wp2_with fail
            go_roundw
            case rel => exact ⟨k + 1, by omega, by go_num, Hrow10.out, Hch49.out⟩
            case measure => simp [intOf]; omega
          · have Hrx : Hid (rinstF (Nd.mk kl ka ks) = ⟨op, atoiV (atL y), []⟩) := Lib.hid (by
              rw [rinst_num Hkk.out (by rw [← Hopq.out, ← Htk.out]; exact ht2), ← Hopq.out])
            have hb2 : (tk == 2) = false := by rw [beq_eq_false_iff_ne]; exact ht2
            have hato := atoi_any (tx (atL y)) base w8 (Hl.out.keep Hch8.out) Hyl.out
            rw [tx_list] at hato
            unfold AtoiP at hato
            have Hato := Lib.hid hato
            generalize atoiV (atL y) = m at *
            clear hato ht2
            go_wp2_with fail
            refine Hato.out.mono ?_
            rintro e w85 ⟨hc85, ev, rfl⟩
            have Hch85 := Lib.hid (Hch8.out.trans hc85)
            have Hch485 := Lib.hid (Hch48.out.trans hc85)
            have Hrow85 := Lib.hid (ownsRow_chg Hrow8.out hc85 fun _ _ => id)
            have Hx85 := Lib.hid (row_kept hc85 Hx8.out id)
            have hc89 : Chg (fun j => j = xb) w85 (w85.setCell ⟨xb, 1, none⟩ (.int .i64 m)) := Chg.setCell (S := fun j => j = xb) (p := ⟨xb, 1, none⟩) (Chg.refl _ w85) (.inl rfl) _
            have Hx9 : Hid ((w85.setCell ⟨xb, 1, none⟩ (.int .i64 m)).heap[xb]? = some (.cells #[.int .i64 op, .int .i64 m, .string (tx [])] 39 (0, 0))) := Lib.hid (heap_set Hx85.out (i := 1) (.int .i64 m))
            have Hch49 : Hid (Chg NoB w4 (w85.setCell ⟨xb, 1, none⟩ (.int .i64 m))) := Lib.hid (Hch485.out.setCell (.inr Hxl.out) _)
            have Hch9 : Hid (Chg NoB w (w85.setCell ⟨xb, 1, none⟩ (.int .i64 m))) := Lib.hid (Hc4.out.trans Hch49.out)
            have Hrow9 := Lib.hid (ownsRow_chg Hrow85.out hc89 fun j hj => by have := Hrlt.out j hj; show ¬ j = xb; omega)
            obtain ⟨x0, x1, x2⟩ := var3 Hx85.out
            have xf := row_free Hx85.out
            clear hc89 hc85 g0 g1 g2 cy Hch8 Hch48 Hrow8 Hx8 Hb8 Hs8 Hato
            go_upto_region 16 with fail
            generalize w85.setCell ⟨xb, 1, none⟩ (.int .i64 m) = w9 at *
            clear x0 x1 x2 xf Hch85 Hch485 Hrow85 Hx85
            rw [Hrx.out] at Hft
            obtain ⟨x0, x1, x2⟩ := var3 Hx9.out
            have hal8 := (Chg.refl NoB w9).alloc (.cells #[.int .i64 op, .int .i64 m, .string (tx [])] 39)
            have Hch8 := Lib.hid (Hch9.out.trans hal8)
            have Hch48 := Lib.hid (Hch49.out.trans hal8)
            have Hrow8 := Lib.hid (ownsRow_chg Hrow9.out hal8 fun _ _ => id)
            have hb8 : l4 ≤ (w9.alloc (.cells #[.int .i64 op, .int .i64 m, .string (tx [])] 39)).heap.size := by rw [Hl4.out]; exact Hch48.out.size
            have M1 := Lib.hid (show k + 1 ≤ maxLen by unfold maxLen; omega)
            have M2 := Lib.hid (show (k + 1) * 32 ≤ 140737488355328 by omega)
            have Hone : Hid (∀ u ∈ [Value.int .i64 op, .int .i64 m, .string (tx [])], u.oneCell' = true) := Lib.hid (flatI_one [⟨op, m, []⟩])
            clear hal8
            go_wp2_with (at_builtin; refine wpList_append_at _ rfl _ _ 27 rfl l4 39 i0 (.agg #[.int .i64 0, .int .i64 0, .string ⟨#[]⟩]) 3 32 Tryd.underlying27 Hi.out Hz0.out Hz1.out Hz2.out rfl (by decide) _ k _ rfl Hrow8.out ⟨w9.heap.size, 0, none⟩ 1 1 [.int .i64 op, .int .i64 m, .string (tx [])] rfl rfl (lit3 w9 _ _ _ _) Hone.out M1.out M2.out hb8 ?_)
            intro v9 w10 hown9 hgr9 hpl9
            have hob : ∀ j, (Value.slice pq k pc).ownBlock = some j → w4.heap.size ≤ j := fun j hj => by have := (World.ownsRow.lt Hrow8.out j hj).1; rw [Hl4.out] at this; exact this
            have Hch49 := Lib.hid (show Chg NoB w4 w10 from Hch48.out.grown hgr9 fun j hj => .inr (hob j hj))
            have Hrow10 : Hid (w10.ownsRow l4 39 3 v9 (k + 1) (flatI (rfirsts (n.kids.take (k + 1))))) := Lib.hid (by
              rw [Hft.out, flatI_app]
              exact hown9)
            clear hown9 hgr9 hpl9 hob hb8 x0 x1 x2
            go_wp2_with fail
            go_roundw
            case rel => exact ⟨k + 1, by omega, by go_num, Hrow10.out, Hch49.out⟩
            case measure => simp [intOf]; omega
      · obtain rfl : k = len := by omega
        have htk : n.kids.take k = n.kids := by rw [Hlen.out]; exact List.take_of_length_le (Nat.le_refl _)
        rw [htk] at Hrow
        have hfl : (rfirsts n.kids).length = k := by rw [rfirsts_len, Hlen.out]
        have hrow : wr.ownsRow l4 39 3 (.slice pq k pc) (rfirsts n.kids).length (flatI (rfirsts n.kids)) := by rw [hfl]; exact Hrow.out
        have hwf : ∀ i (hi : i < (rfirsts n.kids).length), (rfirsts n.kids)[i].wf := by
          intro i hi
          have hi' : i < n.kids.length := by rw [← rfirsts_len]; exact hi
          have hke := kids_enc Hok.out (List.getElem_mem hi')
          have e : (rfirsts n.kids)[i] = rinstF n.kids[i] := by simp [rfirsts]
          rw [e]
          exact rinst_wf hke.2 (Nat.le_trans hke.1 (by rw [← Henc.out]; exact Hsl.out))
        obtain ⟨kb7, hs7⟩ := InsS.of_row hrow hwf
        have Hs7 := Lib.hid hs7
        have Hck := Lib.hid (refCheck_any (rfirsts n.kids) _ _ kb7 0 wr hs7)
        have Hrowf := Lib.hid hrow
        have Hwf := Lib.hid hwf
        obtain ⟨rps, hrps⟩ : ∃ r, r = rfirsts n.kids := ⟨_, rfl⟩
        have Hrps := Lib.hid hrps
        rw [← hrps] at Hs7 Hck Hrowf hfl hwf
        have Hfl := Lib.hid hfl
        have Hwf := Lib.hid hwf
        obtain ⟨ck, hck⟩ : ∃ ck, ck = checkF rps := ⟨_, rfl⟩
        rw [← hck] at Hck
        obtain ⟨c1, c2⟩ := ck
        simp only at Hck
        have Hc12 := Lib.hid hck
        obtain ⟨n0, n1, n2⟩ := var3 (row_kept Hch4.out Hblk4.out id)
        clear hs7 hrow hfl htk hck hlt hrps hwf Hrow
        by_cases hz : c2 = 0
        · have hck0 : (checkF rps).2 = 0 := by rw [← Hc12.out]; exact hz
          subst hz
          obtain ⟨⟨hl1, hl2⟩, hst⟩ := check_ok hck0
          have hcnt : (progF rps).count ≤ 1048576 := by
            unfold progF
            rw [Nd.count]
            have h0 : (⟨#[]⟩ : ByteArray).size = 0 := rfl
            have := counts_map rps fun x hx => by
              obtain ⟨i, hi, rfl⟩ := List.getElem_of_mem hx
              exact node_count (stands_len (hst i hi)) (Hwf.out i hi)
            omega
          have Hck0 := Lib.hid hck0
          go_wp2_with fail
          refine Hck.out.mono ?_
          rintro e w8 ⟨rfl, hc8⟩
          have Hch8 := Lib.hid (Hch.out.trans hc8)
          have Hch48 := Lib.hid (Hch4.out.trans hc8)
          have Hs8 := Lib.hid (Hs7.out.keep hc8 fun _ _ => id)
          have Hrow8 := Lib.hid (ownsRow_chg Hrowf.out hc8 fun _ _ => id)
          have Hnode := Lib.hid (fun (w' : World) (h : Chg NoB w8 w') => refNode_any rps _ _ kb7 0 base w' (Hw.out.keep (Hch8.out.trans h)) hl2 (fun i hi => stands_len (hst i hi)) (Hs8.out.keep h fun _ _ => id))
          have n0 := hc8.keep n0
          have n1 := hc8.keep n1
          have n2 := hc8.keep n2
          have Hcnt := Lib.hid hcnt
          clear hc8 hck0 hl1 hl2 hst hcnt Hck
          cases hsm : sameN n (progF rps) with
          | true =>
            have heq : n = progF rps := (sameN_iff _ _).1 hsm
            have Hres : Hid (cdecF s = .ok rps) := Lib.hid (cdecF_of (by rw [Hdec.out]; exact congrArg _ heq) Hck0.out fun x hx => by obtain ⟨i, hi, rfl⟩ := List.getElem_of_mem hx; exact Hwf.out i hi)
            clear heq
            have hsame : ∀ (w9 : World) (v9 : Value), Chg NoB w4 w9 → NdV w9 (fun j => w8.heap.size ≤ j ∧ j < w9.heap.size) v9 (progF rps) → Calls Tryd.prog 37 #[.agg #[.bool n.leaf, .string n.atom, .slice q k c], v9] w9 fun e w' => e = .returned (.bool true) ∧ Chg NoB w9 w' := fun w9 v9 hc hv => by
              have h := sameN_any 1048576 n (progF rps) (by have := dec_count Hdec.out; omega) (Nat.le_refl _) (NewZ w w3) _ (.agg #[.bool n.leaf, .string n.atom, .slice q k c]) v9 w9 (NdV_of Hat.out (Hs4.out.keep hc fun _ _ => id)) hv
              rw [hsm] at h
              exact h
            have Hsame := Lib.hid hsame
            clear hsame hsm
            have hdr : Chg NoB w8 w8.drew := (Chg.refl NoB w8).drew
            have hA := And.intro n0 (And.intro n1 n2)
            go_wp2_with fail
            go_region_held3 (fun w' => w'.cell? ⟨nb, 0, none⟩ = some (.bool n.leaf) ∧ w'.cell? ⟨nb, 1, none⟩ = some (.string n.atom) ∧ w'.cell? ⟨nb, 2, none⟩ = some (.slice q k c))
              (first | exact hA | exact hB | exact hC)
              (first
                | (go_at_call 32; refine (Hnode.out w8.drew hdr).mono ?_; rintro e w9 ⟨hc9, v9, rfl, hv9⟩; have hc89 := hdr.trans hc9; have hB := And.intro (hc89.keep n0) (And.intro (hc89.keep n1) (hc89.keep n2)); have Hc89 := Lib.hid hc89; have Hv9 := Lib.hid hv9; clear hc9 hc89 hv9)
                | (go_at_call 37; refine (Hsame.out w9 _ (Hch48.out.trans Hc89.out) (Hv9.out.mono fun j hj => hj)).mono ?_; rintro e w10 ⟨rfl, hc10⟩; have hc810 := Hc89.out.trans hc10; have hC := And.intro (hc810.keep n0) (And.intro (hc810.keep n1) (hc810.keep n2)); have Hc810 := Lib.hid hc810; clear hc10 hc810))
            clear hA hB hC hdr n0 n1 n2
            try clear hHeld
            all_goals
              go_wp2_with fail
              go_ret2
              refine ⟨Hch8.out.trans Hc810.out, ?_⟩
              rw [Hres.out]
              exact ⟨_, rfl, ownsRow_low (by rw [Hl4.out]; exact Hc4.out.size) (ownsRow_chg Hrow8.out Hc810.out fun _ _ => id)⟩
          | false =>
            have hne : n ≠ progF rps := fun e => by rw [(sameN_iff _ _).2 e] at hsm; cases hsm
            have Hres : Hid (cdecF s = .error 5) := Lib.hid (cdecF_other Hdec.out (by rw [← Hrps.out]; exact hne))
            clear hne
            have hsame : ∀ (w9 : World) (v9 : Value), Chg NoB w4 w9 → NdV w9 (fun j => w8.heap.size ≤ j ∧ j < w9.heap.size) v9 (progF rps) → Calls Tryd.prog 37 #[.agg #[.bool n.leaf, .string n.atom, .slice q k c], v9] w9 fun e w' => e = .returned (.bool false) ∧ Chg NoB w9 w' := fun w9 v9 hc hv => by
              have h := sameN_any 1048576 n (progF rps) (by have := dec_count Hdec.out; omega) (Nat.le_refl _) (NewZ w w3) _ (.agg #[.bool n.leaf, .string n.atom, .slice q k c]) v9 w9 (NdV_of Hat.out (Hs4.out.keep hc fun _ _ => id)) hv
              rw [hsm] at h
              exact h
            have Hsame := Lib.hid hsame
            clear hsame hsm
            have hdr : Chg NoB w8 w8.drew := (Chg.refl NoB w8).drew
            have hA := And.intro n0 (And.intro n1 n2)
            go_wp2_with fail
            go_region_held3 (fun w' => w'.cell? ⟨nb, 0, none⟩ = some (.bool n.leaf) ∧ w'.cell? ⟨nb, 1, none⟩ = some (.string n.atom) ∧ w'.cell? ⟨nb, 2, none⟩ = some (.slice q k c))
              (first | exact hA | exact hB | exact hC)
              (first
                | (go_at_call 32; refine (Hnode.out w8.drew hdr).mono ?_; rintro e w9 ⟨hc9, v9, rfl, hv9⟩; have hc89 := hdr.trans hc9; have hB := And.intro (hc89.keep n0) (And.intro (hc89.keep n1) (hc89.keep n2)); have Hc89 := Lib.hid hc89; have Hv9 := Lib.hid hv9; clear hc9 hc89 hv9)
                | (go_at_call 37; refine (Hsame.out w9 _ (Hch48.out.trans Hc89.out) (Hv9.out.mono fun j hj => hj)).mono ?_; rintro e w10 ⟨rfl, hc10⟩; have hc810 := Hc89.out.trans hc10; have hC := And.intro (hc810.keep n0) (And.intro (hc810.keep n1) (hc810.keep n2)); have Hc810 := Lib.hid hc810; clear hc10 hc810))
            clear hA hB hC hdr n0 n1 n2
            try clear hHeld
            all_goals
              go_wp2_with fail
              go_ret2
              refine ⟨Hch8.out.trans Hc810.out, ?_⟩
              rw [Hres.out]
              rfl
        · have Hres : Hid (cdecF s = .error 5) := Lib.hid (cdecF_bad Hdec.out (by rw [← Hrps.out, ← Hc12.out]; exact hz))
          have hzb : (c2 != 0) = true := by rw [bne_iff_ne]; exact hz
          clear hz
          go_wp2_with fail
          refine Hck.out.mono ?_
          rintro e w8 ⟨rfl, hc8⟩
          have Hch8 := Lib.hid (Hch.out.trans hc8)
          clear hc8 n0 n1 n2
          go_wp2_with fail
          go_quiet (fail)
          go_wp2_with fail
          go_ret2
          refine ⟨Hch8.out.drewN _, ?_⟩
          rw [Hres.out]
          rfl
end Go.Proofs.YtdeikcmkfmnjmaaDoor
