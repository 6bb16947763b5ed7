/- The contract of the program's Decode. Condition: at most 2^20 bytes; the library's variables and the list of words read as the program's text lays them. -/
import Derived.Test.YtdeikcmkfmnjmaaDoorCdDecMath
import Derived.Test.YtdeikcmkfmnjmaaDoorCdOpenOne
namespace Go.Proofs.YtdeikcmkfmnjmaaDoor
set_option linter.unusedVariables false
open Go.ChangeShapes Go.WideShapes Go.ChangeAt Go.RowKit
def CDecP (r : Except Int (List InsL)) (w : World) (e : Ending) (w' : World) : Prop := Chg NoB w w' ∧ match r with
  | .error y => e = .returned (.tuple #[.slice none 0 0, .int .i64 y])
  | .ok ps => ∃ v, e = .returned (.tuple #[v, .int .i64 0]) ∧ w'.ownsRow w.heap.size 39 3 v ps.length (flatI ps)
def firsts (ks : List Nd) : List InsL := ks.map fun k => (instF k).1
theorem firsts_take (ks : List Nd) (k : Nat) (h : k < ks.length) : firsts (ks.take (k + 1)) = firsts (ks.take k) ++ [(instF ks[k]).1] := by
  unfold firsts
  rw [List.take_add_one, List.getElem?_eq_getElem h, List.map_append]; rfl
theorem firsts_len (ks : List Nd) : (firsts ks).length = ks.length := by simp [firsts]
theorem ownsRow_low {w : World} {base base' : Nat} {e : TypeId} {size : Nat} {v : Value} {n : Nat} {xs : List Value} (hb : base' ≤ base) (h : w.ownsRow base e size v n xs) : w.ownsRow base' e size v n xs := by
  obtain ⟨h1, h2 | ⟨g, cap, cur, a1, a2, a3⟩⟩ := h
  · exact ⟨h1, .inl h2⟩
  · exact ⟨h1, .inr ⟨g, cap, cur, a1, Nat.le_trans hb a2, a3⟩⟩
set_option maxHeartbeats 4000000 in
set_option maxRecDepth 20000 in
theorem cdec_any (s : List UInt8) (base : Nat) (w : World) (hl : Lb base w) (hw : Wd base w) (hs : s.length ≤ 1048576) :
    Calls Tryd.prog 20 #[.string (tx s)] w (CDecP (cdecF s) w) := by
  have Hd := Lib.hid (dec_any s w (hl.up hl.le (Nat.le_refl _)) hs)
  have Hl := Lib.hid hl
  have Hw := Lib.hid hw
  obtain ⟨lo, hlo⟩ : ∃ lo, lo = w.heap.size := ⟨_, rfl⟩
  have Hlo := Lib.hid hlo
  clear hl hw hs hlo
  go_enter Tryd.func20, Tryd.ntmps20
  cases hdec : decR s with
  | error y =>
    obtain ⟨y0, y1⟩ := decR_err hdec
    have hyb : (y != 0) = true := by rw [bne_iff_ne]; omega
    have hres : cdecF s = .error y := by unfold cdecF; rw [hdec]
    have Hres := Lib.hid hres
    rw [hdec] at Hd
    clear hres hdec
    unfold DecP nodeZ at Hd
    go_wp2_with fail
    refine Hd.out.mono ?_
    rintro e w3 ⟨hc3, rfl⟩
    have Hc3 := Lib.hid (hc3.alloc (.cells #[.bool false, .string ⟨#[]⟩, .slice none 0 0] 49))
    clear hc3
    go_wp2_with fail
    go_ret2
    refine ⟨Hc3.out, ?_⟩
    rw [Hres.out]
    rfl
  | ok n =>
    obtain ⟨hlen, henc, hok⟩ := decR_ok hdec
    have Hok := Lib.hid hok
    have hkl := kidslen_enc hok
    rw [← henc] at hkl
    have Henc := Lib.hid henc
    have Hdec := Lib.hid hdec
    rw [hdec] at Hd
    have hsl : s.length ≤ 65536 := hlen
    have Hsl := Lib.hid hsl
    clear hdec henc hok hlen hsl
    go_wp2_with fail
    refine Hd.out.mono ?_
    rintro e w3 ⟨hc3, v3, rfl, hv3⟩
    obtain ⟨ha3, q, len, c, kb, ko, rfl, hs3⟩ := hv3.shape
    obtain ⟨q', c', e', h1, h2, h3⟩ := hs3.sh
    simp only [Value.slice.injEq] at e'
    obtain ⟨rfl, hlk, rfl⟩ := e'
    have Hlen := Lib.hid hlk
    have H3 := Lib.hid h3
    have Hs3 := Lib.hid hs3
    have hal4 := (Chg.refl NoB w3).alloc (.cells #[.bool n.leaf, .string n.atom, .slice q len c] 49)
    have hblk4 := heap_alloc_new w3 (.cells #[.bool n.leaf, .string n.atom, .slice q len c] 49)
    obtain ⟨w4, hw4⟩ : ∃ w4, w3.alloc (.cells #[.bool n.leaf, .string n.atom, .slice q len c] 49) = w4 := ⟨_, rfl⟩
    rw [hw4] at hal4 hblk4
    obtain ⟨nb, hnb⟩ : ∃ nb, nb = w3.heap.size := ⟨_, rfl⟩
    rw [← hnb] at hblk4
    have Hnb := Lib.hid hnb
    have Hw4 := Lib.hid hw4
    have Hc4 := Lib.hid (hc3.trans hal4)
    have Hz3 := Lib.hid hc3.size
    have Hs4 := Lib.hid (hs3.keep hal4 fun _ _ => id)
    obtain ⟨n0, n1, n2⟩ := var3 hblk4
    have hlb : len ≤ 65536 := by have := Hsl.out; omega
    have hlc : len ≤ c := by omega
    unfold maxLen at h2
    clear hc3 hv3 hs3 h3 hlk hal4 hblk4 hw4 hnb ha3 Hd hkl h1
    go_wp2_with fail
    rw [Hw4.out, ← Hnb.out]
    have hrow0 : w4.ownsRow nb 39 3 (.slice none 0 0) 0 (flatI (firsts (n.kids.take 0))) := World.ownsRow_nil _ _ _ _
    have Hrow0 := Lib.hid hrow0
    obtain ⟨i0, hi, hz0, hz1, hz2⟩ := info_parts insInfo
    have Hi := Lib.hid hi
    have Hz0 := Lib.hid hz0
    have Hz1 := Lib.hid hz1
    have Hz2 := Lib.hid hz2
    clear hrow0 n0 n1 n2 hi hz0 hz1 hz2
    go_loopw [6, 24] (fun pv i wr => ∃ k : Nat, k ≤ len ∧ i = .int .i64 k ∧ (∀ j (hj : j < n.kids.length), j < k → (instF n.kids[j]).2 = true) ∧ wr.ownsRow nb 39 3 pv k (flatI (firsts (n.kids.take k))) ∧ Chg NoB w wr ∧ Chg NoB w3 wr) (fun _ i _ => len - (intOf i).toNat)
    case atStart => exact ⟨0, Nat.zero_le _, rfl, fun j _ hj => absurd hj (Nat.not_lt_zero _), Hrow0.out, Hc4.out, by rw [← Hw4.out]; exact (Chg.refl NoB w3).alloc _⟩
    case round =>
      obtain ⟨k, hk, rfl, hno, hrow, hch, hch3⟩ := hrel
      have Hno := Lib.hid hno
      have Hrow := Lib.hid hrow
      have Hch := Lib.hid hch
      have Hch3 := Lib.hid hch3
      obtain ⟨pq, pn, pc, rfl⟩ : ∃ q n c, u6 = .slice q n c := by
        rcases hrow.2 with ⟨rfl, _⟩ | ⟨g, cap, cur, rfl, _⟩
        · exact ⟨_, _, _, rfl⟩
        · exact ⟨_, _, _, rfl⟩
      clear hno hrow hch hch3 Hrow0 Hc4 Hs4 Hw4
      by_cases hlt : k < len
      · have hlt' : k < n.kids.length := by rw [← Hlen.out]; exact hlt
        obtain rfl := H3.out (by intro e; rw [e] at hlt'; simp at hlt')
        have hn5 := (Hs3.out.at' k hlt').keep (T := NoB) Hch3.out fun _ _ => id
        have hke := kids_enc Hok.out (List.getElem_mem hlt')
        have hft := firsts_take n.kids k hlt'
        have Hft := Lib.hid hft
        have Hgo : Hid ((instF n.kids[k]).2 = true → ∀ j (hj : j < n.kids.length), j < k + 1 → (instF n.kids[j]).2 = true) := Lib.hid fun h j hj hjk => by
          by_cases e : j = k
          · subst e; exact h
          · exact Hno.out j hj (by omega)
        have hbad : (instF n.kids[k]).2 = false → cdecF s = .error 5 := fun h => by
          unfold cdecF
          rw [Hdec.out]
          simp only
          rw [insts_all, if_neg]
          intro hall
          have := hall _ (List.getElem_mem hlt')
          rw [h] at this
          cases this
        have Hbad := Lib.hid hbad
        have hwf := inst_wf hke.2 (Nat.le_trans hke.1 (by rw [← Henc.out]; exact Hsl.out))
        have Hke := Lib.hid hke
        clear hft hbad hke
        have Hkid := Lib.hid (show n.kids[k] ∈ n.kids from List.getElem_mem hlt')
        generalize n.kids[k] = kd at *
        obtain ⟨kl, ka, ks⟩ := kd
        obtain ⟨hnb, hna, s5, kb5, ko5, c0, c1, c2, hs5⟩ := hn5.cells
        simp only [Nd.leaf, Nd.atom, Nd.kids] at c0 c1 c2 hs5 hna
        obtain ⟨q5, cap5, e5, -, -, -⟩ := hs5.sh
        obtain ⟨len5, hl5⟩ : ∃ l, l = ks.length := ⟨_, rfl⟩
        rw [← hl5] at e5
        subst e5
        have hal5 := (Chg.refl NoB wr).alloc (.cells #[.bool kl, .string ka, .slice q5 len5 cap5] 49)
        have hv5 : NdV (wr.alloc (.cells #[.bool kl, .string ka, .slice q5 len5 cap5] 49)) (NewZ w w3) (.agg #[.bool kl, .string ka, .slice q5 len5 cap5]) (Nd.mk kl ka ks) :=
          ⟨hna, _, kb5, ko5, rfl, hs5.keep hal5 fun _ _ => id⟩
        obtain ⟨g0, g1, g2⟩ := var3 (heap_alloc_new wr (.cells #[.bool kl, .string ka, .slice q5 len5 cap5] 49))
        have hkd1 : ks.length ≤ 1048576 := by
          have := kidslen_enc Hke.out.2
          have h2 := Hke.out.1
          rw [← Henc.out] at h2
          have := Hsl.out
          have h3 : (Nd.mk kl ka ks).kids.length = ks.length := rfl
          omega
        have hat5 : ∀ y ∈ ks, y.atom.size ≤ 281474976710656 := fun y hy => by
          have h1 := kids_enc (n := Nd.mk kl ka ks) Hke.out.2 hy
          have h2 := Hke.out.1
          rw [← Henc.out] at h2
          have := Hsl.out
          have := atom_enc h1.2
          omega
        have hcall := inst_any (Nd.mk kl ka ks) (NewZ w w3) _ base _ (Hl.out.keep (Hch.out.trans hal5)) (Hw.out.keep (Hch.out.trans hal5)) hv5 hkd1 hat5
        have Hal5 := Lib.hid hal5
        have Hch5 := Lib.hid (Hch.out.trans hal5)
        have Hch35 := Lib.hid (Hch3.out.trans hal5)
        have Hrow5 := Lib.hid (ownsRow_chg Hrow.out hal5 fun _ _ => id)
        have Hwf := Lib.hid hwf
        unfold InstP at hcall
        obtain ⟨r, hr⟩ : ∃ r, r = instF (Nd.mk kl ka ks) := ⟨_, rfl⟩
        rw [← hr] at hcall Hft Hgo Hbad Hwf
        obtain ⟨⟨op, m, xs⟩, b⟩ := r
        simp only at hcall Hft Hgo Hbad Hwf
        have Hcall := Lib.hid hcall
        clear hr hcall hv5 hal5 hwf hn5 hnb hna hs5 hl5 hkd1 hat5 Hke Hkid Hrow
        unfold InsL.val at Hcall
        simp only at Hcall
        go_upto_region 8 with fail
        obtain ⟨w5, hw5⟩ : ∃ w5, wr.alloc (.cells #[.bool kl, .string ka, .slice q5 len5 cap5] 49) = w5 := ⟨_, rfl⟩
        rw [hw5] at g0 g1 g2 Hch5 Hch35 Hrow5 Hcall Hal5 ⊢
        clear hw5 c0 c1 c2
        cases b with
        | false =>
          have Hres := Lib.hid (Hbad.out rfl)
          clear Hbad Hgo Hft
          go_wp2_with fail
          refine Hcall.out.mono ?_
          rintro e w6 ⟨hc6, rfl⟩
          have Hfin := Lib.hid ((Hch5.out.trans hc6).alloc (.cells #[.int .i64 op, .int .i64 m, .string (tx xs)] 39))
          clear hc6
          go_wp2_with fail
          go_ret2
          refine ⟨Hfin.out, ?_⟩
          rw [Hres.out]
          rfl
        | true =>
          have Hno' := Lib.hid (Hgo.out rfl)
          clear Hbad Hgo
          go_wp2_with fail
          refine Hcall.out.mono ?_
          rintro e w6 ⟨hc6, rfl⟩
          have Hch6 := Lib.hid (Hch5.out.trans hc6)
          have Hch36 := Lib.hid (Hch35.out.trans hc6)
          have Hrow6 := Lib.hid (ownsRow_chg Hrow5.out hc6 fun _ _ => id)
          clear hc6 g0 g1 g2 Hcall
          obtain ⟨g0, g1, g2⟩ := var3 (heap_alloc_new w6 (.cells #[.int .i64 op, .int .i64 m, .string (tx xs)] 39))
          have hal7 := (Chg.refl NoB w6).alloc (.cells #[.int .i64 op, .int .i64 m, .string (tx xs)] 39)
          have Hch7 := Lib.hid (Hch6.out.trans hal7)
          have Hch37 := Lib.hid (Hch36.out.trans hal7)
          have Hrow7 := Lib.hid (ownsRow_chg Hrow6.out hal7 fun _ _ => id)
          clear hal7
          go_upto_region 11 with fail
          obtain ⟨w7, hw7⟩ : ∃ w7, w6.alloc (.cells #[.int .i64 op, .int .i64 m, .string (tx xs)] 39) = w7 := ⟨_, rfl⟩
          rw [hw7] at g0 g1 g2 Hch7 Hch37 Hrow7 ⊢
          clear hw7
          have hal8 := (Chg.refl NoB w7).alloc (.cells #[.int .i64 op, .int .i64 m, .string (tx xs)] 39)
          have Hch8 := Lib.hid (Hch7.out.trans hal8)
          have Hch38 := Lib.hid (Hch37.out.trans hal8)
          have Hrow8 := Lib.hid (ownsRow_chg Hrow7.out hal8 fun _ _ => id)
          have hb8 : nb ≤ (w7.alloc (.cells #[.int .i64 op, .int .i64 m, .string (tx xs)] 39)).heap.size := by rw [Hnb.out]; exact Hch38.out.size
          have M1 := Lib.hid (show k + 1 ≤ maxLen by unfold maxLen; omega)
          have M2 := Lib.hid (show (k + 1) * 32 ≤ 140737488355328 by omega)
          have Hone : Hid (∀ u ∈ [Value.int .i64 op, .int .i64 m, .string (tx xs)], u.oneCell' = true) := Lib.hid (flatI_one [⟨op, m, xs⟩])
          clear hal8
          go_wp2_with (at_builtin; refine wpList_append_at _ rfl _ _ 27 rfl nb 39 i0 (.agg #[.int .i64 0, .int .i64 0, .string ⟨#[]⟩]) 3 32 Tryd.underlying27 Hi.out Hz0.out Hz1.out Hz2.out rfl (by decide) _ k _ rfl Hrow8.out ⟨w7.heap.size, 0, none⟩ 1 1 [.int .i64 op, .int .i64 m, .string (tx xs)] rfl rfl (lit3 w7 _ _ _ _) Hone.out M1.out M2.out hb8 ?_)
          intro v9 w9 hown9 hgr9 hpl9
          have hob : ∀ j, (Value.slice pq pn pc).ownBlock = some j → w3.heap.size ≤ j := fun j hj => by have := (World.ownsRow.lt Hrow8.out j hj).1; rw [Hnb.out] at this; exact this
          have hch39 : Chg NoB w3 w9 := Hch38.out.grown hgr9 fun j hj => .inr (hob j hj)
          have hch9 : Chg NoB w w9 := Hch8.out.grown hgr9 fun j hj => .inr (Nat.le_trans Hz3.out (hob j hj))
          have hrow9 : w9.ownsRow nb 39 3 v9 (k + 1) (flatI (firsts (n.kids.take (k + 1)))) := by
            rw [Hft.out, flatI_app]
            exact hown9
          have Hrow9 := Lib.hid hrow9
          have Hch9 := Lib.hid hch9
          have Hch39 := Lib.hid hch39
          clear hown9 hgr9 hpl9 hob hch39 hch9 hrow9 hb8
          go_wp2_with fail
          go_roundw
          case rel => exact ⟨k + 1, by omega, by go_num, Hno'.out, Hrow9.out, Hch9.out, Hch39.out⟩
          case measure => simp [intOf]; omega
      · obtain rfl : k = len := by omega
        have htk : n.kids.take k = n.kids := by rw [Hlen.out]; exact List.take_of_length_le (Nat.le_refl _)
        rw [htk] at Hrow
        have hfl : (firsts n.kids).length = k := by rw [firsts_len, Hlen.out]
        have hrow : wr.ownsRow nb 39 3 (.slice pq pn pc) (firsts n.kids).length (flatI (firsts n.kids)) := by rw [hfl]; exact Hrow.out
        have hwf : ∀ i (hi : i < (firsts n.kids).length), (firsts n.kids)[i].wf := by
          intro i hi
          have hi' : i < n.kids.length := by rw [← firsts_len]; exact hi
          have hke := kids_enc Hok.out (List.getElem_mem hi')
          have e : (firsts n.kids)[i] = (instF n.kids[i]).1 := by simp [firsts]
          rw [e]
          exact inst_wf hke.2 (Nat.le_trans hke.1 (by rw [← Henc.out]; exact Hsl.out))
        obtain ⟨kb7, hs7⟩ := InsS.of_row hrow hwf
        have Hck := Lib.hid (check_any (firsts n.kids) _ _ kb7 0 base wr (Hw.out.keep Hch.out) (by omega) hs7)
        have hins : instsF n.kids = some (firsts n.kids) := by
          rw [insts_all, if_pos]
          · rfl
          · intro y hy
            obtain ⟨i, hi, rfl⟩ := List.getElem_of_mem hy
            exact Hno.out i hi (by rw [Hlen.out]; exact hi)
        have hres : cdecF s = if (checkF (firsts n.kids)).2 = 0 then .ok (firsts n.kids) else .error 5 := by
          unfold cdecF
          rw [Hdec.out]
          simp only
          rw [hins]
        have Hrowf := Lib.hid hrow
        generalize firsts n.kids = ps at *
        have Hres := Lib.hid hres
        obtain ⟨ck, hck⟩ : ∃ ck, ck = checkF ps := ⟨_, rfl⟩
        rw [← hck] at Hck Hres
        obtain ⟨c1, c2⟩ := ck
        simp only at Hck Hres
        clear hres hins hs7 hwf hrow hfl htk hck Hno Hrow hlt
        by_cases hz : c2 = 0
        · have Hres0 : Hid (cdecF s = .ok ps) := Lib.hid (by rw [Hres.out, if_pos hz])
          subst hz
          clear Hres
          go_wp2_with fail
          refine Hck.out.mono ?_
          rintro e w8 ⟨rfl, hc8⟩
          have Hc8 := Lib.hid (Hch.out.trans hc8)
          have hown := ownsRow_chg Hrowf.out hc8 fun _ _ => id
          have Hown := Lib.hid (ownsRow_low (base' := w.heap.size) (by rw [Hnb.out]; exact Hz3.out) hown)
          clear hc8 hown
          go_wp2_with fail
          go_ret2
          refine ⟨Hc8.out, ?_⟩
          rw [Hres0.out]
          exact ⟨_, rfl, Hown.out⟩
        · have hzb : (c2 != 0) = true := by rw [bne_iff_ne]; exact hz
          have Hres0 : Hid (cdecF s = .error 5) := Lib.hid (by rw [Hres.out, if_neg hz])
          clear hz Hres
          go_wp2_with fail
          refine Hck.out.mono ?_
          rintro e w8 ⟨rfl, hc8⟩
          have Hc8 := Lib.hid (Hch.out.trans hc8)
          clear hc8
          go_wp2_with fail
          go_ret2
          refine ⟨Hc8.out, ?_⟩
          rw [Hres0.out]
          rfl
end Go.Proofs.YtdeikcmkfmnjmaaDoor
