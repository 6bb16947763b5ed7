/- The contract of Encode. Condition: the lists of words and of powers read as the program's text lays them. -/
import Derived.Test.YtdeikcmkfmnjmaaDoorCdNode
import Derived.Test.YtdeikcmkfmnjmaaDoorWrRef
namespace Go.Proofs.YtdeikcmkfmnjmaaDoor
set_option linter.unusedVariables false
open Go.ChangeShapes Go.WideShapes Go.ChangeAt Go.RowKit
/- what an encoding answers: a text and a number -/
def encO (r : Except Int (List UInt8)) : ByteArray × Int := match r with
  | .error y => (tx [], y)
  | .ok ys => (tx ys, 0)
theorem EncP.val {r : Except Int (List UInt8)} {w : World} {e : Ending} {w' : World} (h : EncP r w e w') : Chg NoB w w' ∧ e = .returned (.tuple #[.string (encO r).1, .int .i64 (encO r).2]) := by
  refine ⟨h.1, ?_⟩
  cases r with
  | error y => exact h.2
  | ok ys => exact h.2
def progF (ps : List InsL) : Nd := .mk false ⟨#[]⟩ (ps.map nodeF)
def encF (ps : List InsL) : ByteArray × Int := if (checkF ps).2 = 0 then encO (putN (progF ps) 0 []) else (⟨#[]⟩, (checkF ps).2)
theorem stands_len {x : InsL} {size : Int} (h : standsF x size = true) : x.s.length ≤ 256 := by
  have hn : x.s = [] → x.s.length ≤ 256 := fun e => by rw [e]; exact Nat.zero_le _
  unfold standsF at h
  grind
theorem check_ok {ps : List InsL} (h : (checkF ps).2 = 0) : (1 ≤ ps.length ∧ ps.length ≤ 256) ∧ ∀ i (hi : i < ps.length), standsF ps[i] ps.length = true := by
  unfold checkF at h
  split at h
  · simp at h
  · rename_i hl
    refine ⟨by omega, fun i hi => ?_⟩
    split at h
    · rename_i hf
      rw [List.findIdx?_eq_none_iff] at hf
      have := hf ps[i] (List.getElem_mem hi)
      simpa using this
    · simp at h
theorem node_count {x : InsL} (h : x.s.length ≤ 256) (hn : x.wf) : (nodeF x).count ≤ 270 := by
  have h1 := wordL_len x.op
  have h2 := Lib.itoa_length_le x.n hn.2.1.1 hn.2.1.2
  unfold nodeF kidsF
  rw [Nd.count]
  have h0 : (⟨#[]⟩ : ByteArray).size = 0 := rfl
  have ha : ∀ l : List UInt8, (atomF l).count = 1 + l.length := fun l => by unfold atomF; rw [Nd.count, Nd.counts, tx_size, Nat.add_zero]
  rw [h0]
  split
  · simp only [Nd.counts, ha]; omega
  · split
    · simp only [Nd.counts, ha]; omega
    · simp only [Nd.counts, ha]; omega
theorem counts_app (a b : List Nd) : Nd.counts (a ++ b) = Nd.counts a + Nd.counts b := by
  induction a with
  | nil => rw [Nd.counts]; simp
  | cons k r ih => rw [List.cons_append, Nd.counts, Nd.counts, ih]; omega
theorem counts_map (ps : List InsL) (h : ∀ x ∈ ps, (nodeF x).count ≤ 270) : Nd.counts (ps.map nodeF) ≤ 270 * ps.length := by
  induction ps with
  | nil => simp [Nd.counts]
  | cons x r ih =>
    have h1 := h x (by simp)
    have h2 := ih fun y hy => h y (by simp [hy])
    rw [List.map_cons, Nd.counts, List.length_cons]
    omega
set_option maxHeartbeats 600000 in
set_option maxRecDepth 20000 in
theorem encode_any (ps : List InsL) (S : Nat → Prop) (v : Value) (kb ko : Nat) (base : Nat) (w : World) (h : Ev base w) (hl : ps.length ≤ 131072) (hs : InsS w S v ps kb ko) :
    Calls Tryd.prog 18 #[v] w fun e w' => Chg NoB w w' ∧ e = .returned (.tuple #[.string (encF ps).1, .int .i64 (encF ps).2]) := by
  have Hs := Lib.hid hs
  have Hck := Lib.hid (check_any ps S v kb ko base w h.wd hl hs)
  obtain ⟨⟨q, c, rfl, h1, h2, h3⟩, hat⟩ := hs
  have H3 := Lib.hid h3
  have Hat := Lib.hid hat
  have Hev := Lib.hid h
  obtain ⟨len, hlen⟩ : ∃ len, len = ps.length := ⟨_, rfl⟩
  rw [← hlen] at h1 Hs Hck ⊢
  have Hlen := Lib.hid hlen
  unfold maxLen at h2
  obtain ⟨r1, hr1⟩ : ∃ r, r = (checkF ps).1 := ⟨_, rfl⟩
  rw [← hr1] at Hck
  clear h3 hat h hl hr1
  by_cases hy : (checkF ps).2 = 0
  · obtain ⟨⟨hl1, hl2⟩, hst⟩ := check_ok hy
    have henc : encF ps = encO (putN (progF ps) 0 []) := if_pos hy
    rw [hy] at Hck
    have Hst := Lib.hid hst
    have Henc := Lib.hid henc
    have hcnt : (progF ps).count ≤ 1048576 := by
      unfold progF
      rw [Nd.count]
      have h0 : (⟨#[]⟩ : ByteArray).size = 0 := rfl
      have := counts_map ps fun x hx => by
        obtain ⟨i, hi, rfl⟩ := List.getElem_of_mem hx
        exact node_count (stands_len (hst i hi)) (Hat.out i hi).1
      omega
    have Hcnt := Lib.hid hcnt
    have hlb : len ≤ 256 := by omega
    clear hy hst henc hcnt hl1 hl2 hlen
    go_enter Tryd.func18, Tryd.ntmps18
    go_wp2_with fail
    refine Hck.out.mono ?_
    rintro e w1 ⟨rfl, hc1⟩
    have Hc1 := Lib.hid hc1
    have hkb0 : Kb w1 w1.heap.size (.slice none 0 0) [] := Kb.nil _ _ (Nat.le_refl _)
    obtain ⟨lo, hlo⟩ : ∃ lo, lo = w1.heap.size := ⟨_, rfl⟩
    rw [← hlo] at hkb0
    have Hlo := Lib.hid hlo
    have Hkb0 := Lib.hid hkb0
    clear hc1 hkb0 hlo Hck
    go_wp2_with fail
    go_loopw [6, 19] (fun lv i wr => ∃ k : Nat, k ≤ len ∧ i = .int .i64 k ∧ Kb wr lo lv ((ps.map nodeF).take k) ∧ Chg NoB w1 wr) (fun _ i _ => len - (intOf i).toNat)
    case atStart => exact ⟨0, Nat.zero_le _, rfl, Hkb0.out, Chg.refl _ _⟩
    case round =>
      obtain ⟨k, hk, rfl, hkd, hch⟩ := hrel
      have Hkd := Lib.hid hkd
      have Hch := Lib.hid hch
      clear hkd hch
      by_cases hlt : k < len
      · have hlt' : k < ps.length := by rw [← Hlen.out]; exact hlt
        obtain ⟨rfl, -⟩ := H3.out (by rintro rfl; simp at hlt')
        obtain ⟨hwf, c0, c1, c2⟩ := Hat.out k hlt'
        have hcw := Hc1.out.trans Hch.out
        have c0 := hcw.keep c0
        have c1 := hcw.keep c1
        have c2 := hcw.keep c2
        have hsb := stands_len (Hst.out k hlt')
        have htk : (ps.map nodeF).take (k + 1) = (ps.map nodeF).take k ++ [nodeF ps[k]] := by
          rw [List.take_add_one, List.getElem?_eq_getElem (by rw [List.length_map]; exact hlt'), List.getElem_map]; rfl
        have Htk := Lib.hid htk
        have Hwf := Lib.hid hwf
        have Hsb := Lib.hid hsb
        clear hcw hwf hsb htk
        generalize ps[k] = x at *
        have hal5 := (Chg.refl NoB wr).alloc (.cells #[.int .i64 x.op, .int .i64 x.n, .string (tx x.s)] 39)
        obtain ⟨g0, g1, g2⟩ := var3 (heap_alloc_new wr (.cells #[.int .i64 x.op, .int .i64 x.n, .string (tx x.s)] 39))
        have Hal5 := Lib.hid hal5
        clear hal5
        go_upto_region 8 with fail
        generalize wr.alloc (.cells #[.int .i64 x.op, .int .i64 x.n, .string (tx x.s)] 39) = w5 at *
        have Hch5 := Lib.hid (Hch.out.trans Hal5.out)
        have Hcall : Hid (Calls Tryd.prog 28 #[.agg #[.int .i64 x.op, .int .i64 x.n, .string (tx x.s)]] w5 (NodeP x w5)) := Lib.hid (cnode_any x Hwf.out (Nat.le_trans Hsb.out (by decide)) base w5 (Hev.out.keep (Hc1.out.trans Hch5.out)))
        have Hkd5 := Lib.hid (Hkd.out.keep (T := NoB) Hal5.out fun _ _ _ => id)
        clear c0 c1 c2
        obtain ⟨acc, hacc⟩ : ∃ acc, acc = (ps.map nodeF).take k := ⟨_, rfl⟩
        rw [← hacc] at Hkd5 Htk
        have hna : acc.length = k := by rw [hacc, List.length_take, List.length_map, ← Hlen.out]; omega
        have Hna := Lib.hid hna
        clear hna hacc Hkd
        go_wp2_with fail
        refine Hcall.out.mono ?_
        rintro e w6 ⟨hc6, v6, rfl, hv6⟩
        obtain ⟨-, s6, kb6, ko6, rfl, hs6⟩ := hv6
        have hnf : nodeF x = .mk false ⟨#[]⟩ (kidsF x) := rfl
        rw [hnf] at hs6 Htk ⊢
        simp only [Nd.leaf, Nd.atom, Nd.kids] at *
        obtain ⟨q6, cap6, e6, -, -, -⟩ := hs6.sh
        obtain ⟨len6, hl6⟩ : ∃ l, l = (kidsF x).length := ⟨_, rfl⟩
        rw [← hl6] at e6
        subst e6
        clear hl6 hnf
        obtain ⟨hlo5, xs, hown, hrow⟩ := Hkd5.out
        have hz5 : lo ≤ w5.heap.size := hlo5
        have hz6 := hc6.size
        have hownK := ownsRow_chg hown hc6 fun _ _ => id
        have hrowK := hrow.keep (S' := KbS lo u6 w6) hc6 (fun _ _ => id) fun k hk => ⟨⟨hk.1.1, Nat.lt_of_lt_of_le hk.1.2 hz6⟩, hk.2⟩
        have HN : ∀ k, u6.ownBlock = some k → k < w5.heap.size := fun k hk => (hown.lt k hk).2
        have HownK := Lib.hid hownK
        have HrowK := Lib.hid hrowK
        have Hs6 := Lib.hid (hs6.mono (T := fun y => w5.heap.size ≤ y ∧ y < w6.heap.size) fun x hx => hx)
        have HN' := Lib.hid HN
        have Hz5 := Lib.hid hz5
        have Hz6 := Lib.hid hz6
        have Hch6 := Lib.hid (Hch5.out.trans hc6)
        obtain ⟨q0, n0, cap0, hu6⟩ := Hkd5.out.shape2
        subst hu6
        obtain ⟨i0, hi, hz0, hz1, hz2⟩ := info_parts nodeInfo
        have Hi := Lib.hid hi
        have Hz0 := Lib.hid hz0
        have Hz1 := Lib.hid hz1
        have Hz2 := Lib.hid hz2
        have M1 := Lib.hid (show k + 1 ≤ maxLen by unfold maxLen; omega)
        have M2 := Lib.hid (show (k + 1) * 48 ≤ 140737488355328 by omega)
        have hal7 := (Chg.refl NoB w6).alloc (.cells #[.bool false, .string ⟨#[]⟩, .slice q6 len6 cap6] 49)
        have hown7 := ownsRow_chg HownK.out hal7 fun _ _ => id
        rw [Hna.out] at hown7
        have Hown7 := Lib.hid hown7
        have Hal7 := Lib.hid hal7
        have hb7 : lo ≤ (w6.alloc (.cells #[.bool false, .string ⟨#[]⟩, .slice q6 len6 cap6] 49)).heap.size := Nat.le_trans Hz5.out (Nat.le_trans Hz6.out Hal7.out.size)
        clear hal7 hown7 hown hrow hownK hrowK hs6 HN hz5 hz6 hi hz0 hz1 hz2 hc6 hlo5 g0 g1 g2
        go_wp2_with (at_builtin; refine wpList_append_at _ rfl _ _ 47 rfl lo 49 i0 (.agg #[.bool false, .string ⟨#[]⟩, .slice none 0 0]) 3 48 Tryd.underlying47 Hi.out Hz0.out Hz1.out Hz2.out rfl (by decide) _ k _ rfl Hown7.out ⟨w6.heap.size, 0, none⟩ 1 1 [.bool false, .string ⟨#[]⟩, .slice q6 len6 cap6] rfl rfl (lit3 w6 _ _ _ _) (one3 _ _ _ _ _) M1.out M2.out hb7 ?_)
        intro v9 w9 hown9 hgr9 hpl9
        have hgc9 : Chg (fun k => (Value.slice q0 n0 cap0).ownBlock = some k) _ w9 := (Chg.refl _ _).grown hgr9 fun k hk => .inl hk
        have h69 : Chg (fun k => (Value.slice q0 n0 cap0).ownBlock = some k) w6 w9 := (Hal7.out.mono fun _ _ x => x.elim).trans hgc9
        have hob : ∀ k, (Value.slice q0 n0 cap0).ownBlock = some k → lo ≤ k := fun k hk => (HownK.out.lt k hk).1
        have hkd9 : Kb w9 lo v9 (acc ++ [.mk false ⟨#[]⟩ (kidsF x)]) := Kb.push (n := .mk false ⟨#[]⟩ (kidsF x)) HN'.out Hz5.out Hz6.out HrowK.out (Nat.zero_le _) Hs6.out Hal7.out (by rw [Hna.out]; exact hown9) hgr9 (by rw [alloc_size]; exact hpl9)
        rw [← Htk.out] at hkd9
        have hch9 : Chg NoB w1 w9 := Chg.above Hch6.out h69 fun k hk => by have := hob k hk; have := Hlo.out; omega
        have Hkd9 := Lib.hid hkd9
        have Hch9 := Lib.hid hch9
        clear hown9 hgr9 hpl9 hgc9 h69 hob hkd9 hch9
        go_wp2_with fail
        go_roundw
        case rel => exact ⟨k + 1, by omega, by go_num, Hkd9.out, Hch9.out⟩
        case measure => simp [intOf]; omega
      · obtain rfl : k = len := by omega
        have htk : (ps.map nodeF).take k = ps.map nodeF := by rw [Hlen.out]; exact List.take_of_length_le (by rw [List.length_map]; exact Nat.le_refl _)
        rw [htk] at Hkd
        obtain ⟨nb, no, hnds⟩ := Hkd.out.nds
        have hcl : Nd.counts (ps.map nodeF) ≤ 1048576 := by have := Hcnt.out; unfold progF at this; rw [Nd.count] at this; omega
        have Hlist := Lib.hid (list_new (ps.map nodeF) hcl _ _ nb no wr hnds)
        have hcr := Hc1.out.trans Hch.out
        have Hcr := Lib.hid hcr
        clear hnds hcl hcr
        go_wp2_with fail
        refine Hlist.out.mono ?_
        rintro e w7 ⟨hc7, v7, rfl, hv7⟩
        have Hpn := Lib.hid ((enc_any (progF ps) Hcnt.out _ v7 w7 hv7 (fun k hk => hk.2) ((Hev.out.keep (Hcr.out.trans hc7)).lw.top)).mono fun e w' h => h.val)
        have Hc7 := Lib.hid (Hcr.out.trans hc7)
        clear hc7 hv7
        go_wp2_with fail
        refine Hpn.out.mono ?_
        rintro e w8 ⟨hc8, rfl⟩
        rw [← Henc.out]
        go_wp2_with fail
        go_ret2
        exact ⟨Hc7.out.trans hc8, rfl⟩
  · have henc : encF ps = (⟨#[]⟩, (checkF ps).2) := if_neg hy
    have Henc := Lib.hid henc
    have hyb : ((checkF ps).2 == 0) = false := by rw [beq_eq_false_iff_ne]; exact hy
    rw [henc]
    generalize (checkF ps).2 = y at *
    clear henc hlen
    go_enter Tryd.func18, Tryd.ntmps18
    go_wp2_with fail
    refine Hck.out.mono ?_
    rintro e w1 ⟨rfl, hc1⟩
    go_wp2_with fail
    go_ret2
    exact ⟨hc1, rfl⟩
end Go.Proofs.YtdeikcmkfmnjmaaDoor
