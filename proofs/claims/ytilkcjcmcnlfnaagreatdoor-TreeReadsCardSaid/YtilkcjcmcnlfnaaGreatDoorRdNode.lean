/- The contracts of the reader's list and node, and of Decode. Condition: at most 2^16 bytes where they are read; the library's variables. -/
import Derived.Test.YtilkcjcmcnlfnaaGreatDoorRdKids
namespace Go.Proofs.YtilkcjcmcnlfnaaGreatDoor
set_option linter.unusedVariables false
open Go.ChangeShapes Go.WideShapes Go.ChangeAt Go.RowKit
def listD (t : List UInt8) (d : Nat) : Except Int (Nd × List UInt8) := if 32 ≤ d then .error 4 else rdL (2 * t.length + 2) t (d + 1) []
def decN (s : List UInt8) (d : Nat) : Except Int (Nd × List UInt8) := rdN (2 * s.length + 1) s d
theorem decN_list {s : List UInt8} (h : s.head? = some 40) (d : Nat) : decN s d = listD s.tail d := by
  unfold decN listD
  rw [rdN, if_pos h]
  cases s with
  | nil => simp at h
  | cons x t =>
    simp only [List.tail_cons, List.length_cons]
    split
    · rfl
    · exact rdL_fuel _ _ _ _ _ (by omega) (by omega)
theorem decN_atom {s : List UInt8} (h : s.head? ≠ some 40) (d : Nat) : decN s d = atR s := by
  unfold decN atR
  rw [rdN, if_neg h]
  cases atomL s <;> rfl
theorem rdN_err : ∀ (f : Nat) (s : List UInt8) (d : Nat) (y : Int), rdN f s d = .error y → 0 < y ∧ y < 10 := by
  intro f
  induction f using Nat.strongRecOn with
  | _ f ih =>
    intro s d y h
    cases f with
    | zero => rw [rdN] at h; cases h; decide
    | succ f =>
      have hL : ∀ g, g ≤ f → ∀ s d acc y, rdL g s d acc = .error y → 0 < y ∧ y < 10 := by
        intro g
        induction g with
        | zero => intro _ s d acc y h; rw [rdL] at h; cases h; decide
        | succ g ihg =>
          intro hg s d acc y h
          rw [rdL] at h
          split at h
          · cases h
          · split at h
            · rename_i e he
              cases h
              exact ih g (by omega) _ _ _ he
            · exact ihg (by omega) _ _ _ _ h
      rw [rdN] at h
      split at h
      · split at h
        · cases h; decide
        · exact hL f (Nat.le_refl _) _ _ _ _ h
      · split at h
        · cases h; decide
        · cases h
def RdSays (L : Nat) : Prop := ∀ (s : List UInt8), s.length ≤ L → ∀ (d b base : Nat) (w : World), Rd w b s → base ≤ b → Lb base w → d ≤ 32 →
    Calls Tryz.prog 83 #[.pointer (some ⟨b, 0, none⟩), .int .i64 d] w (RdP b (decN s d) w)
def restLen (b : Nat) (w : World) : Nat := match w.cell? ⟨b, 0, none⟩ with
  | some (.string x) => x.size
  | _ => 0
theorem Rd.len {w : World} {b : Nat} {s : List UInt8} (h : Rd w b s) : restLen b w = s.length := by
  unfold restLen
  rw [h.cell]
  exact tx_size s
theorem head_eq {s : List UInt8} {c : UInt8} (h : s.head? = some c) : (s.head? == some c) = true := by rw [h]; exact beq_self_eq_true _
theorem head_ne {s : List UInt8} {c : UInt8} (h : s.head? ≠ some c) : (s.head? == some c) = false := beq_eq_false_iff_ne.mpr h
theorem tail_of {s : List UInt8} {c : UInt8} (h : s.head? = some c) : s.length = s.tail.length + 1 := by
  cases s with
  | nil => simp at h
  | cons x t => rfl
theorem drop_one (s : List UInt8) : s.drop 1 = s.tail := by cases s <;> rfl
theorem pre_yes {s : List UInt8} {c : UInt8} (h : s.head? = some c) (w : World) : Calls Tryz.prog 73 #[.string (tx s), .string ⟨#[c]⟩] w fun e w' => e = .returned (.bool true) ∧ w' = w := by
  have := pre_any s c w
  rwa [head_eq h] at this
theorem pre_no {s : List UInt8} {c : UInt8} (h : s.head? ≠ some c) (w : World) : Calls Tryz.prog 73 #[.string (tx s), .string ⟨#[c]⟩] w fun e w' => e = .returned (.bool false) ∧ w' = w := by
  have := pre_any s c w
  rwa [head_ne h] at this
theorem NdV.shape {w : World} {S : Nat → Prop} {v : Value} {n : Nd} (h : NdV w S v n) : n.atom.size ≤ maxLen ∧ ∃ q len c kb ko, v = .agg #[.bool n.leaf, .string n.atom, .slice q len c] ∧ NdS w S (.slice q len c) n.kids kb ko := by
  obtain ⟨ha, s, kb, ko, e, hs⟩ := h
  have hs' := hs
  obtain ⟨⟨q, c, rfl, _⟩, _⟩ := hs
  exact ⟨ha, q, _, c, kb, ko, e, hs'⟩
theorem alloc_size (w : World) (o : Obj) : (w.alloc o).heap.size = w.heap.size + 1 := by
  show (w.heap.push _).size = _
  simp
theorem Kd.shape2 {w : World} {lo : Nat} {v : Value} {acc : List Nd} (h : Kd w lo v acc) : ∃ q n cap, v = .slice q n cap := by
  obtain ⟨q, cap, e, _⟩ := h.shape
  exact ⟨q, _, cap, e⟩
set_option maxHeartbeats 4000000 in
set_option maxRecDepth 20000 in
theorem rlist_any (L : Nat) (hL : L ≤ 65536) (IH0 : RdSays L) (s : List UInt8) (hh : s.head? = some 40) (hs : s.length ≤ L + 1) (d b base : Nat) (w : World) (h : Rd w b s) (hb : base ≤ b) (hl : Lb base w) (hd : d ≤ 32) :
    Calls Tryz.prog 107 #[.pointer (some ⟨b, 0, none⟩), .int .i64 d] w (RdP b (listD s.tail d) w) := by
  have IH := Lib.hid IH0
  have hsl := tail_of hh
  have H := Lib.hid h
  have Hl := Lib.hid hl
  have hal := (Chg.refl NoB w).alloc (.cells #[.bool false, .string ⟨#[]⟩, .slice none 0 0] 71)
  have hblk := heap_alloc_new w (.cells #[.bool false, .string ⟨#[]⟩, .slice none 0 0] 71)
  obtain ⟨vb, hvb⟩ : ∃ vb, vb = w.heap.size := ⟨_, rfl⟩
  have hbv : b < vb := by rw [hvb]; exact lt_of_block h
  have hsz : vb < (w.alloc (.cells #[.bool false, .string ⟨#[]⟩, .slice none 0 0] 71)).heap.size := by rw [hvb]; exact lt_of_block hblk
  rw [← hvb] at hblk
  have Hvb := Lib.hid hvb
  have Hal := Lib.hid hal
  have Hblk := Lib.hid hblk
  have HH1 := Lib.hid (h.keep hal)
  have HL1 := Lib.hid (hl.keep hal)
  clear h hl hal hblk hvb IH0
  by_cases hd32 : d < 32
  · have hres : listD s.tail d = rdL (2 * s.tail.length + 2) s.tail (d + 1) [] := by unfold listD; rw [if_neg (by omega)]
    have Hres := Lib.hid hres
    obtain ⟨t, ht⟩ : ∃ t, t = s.tail := ⟨_, rfl⟩
    rw [← ht] at Hres hsl ⊢
    have hx1 : (tx s).extract 1 s.length = tx t := by have := tx_drop s 1; rw [tx_size, drop_one, ← ht] at this; exact this
    have Ht := Lib.hid ht
    have hss : (tx s).size = s.length := tx_size s
    have hs1 : (1 : Int) ≤ (s.length : Int) := by omega
    have Hsl := Lib.hid hsl
    have htL : t.length ≤ L := by omega
    clear hres ht hh hsl
    go_enter Tryz.func107, Tryz.ntmps107
    go_upto_region 3 with fail
    rw [← Hvb.out]
    generalize w.alloc (.cells #[.bool false, .string ⟨#[]⟩, .slice none 0 0] 71) = w1 at *
    have c1 := HH1.out.cell
    have f1 := HH1.out.free
    obtain ⟨s1, s2⟩ := HH1.out.set t
    have hblk2 := row_kept s2 Hblk.out (by show ¬ vb = b; omega)
    have S1 := Lib.hid s1
    have S2 := Lib.hid s2
    have Hblk2 := Lib.hid hblk2
    have hsz2 := s2.size
    clear s1 s2 hblk2
    go_wp2_with fail
    generalize w1.setCell ⟨b, 0, none⟩ (.string (tx t)) = w2 at *
    clear c1 f1 hx1
    go_loopw [6] (fun kv wr => ∃ (s' : List UInt8) (acc : List Nd), Rd wr b s' ∧ Kd wr (vb + 1) kv acc ∧ Chg (OneB b) w wr ∧ acc.length + s'.length ≤ t.length ∧ rdL (2 * s'.length + 2) s' (d + 1) acc = rdL (2 * t.length + 2) t (d + 1) [] ∧ wr.heap[vb]? = some (.cells #[.bool false, .string ⟨#[]⟩, .slice none 0 0] 71 (0, 0))) (fun _ wr => restLen b wr)
    case atStart => exact ⟨t, [], S1.out, Kd.nil _ _ (by omega), (Hal.out.mono fun _ _ x => x.elim).trans S2.out, by simp, rfl, Hblk2.out⟩
    case round =>
      obtain ⟨s', acc, hrd, hkd, hch, hlen, hinv, hbk⟩ := hrel
      have Hrd := Lib.hid hrd
      have Hkd := Lib.hid hkd
      have Hch := Lib.hid hch
      have Hinv := Lib.hid hinv
      have Hbk := Lib.hid hbk
      have c1 := hrd.cell
      have hrl := hrd.len
      clear hrd hkd hch hinv hbk
      by_cases h41 : s'.head? = some 41
      · have hfin : rdL (2 * t.length + 2) t (d + 1) [] = .ok (.mk false ⟨#[]⟩ acc, s'.tail) := by rw [← Hinv.out, rdL, if_pos h41]
        have Hfin := Lib.hid hfin
        have Hpre := Lib.hid (pre_yes h41 wr)
        have Hsl' := Lib.hid (tail_of h41)
        have hx1 : (tx s').extract 1 s'.length = tx s'.tail := by have := tx_drop s' 1; rw [tx_size, drop_one] at this; exact this
        have hss' : (tx s').size = s'.length := tx_size s'
        have hs1' : (1 : Int) ≤ (s'.length : Int) := by have := Hsl'.out; omega
        have f1 := Hrd.out.free
        clear hfin
        go_wp2_with fail
        refine Hpre.out.mono ?_
        rintro e w5 ⟨rfl, rfl⟩
        obtain ⟨s1, s2⟩ := Hrd.out.set s'.tail
        have hblk6 := row_kept s2 Hbk.out (by show ¬ vb = b; omega)
        obtain ⟨d0, d1, d2⟩ := var3 hblk6
        have df := row_free hblk6
        have Hblk6 := Lib.hid hblk6
        have Hkd6 := Lib.hid (Hkd.out.keep s2 fun k _ hk hkb => by have : k = b := hkb; omega)
        obtain ⟨q, na, cap, hkv⟩ := Hkd.out.shape2
        have S1 := Lib.hid s1
        have S2 := Lib.hid s2
        clear s1 s2 hblk6
        subst hkv
        go_wp2_with fail
        generalize w5.setCell ⟨b, 0, none⟩ (.string (tx s'.tail)) = w6 at *
        obtain ⟨e0, e1, e2⟩ := var3 (box3 Hblk6.out (.bool false) (.string ⟨#[]⟩) (.slice q na cap))
        have hpre : Chg (OneB b) w w6 := Hch.out.trans S2.out
        have hfin := box3_chg (b := vb) hpre (by rw [Hvb.out]; exact Nat.le_refl _) (.bool false) (.string ⟨#[]⟩) (.slice q na cap)
        have hst := st3 w6 (g := vb) 0 (.bool false) (.string ⟨#[]⟩) (.slice q na cap)
        have hrd := row_kept hst S1.out (by show ¬ b = vb; omega)
        obtain ⟨kb, ko, hnds⟩ := Hkd6.out.nds
        have hnds' := hnds.keep hst fun x hx hv => by have := hx.1.1; have : x = vb := hv; omega
        have hsz9 := hst.size
        have hv0 := Hvb.out
        generalize ((w6.setCell ⟨vb, 0, none⟩ (.bool false)).setCell ⟨vb, 1, none⟩ (.string ⟨#[]⟩)).setCell ⟨vb, 2, none⟩ (.slice q na cap) = wf at *
        refine bodyPost_ret (v := .tuple #[.agg #[.bool false, .string ⟨#[]⟩, .slice q na cap], .int .i64 0]) (by simp [results, Tryz.results107, go_sem, e0, e1, e2]) rfl ⟨hfin, ?_⟩
        rw [Hres.out, Hfin.out]
        exact ⟨_, rfl, hrd, Nat.zero_le _, _, kb, ko, rfl, hnds'.mono fun x hx => (Nw.keep hx hst fun hv => by have := hx.1.1; have : x = vb := hv; omega).le (by omega)⟩
      · have Hpre := Lib.hid (pre_no h41 wr)
        have Hcall := Lib.hid (IH.out s' (by omega) (d + 1) b base wr Hrd.out hb (Hl.out.chg Hch.out fun k hk => by rw [show k = b from hk]; exact hb) (by omega))
        go_wp2_with fail
        refine Hpre.out.mono ?_
        rintro e w5 ⟨rfl, rfl⟩
        have hstep : rdL (2 * s'.length + 2) s' (d + 1) acc = match decN s' (d + 1) with | .error e => .error e | .ok (k, r) => rdL (2 * s'.length + 1) r (d + 1) (acc ++ [k]) := by
          rw [rdL, if_neg h41]
          unfold decN
          cases rdN (2 * s'.length + 1) s' (d + 1) <;> rfl
        have Hstep := Lib.hid hstep
        clear hstep
        cases hdec : decN s' (d + 1) with
        | error y =>
          obtain ⟨y0, y1⟩ := rdN_err _ _ _ _ hdec
          have hyb : (y == 0) = false := by rw [beq_eq_false_iff_ne]; omega
          rw [hdec] at Hcall
          have hfin : rdL (2 * t.length + 2) t (d + 1) [] = .error y := by rw [← Hinv.out, Hstep.out, hdec]
          have Hfin := Lib.hid hfin
          clear hfin hdec
          go_wp2_with fail
          refine Hcall.out.mono ?_
          rintro e w6 ⟨hc6, rfl⟩
          have Hc6 := Lib.hid hc6
          have hblk6 := row_kept hc6 Hbk.out (by show ¬ vb = b; omega)
          have Hblk6 := Lib.hid hblk6
          have hal6 := (Chg.refl NoB w6).alloc (.cells #[.bool false, .string ⟨#[]⟩, .slice none 0 0] 71)
          have hblk7 := row_kept hal6 hblk6 id
          obtain ⟨d0, d1, d2⟩ := var3 hblk7
          have df := row_free hblk7
          have Hblk7 := Lib.hid hblk7
          have Hal6 := Lib.hid hal6
          clear hc6 hblk6 hblk7 hal6
          unfold nodeZ
          go_wp2_with fail
          generalize w6.alloc (.cells #[.bool false, .string ⟨#[]⟩, .slice none 0 0] 71) = w7 at *
          obtain ⟨e0, e1, e2⟩ := var3 (box3 Hblk7.out (.bool false) (.string ⟨#[]⟩) (.slice none 0 0))
          have hfin := box3_chg (b := vb) (Hch.out.trans (Hc6.out.trans (Hal6.out.mono fun _ _ x => x.elim))) (by rw [Hvb.out]; exact Nat.le_refl _) (.bool false) (.string ⟨#[]⟩) (.slice none 0 0)
          generalize ((w7.setCell ⟨vb, 0, none⟩ (.bool false)).setCell ⟨vb, 1, none⟩ (.string ⟨#[]⟩)).setCell ⟨vb, 2, none⟩ (.slice none 0 0) = wf at *
          refine bodyPost_ret (v := .tuple #[nodeZ, .int .i64 y]) (by simp [results, Tryz.results107, go_sem, e0, e1, e2, nodeZ]) rfl ⟨hfin, ?_⟩
          rw [Hres.out, Hfin.out]
        | ok kr =>
          obtain ⟨kn, r'⟩ := kr
          rw [hdec] at Hcall
          have hlr : r'.length + 2 ≤ s'.length := rdN_len _ _ _ _ _ hdec
          have hnext : rdL (2 * r'.length + 2) r' (d + 1) (acc ++ [kn]) = rdL (2 * t.length + 2) t (d + 1) [] := by
            rw [← Hinv.out, Hstep.out, hdec]
            exact rdL_fuel _ _ _ _ _ (by omega) (by omega)
          have Hnext := Lib.hid hnext
          have Hlr := Lib.hid hlr
          clear hnext hdec hlr
          go_wp2_with fail
          refine Hcall.out.mono ?_
          rintro e w6 ⟨hc6, v6, rfl, hrd6, hv6⟩
          obtain ⟨hka, q6, len6, cap6, kb6, ko6, rfl, hs6⟩ := hv6.shape
          have Hc6 := Lib.hid hc6
          have Hblk6 := Lib.hid (row_kept hc6 Hbk.out (by show ¬ vb = b; omega))
          obtain ⟨hlo, xs, hown, hrow⟩ := Hkd.out
          have hownK := ownsRow_chg hown hc6 fun k hk hkb => by have := (hown.lt k hk).1; have : k = b := hkb; omega
          have hz6 := hc6.size
          have hrowK := hrow.keep (S' := KdS (vb + 1) u6 w6) hc6 (fun k hk hkb => by have := hk.1.1.1; have : k = b := hkb; omega) fun k hk => ⟨hk.1.keep hc6 (fun hkb => by have := hk.1.1.1; have : k = b := hkb; omega), hk.2⟩
          have HN : ∀ k, u6.ownBlock = some k → k < w5.heap.size := fun k hk => (hown.lt k hk).2
          have HownK := Lib.hid hownK
          have HrowK := Lib.hid hrowK
          have Hs6 := Lib.hid hs6
          have HN' := Lib.hid HN
          have Hrd6 := Lib.hid hrd6
          have Hz6 := Lib.hid hz6
          obtain ⟨q0, n0, cap0, hu6⟩ := Hkd.out.shape2
          subst hu6
          obtain ⟨i0, hi, hz0, hz1, hz2⟩ := info_parts nodeInfo
          have Hi := Lib.hid hi
          have Hz0 := Lib.hid hz0
          have Hz1 := Lib.hid hz1
          have Hz2 := Lib.hid hz2
          obtain ⟨na, hna⟩ : ∃ na, na = acc.length := ⟨_, rfl⟩
          have Hna := Lib.hid hna
          have M1 := Lib.hid (show na + 1 ≤ maxLen by unfold maxLen; omega)
          have M2 := Lib.hid (show (na + 1) * 48 ≤ 140737488355328 by omega)
          have Hlo := Lib.hid hlo
          clear hc6 hown hrow hownK hrowK hs6 HN hrd6 hv6 hz6 hi hz0 hz1 hz2 hna hlo
          go_upto_region 9 with fail
          have hal7 := (Chg.refl NoB w6).alloc (.cells #[.bool kn.leaf, .string kn.atom, .slice q6 len6 cap6] 71)
          obtain ⟨g0, g1, g2⟩ := var3 (heap_alloc_new w6 (.cells #[.bool kn.leaf, .string kn.atom, .slice q6 len6 cap6] 71))
          have hown7 := ownsRow_chg HownK.out hal7 fun _ _ => id
          have Hal7 := Lib.hid hal7
          generalize w6.alloc (.cells #[.bool kn.leaf, .string kn.atom, .slice q6 len6 cap6] 71) = w7 at *
          have hal8 := (Chg.refl NoB w7).alloc (.cells #[.bool kn.leaf, .string kn.atom, .slice q6 len6 cap6] 71)
          have hown8 := ownsRow_chg hown7 hal8 fun _ _ => id
          rw [← Hna.out] at hown8
          have Hown8 := Lib.hid hown8
          have Hal8 := Lib.hid (Hal7.out.trans hal8)
          have hb8 : vb + 1 ≤ (w7.alloc (.cells #[.bool kn.leaf, .string kn.atom, .slice q6 len6 cap6] 71)).heap.size := Nat.le_trans Hlo.out (Nat.le_trans Hz6.out Hal8.out.size)
          clear hal7 hown7 hal8 hown8
          go_wp2_with (at_builtin; refine wpList_append_at _ rfl _ _ 69 rfl (vb + 1) 71 i0 (.agg #[.bool false, .string ⟨#[]⟩, .slice none 0 0]) 3 48 Tryz.underlying69 Hi.out Hz0.out Hz1.out Hz2.out rfl (by decide) _ na _ rfl Hown8.out ⟨w7.heap.size, 0, none⟩ 1 1 [.bool kn.leaf, .string kn.atom, .slice q6 len6 cap6] rfl rfl (lit3 w7 _ _ _ _) (one3 _ _ _ _ _) M1.out M2.out hb8 ?_)
          intro v9 w9 hown9 hgr9 hpl9
          have hgc9 : Chg (fun k => (Value.slice q0 n0 cap0).ownBlock = some k) _ w9 := (Chg.refl _ _).grown hgr9 fun k hk => .inl hk
          have h69 : Chg (fun k => (Value.slice q0 n0 cap0).ownBlock = some k) w6 w9 := (Hal8.out.mono fun _ _ x => x.elim).trans hgc9
          have hob : ∀ k, (Value.slice q0 n0 cap0).ownBlock = some k → vb + 1 ≤ k := fun k hk => (HownK.out.lt k hk).1
          have hkd9 : Kd w9 (vb + 1) v9 (acc ++ [kn]) := Kd.push HN'.out Hlo.out Hz6.out HrowK.out hka Hs6.out Hal8.out (by rw [← Hna.out]; exact hown9) hgr9 (by rw [alloc_size]; exact hpl9)
          have hrd9 : Rd w9 b r' := row_kept h69 Hrd6.out fun hk => by have := hob b hk; omega
          have hbk9 := row_kept h69 Hblk6.out fun hk => by have := hob vb hk; omega
          have hch9 : Chg (OneB b) w w9 := by
            refine ⟨(h69.os.trans Hc6.out.os).trans Hch.out.os, (h69.tape.trans Hc6.out.tape).trans Hch.out.tape, (h69.output.trans Hc6.out.output).trans Hch.out.output, Nat.le_trans Hch.out.size (Nat.le_trans Hc6.out.size h69.size), fun k hk hkb => ?_⟩
            have hv0 := Hvb.out
            have z1 := Hch.out.size
            have z2 := Hc6.out.size
            rw [h69.block k (by omega) fun hx => by have := hob k hx; omega]
            exact (Hch.out.trans Hc6.out).block k hk hkb
          have Hkd9 := Lib.hid hkd9
          have Hrd9 := Lib.hid hrd9
          have Hbk9 := Lib.hid hbk9
          have Hch9 := Lib.hid hch9
          have hrl9 := hrd9.len
          clear hown9 hgr9 hpl9 hgc9 h69 hob hkd9 hrd9 hbk9 hch9
          go_wp2_with fail
          go_roundw
          case rel => exact ⟨r', acc ++ [kn], Hrd9.out, Hkd9.out, Hch9.out, by rw [List.length_append]; have := Hlr.out; simp only [List.length_cons, List.length_nil]; omega, Hnext.out, Hbk9.out⟩
          case measure => have := Hlr.out; omega
  · have hres : listD s.tail d = .error 4 := by unfold listD; rw [if_pos (by omega)]
    have Hres := Lib.hid hres
    have hd32' : d = 32 := by omega
    subst hd32'
    have Hh := Lib.hid hh
    have Hsl := Lib.hid hsl
    clear hres hh hsl
    obtain ⟨d0, d1, d2⟩ := var3 Hblk.out
    have df := row_free Hblk.out
    go_enter Tryz.func107, Tryz.ntmps107
    go_upto_region 2 with fail
    rw [← Hvb.out]
    generalize w.alloc (.cells #[.bool false, .string ⟨#[]⟩, .slice none 0 0] 71) = w1 at *
    go_wp2_with fail
    obtain ⟨e0, e1, e2⟩ := var3 (box3 Hblk.out (.bool false) (.string ⟨#[]⟩) (.slice none 0 0))
    have hfin := box3_chg (b := vb) (Hal.out.mono (T := OneB b) fun _ _ x => x.elim) (by rw [Hvb.out]; exact Nat.le_refl _) (.bool false) (.string ⟨#[]⟩) (.slice none 0 0)
    generalize ((w1.setCell ⟨vb, 0, none⟩ (.bool false)).setCell ⟨vb, 1, none⟩ (.string ⟨#[]⟩)).setCell ⟨vb, 2, none⟩ (.slice none 0 0) = wf at *
    refine bodyPost_ret (v := .tuple #[nodeZ, .int .i64 4]) (by simp [results, Tryz.results107, go_sem, e0, e1, e2, nodeZ]) rfl ⟨hfin, ?_⟩
    rw [Hres.out]
theorem RdP.shape {b : Nat} {r : Except Int (Nd × List UInt8)} {w : World} {e : Ending} {w' : World} (h : RdP b r w e w') : ∃ (l : Bool) (a : ByteArray) (q : Option Addr) (n c : Nat) (y : Int), e = .returned (.tuple #[.agg #[.bool l, .string a, .slice q n c], .int .i64 y]) := by
  cases r with
  | error y => exact ⟨false, ⟨#[]⟩, none, 0, 0, y, h.2⟩
  | ok nr =>
    obtain ⟨n, r⟩ := nr
    obtain ⟨v, e1, _, hv⟩ := h.2
    obtain ⟨_, q, len, c, _, _, rfl, _⟩ := hv.shape
    exact ⟨_, _, q, len, c, 0, e1⟩
/- the same value handed on by way of a box -/
theorem RdP.pass {b vb : Nat} {r : Except Int (Nd × List UInt8)} {w w1 w2 wf : World} {v : Value} {y : Int} (h : RdP b r w1 (.returned (.tuple #[v, .int .i64 y])) w2) (hal : Chg NoB w w1) (hvb : vb = w.heap.size) (hv1 : vb < w1.heap.size) (hbv : b < vb)
    (hf : Chg (fun k => k = vb) w2 wf) : RdP b r w (.returned (.tuple #[v, .int .i64 y])) wf := by
  have z1 := hal.size
  have z2 := h.1.size
  have z3 := hf.size
  refine ⟨⟨(hf.os.trans h.1.os).trans hal.os, (hf.tape.trans h.1.tape).trans hal.tape, (hf.output.trans h.1.output).trans hal.output, by omega, fun k hk hkb => ?_⟩, ?_⟩
  · rw [hf.block k (by omega) (fun e => by have : k = vb := e; omega), h.1.block k (by omega) hkb]
    exact hal.block k hk id
  · have h2 := h.2
    cases r with
    | error x => exact h2
    | ok nr =>
      obtain ⟨n, rest⟩ := nr
      obtain ⟨v', e1, hr, hn⟩ := h2
      refine ⟨v', e1, row_kept hf hr (by show ¬ b = vb; omega), NdV.mono (fun x hx => ?_) (hn.keep hf fun x hx hv => ?_)⟩
      · have h3 : w1.heap.size ≤ x := hx.1.1
        exact (Nw.keep hx hf fun hv => by have : x = vb := hv; omega).le z1
      · have h3 : w1.heap.size ≤ x := hx.1.1
        have : x = vb := hv
        omega
set_option maxHeartbeats 2000000 in
set_option maxRecDepth 20000 in
theorem rnode_any (L : Nat) (hL : L ≤ 65536) : RdSays L := by
  induction L with
  | zero =>
    intro s hs d b base w h hb hl hd
    have hnil : s = [] := List.eq_nil_of_length_eq_zero (by omega)
    subst hnil
    have hal := (Chg.refl NoB w).alloc (.cells #[.bool false, .string ⟨#[]⟩, .slice none 0 0] 71)
    have hblk := heap_alloc_new w (.cells #[.bool false, .string ⟨#[]⟩, .slice none 0 0] 71)
    obtain ⟨vb, hvb⟩ : ∃ vb, vb = w.heap.size := ⟨_, rfl⟩
    have hbv : b < vb := by rw [hvb]; exact lt_of_block h
    have hsz := lt_of_block hblk
    rw [← hvb] at hblk hsz
    have Hvb := Lib.hid hvb
    have Hal := Lib.hid hal
    have Hblk := Lib.hid hblk
    have HH1 := Lib.hid (h.keep hal)
    have HL1 := Lib.hid (hl.keep hal)
    have hat : decN [] d = atR [] := decN_atom (by simp) d
    have Hat := Lib.hid hat
    clear h hl hal hblk hvb hat
    go_enter Tryz.func83, Tryz.ntmps83
    go_upto_region 1 with fail
    rw [← Hvb.out]
    generalize w.alloc (.cells #[.bool false, .string ⟨#[]⟩, .slice none 0 0] 71) = w1 at *
    have c1 := HH1.out.cell
    have Hpre := Lib.hid (pre_no (s := []) (c := 40) (by simp) w1)
    have Hcall := Lib.hid (atom_any b [] base w1 HH1.out hb HL1.out (by decide))
    go_wp2_with fail
    refine Hpre.out.mono ?_
    rintro e w2 ⟨rfl, rfl⟩
    go_wp2_with fail
    refine Hcall.out.mono ?_
    rintro e w3 hq
    obtain ⟨lf, a, q, n, c, y, rfl⟩ := hq.shape
    have Hq := Lib.hid hq
    have hblk3 := row_kept hq.1 Hblk.out (by show ¬ vb = b; omega)
    obtain ⟨d0, d1, d2⟩ := var3 hblk3
    have df := row_free hblk3
    have Hblk3 := Lib.hid hblk3
    clear hq hblk3
    go_wp2_with fail
    obtain ⟨e0, e1, e2⟩ := var3 (box3 Hblk3.out (.bool lf) (.string a) (.slice q n c))
    have hst := st3 w3 (g := vb) 0 (.bool lf) (.string a) (.slice q n c)
    generalize ((w3.setCell ⟨vb, 0, none⟩ (.bool lf)).setCell ⟨vb, 1, none⟩ (.string a)).setCell ⟨vb, 2, none⟩ (.slice q n c) = wf at *
    refine bodyPost_ret (v := .tuple #[.agg #[.bool lf, .string a, .slice q n c], .int .i64 y]) (by simp [results, Tryz.results83, go_sem, e0, e1, e2]) rfl ?_
    rw [Hat.out]
    exact Hq.out.pass Hal.out Hvb.out hsz hbv hst
  | succ L ih =>
    intro s hs d b base w h hb hl hd
    have IH := Lib.hid (ih (by omega))
    clear ih
    have hal := (Chg.refl NoB w).alloc (.cells #[.bool false, .string ⟨#[]⟩, .slice none 0 0] 71)
    have hblk := heap_alloc_new w (.cells #[.bool false, .string ⟨#[]⟩, .slice none 0 0] 71)
    obtain ⟨vb, hvb⟩ : ∃ vb, vb = w.heap.size := ⟨_, rfl⟩
    have hbv : b < vb := by rw [hvb]; exact lt_of_block h
    have hsz := lt_of_block hblk
    rw [← hvb] at hblk hsz
    have Hvb := Lib.hid hvb
    have Hal := Lib.hid hal
    have Hblk := Lib.hid hblk
    have HH1 := Lib.hid (h.keep hal)
    have HL1 := Lib.hid (hl.keep hal)
    clear h hl hal hblk hvb
    by_cases hh : s.head? = some 40
    · have hat : decN s d = listD s.tail d := decN_list hh d
      have Hat := Lib.hid hat
      have Hh := Lib.hid hh
      clear hat hh
      go_enter Tryz.func83, Tryz.ntmps83
      go_upto_region 1 with fail
      rw [← Hvb.out]
      generalize w.alloc (.cells #[.bool false, .string ⟨#[]⟩, .slice none 0 0] 71) = w1 at *
      have c1 := HH1.out.cell
      have Hpre := Lib.hid (pre_yes Hh.out w1)
      have Hcall := Lib.hid (rlist_any L (by omega) IH.out s Hh.out hs d b base w1 HH1.out hb HL1.out hd)
      go_wp2_with fail
      refine Hpre.out.mono ?_
      rintro e w2 ⟨rfl, rfl⟩
      go_wp2_with fail
      refine Hcall.out.mono ?_
      rintro e w3 hq
      obtain ⟨lf, a, q, n, c, y, rfl⟩ := hq.shape
      have Hq := Lib.hid hq
      have hblk3 := row_kept hq.1 Hblk.out (by show ¬ vb = b; omega)
      obtain ⟨d0, d1, d2⟩ := var3 hblk3
      have df := row_free hblk3
      have Hblk3 := Lib.hid hblk3
      clear hq hblk3
      go_wp2_with fail
      obtain ⟨e0, e1, e2⟩ := var3 (box3 Hblk3.out (.bool lf) (.string a) (.slice q n c))
      have hst := st3 w3 (g := vb) 0 (.bool lf) (.string a) (.slice q n c)
      generalize ((w3.setCell ⟨vb, 0, none⟩ (.bool lf)).setCell ⟨vb, 1, none⟩ (.string a)).setCell ⟨vb, 2, none⟩ (.slice q n c) = wf at *
      refine bodyPost_ret (v := .tuple #[.agg #[.bool lf, .string a, .slice q n c], .int .i64 y]) (by simp [results, Tryz.results83, go_sem, e0, e1, e2]) rfl ?_
      rw [Hat.out]
      exact Hq.out.pass Hal.out Hvb.out hsz hbv hst
    · have hat : decN s d = atR s := decN_atom hh d
      have Hat := Lib.hid hat
      have Hh := Lib.hid hh
      clear hat hh
      go_enter Tryz.func83, Tryz.ntmps83
      go_upto_region 1 with fail
      rw [← Hvb.out]
      generalize w.alloc (.cells #[.bool false, .string ⟨#[]⟩, .slice none 0 0] 71) = w1 at *
      have c1 := HH1.out.cell
      have Hpre := Lib.hid (pre_no Hh.out w1)
      have Hcall := Lib.hid (atom_any b s base w1 HH1.out hb HL1.out (by omega))
      go_wp2_with fail
      refine Hpre.out.mono ?_
      rintro e w2 ⟨rfl, rfl⟩
      go_wp2_with fail
      refine Hcall.out.mono ?_
      rintro e w3 hq
      obtain ⟨lf, a, q, n, c, y, rfl⟩ := hq.shape
      have Hq := Lib.hid hq
      have hblk3 := row_kept hq.1 Hblk.out (by show ¬ vb = b; omega)
      obtain ⟨d0, d1, d2⟩ := var3 hblk3
      have df := row_free hblk3
      have Hblk3 := Lib.hid hblk3
      clear hq hblk3
      go_wp2_with fail
      obtain ⟨e0, e1, e2⟩ := var3 (box3 Hblk3.out (.bool lf) (.string a) (.slice q n c))
      have hst := st3 w3 (g := vb) 0 (.bool lf) (.string a) (.slice q n c)
      generalize ((w3.setCell ⟨vb, 0, none⟩ (.bool lf)).setCell ⟨vb, 1, none⟩ (.string a)).setCell ⟨vb, 2, none⟩ (.slice q n c) = wf at *
      refine bodyPost_ret (v := .tuple #[.agg #[.bool lf, .string a, .slice q n c], .int .i64 y]) (by simp [results, Tryz.results83, go_sem, e0, e1, e2]) rfl ?_
      rw [Hat.out]
      exact Hq.out.pass Hal.out Hvb.out hsz hbv hst
end Go.Proofs.YtilkcjcmcnlfnaaGreatDoor
