/- Proved: the statement CasOrders holds for every width, list of texts and number. No condition beyond the statement's own. -/
import Derived.Test.YtbloglfmhhgccaaCaTwo


namespace Go.Proofs.Ytbloglfmhhgccaa
set_option linter.unusedVariables false
open Go.ChangeShapes Go.WideShapes Go.ChangeAt Go.RowKit
open Go.ChangeMaps (open_string shut_string)
def One (w : World) (lo sb ob : Nat) (W : Int) (j : Nat) (pr : List (List UInt8)) : Prop := ∃ os ps, InvO W os ps ∧ StO w lo sb ob W ps ∧ os.length ≤ j ∧ HasO W os pr
def Ap (w : World) (ob ob2 : Nat) : Prop := ∀ k, RowB w ob k → ¬ RowB w ob2 k
theorem Ap.symm {w : World} {a b : Nat} (h : Ap w a b) : Ap w b a := fun k h1 h2 => h k h2 h1
theorem other {w w' : World} {lo sb ob sb2 ob2 : Nat} {W W2 : Int} {ps ps2 : List FileL} (h1 : StO w lo sb ob W ps) (h2 : StO w lo sb2 ob2 W2 ps2) (ha : Ap w ob ob2) (n1 : sb2 ≠ ob) (n2 : ob2 ≠ ob) (hc : Chg (PutB ob w) w w') (hr : ∀ k, RowB w' ob k → RowB w ob k ∨ w.heap.size ≤ k) : StO w' lo sb2 ob2 W2 ps2 ∧ Ap w' ob ob2 := by
  have e1 : ¬ PutB ob w sb2 := by
    rintro (h | h)
    · exact n1 h
    · have := (h1.rowB h).1; have := h2.ne.2.1; omega
  have e2 : ¬ PutB ob w ob2 := by
    rintro (h | h)
    · exact n2 h
    · have := (h1.rowB h).1; have := h2.ne.2.2.1; omega
  have e3 : ∀ k, RowB w ob2 k → ¬ PutB ob w k := by
    rintro k hk (h | h)
    · have := (h2.rowB hk).1; have := h1.ne.2.2.1; omega
    · exact ha k h hk
  refine ⟨h2.keepC hc e1 e2 e3, fun k hk hk2 => ?_⟩
  have hb := hk2.back hc h2.row_le.2 e2
  rcases hr k hk with h | h
  · exact ha k h hb
  · have := (h2.rowB hb).2; omega
def rotL (l : List (List UInt8)) (a j : Nat) : List (List UInt8) := (List.range j).map fun i => l.getD ((i + a) % l.length) []
theorem rot_snoc (l : List (List UInt8)) (a j : Nat) : rotL l a (j + 1) = rotL l a j ++ [l.getD ((j + a) % l.length) []] := by
  unfold rotL; rw [List.range_succ, List.map_append]; rfl
theorem rot_mem {l : List (List UInt8)} {a : Nat} (ha : a ≤ l.length) {b : List UInt8} : b ∈ rotL l a l.length ↔ b ∈ l := by
  unfold rotL
  constructor
  · intro h
    obtain ⟨i, hi, rfl⟩ := List.mem_map.1 h
    have hi := List.mem_range.1 hi
    have hm : (i + a) % l.length < l.length := Nat.mod_lt _ (by omega)
    rw [List.getD_eq_getElem?_getD, List.getElem?_eq_getElem hm]
    exact List.getElem_mem hm
  · intro h
    obtain ⟨t, ht, rfl⟩ := List.getElem_of_mem h
    refine List.mem_map.2 ⟨(t + l.length - a) % l.length, List.mem_range.2 (Nat.mod_lt _ (by omega)), ?_⟩
    have e : ((t + l.length - a) % l.length + a) % l.length = t := by
      rw [Nat.add_mod, Nat.mod_mod, ← Nat.add_mod, show t + l.length - a + a = t + l.length by omega, Nat.add_mod_right, Nat.mod_eq_of_lt ht]
    simp only [e]
    rw [List.getD_eq_getElem?_getD, List.getElem?_eq_getElem ht]; rfl
theorem same_len {W : Int} {o1 o2 p1 p2 : List (List UInt8)} {ps1 ps2 : List FileL} (h1 : InvO W o1 ps1) (h2 : InvO W o2 ps2) (a1 : HasO W o1 p1) (a2 : HasO W o2 p2) (hp : ∀ b, b ∈ p2 ↔ b ∈ p1) : ps1.length = ps2.length := by
  rw [h1.len, h2.len]
  have hs : ∀ b, b ∈ o1 ↔ b ∈ o2 := fun b => ⟨fun h => a2.all b ((hp b).2 (a1.from' b h).1) (a1.from' b h).2, fun h => a1.all b ((hp b).1 (a2.from' b h).1) (a2.from' b h).2⟩
  exact Nat.le_antisymm (List.Nodup.length_le_of_subset h1.nodup (fun x hx => (hs x).1 hx)) (List.Nodup.length_le_of_subset h2.nodup (fun x hx => (hs x).2 hx))
set_option maxHeartbeats 8000000 in
set_option maxRecDepth 20000 in
theorem casOrders_all (W : Int) (l : List (List UInt8)) (v : Value) (kb ko : Nat) (at' : Int) (w : World) (wx : (Lit.int .i64 W).wf = true) (hs : TxtS w (OldB w) v l kb ko) (hr : l.length ≤ 140737488351232 ∧ ∀ t ∈ l, t.length ≤ 140737488351232) (wa : (Lit.int .i64 at').wf = true) :
    Calls Try.prog 6 #[.int .i64 W, v, .int .i64 at'] w fun e w' => e = .returned (.bool true) ∧ Chg NoB w w' := by
  have Hs := Lib.hid (fun w' (h : Chg NoB w w') => hs.keep h fun _ _ => id)
  have HGR := Lib.hid (fun w' (h : Chg NoB w w') => cgreat_any l hr.1 hr.2 (OldB w) v kb ko w' (hs.keep h fun _ _ => id))
  obtain ⟨⟨q, c, rfl, h1, h2, h3⟩, -⟩ := hs
  have H3 := Lib.hid h3
  obtain ⟨n, hn⟩ : ∃ n, n = l.length := ⟨_, rfl⟩
  rw [← hn] at Hs HGR h1 hr ⊢
  have Hn := Lib.hid hn
  have Hrt := Lib.hid hr.2
  unfold maxLen at h2
  have HAL := Lib.hid (calive_any w)
  clear h3 hn wx hr wa
  go_enter Try.func6, Try.ntmps6
  go_wp2_with fail
  refine HAL.out.mono ?_
  rintro e w1 ⟨rfl, hc1⟩
  have Hc1 := Lib.hid hc1
  clear hc1
  go_wp2_with fail
  refine (HGR.out _ Hc1.out).mono ?_
  rintro e w' ⟨g, rfl, hg, rfl⟩
  have Hg := Lib.hid hg
  clear hg
  by_cases hbad : at' < 0 ∨ (n : Int) < at'
  · have h0 : decide (at' < 0) = true ∨ decide (at' < 0) = false := by cases decide (at' < 0) <;> simp
    cases g with
    | true =>
      go_wp2_with fail
      go_ret
      exact ⟨rfl, Hc1.out⟩
    | false =>
    by_cases hneg : at' < 0
    · go_wp2_with fail
      go_ret
      exact ⟨rfl, Hc1.out⟩
    · have hbig : (n : Int) < at' := by omega
      go_wp2_with fail
      go_ret
      exact ⟨rfl, Hc1.out⟩
  obtain ⟨a, rfl⟩ : ∃ a : Nat, at' = a := ⟨at'.toNat, by omega⟩
  have han : a ≤ n := by omega
  clear hbad
  cases g with
  | true =>
    go_wp2_with fail
    go_ret
    exact ⟨rfl, Hc1.out⟩
  | false =>
  obtain ⟨hn60, hlen⟩ := Hg.out rfl
  rw [← Hn.out] at hn60
  have Hlen := Lib.hid hlen
  have HN := Lib.hid (fun w => new_any W w)
  clear hlen Hg
  have hnb : ¬ (n : Int) < (a : Int) := by omega
  go_wp2_with fail
  refine (HN.out _).mono ?_
  rintro e w2 ⟨hc2, sb, ob, rfl, hst, hsb, hob, hz2, hs2, ho2⟩
  have H2 := Lib.hid (And.intro hc2 (And.intro hst (And.intro hsb (And.intro hob (And.intro hz2 (And.intro hs2 ho2))))))
  clear hc2 hst hsb hob hz2 hs2 ho2
  go_wp2_with fail
  refine (HN.out _).mono ?_
  rintro e w3 ⟨hc3, sb2, ob2, rfl, hst2, hsb2, hob2, hz3, -, -⟩
  obtain ⟨hc2, hst, hsb, hob, hz2, hs2, ho2⟩ := H2.out
  obtain ⟨lo, hlo⟩ : ∃ lo, lo = w2.heap.size + 2 := ⟨_, rfl⟩
  obtain ⟨hst2, hrw2⟩ := hst2 w3 lo (Chg.refl _ _) (by omega) (by omega)
  obtain ⟨hst, hrw⟩ := hst w3 lo hc3 (by omega) (by omega)
  have Hc3 := Lib.hid (Hc1.out.trans (hc2.trans hc3))
  have Hob := Lib.hid (show w.heap.size ≤ ob ∧ w.heap.size ≤ ob2 ∧ w.heap.size ≤ lo from by have := Hc1.out.size; omega)
  have Hne := Lib.hid (show sb2 ≠ ob ∧ ob2 ≠ ob ∧ sb ≠ ob2 ∧ ob ≠ ob2 from by omega)
  have HO0 := Lib.hid (show One w3 lo sb ob W 0 [] ∧ One w3 lo sb2 ob2 W 0 (rotL l a 0) ∧ Ap w3 ob ob2 from ⟨⟨[], [], InvO.nil W, hst, Nat.le_refl _, HasO.nil W⟩, ⟨[], [], InvO.nil W, hst2, Nat.le_refl _, HasO.nil W⟩, fun k hk => absurd hk (hrw k)⟩)
  clear hst hc2 hsb hob hlo hz2 hrw HN hst2 hc3 hsb2 hob2 hz3 hrw2 hs2 ho2 H2
  go_wp2_with fail
  go_loopw [40] (fun i wr => ∃ (j : Nat), j ≤ n ∧ i = .int .i64 j ∧ One wr lo sb ob W j (l.take j) ∧ One wr lo sb2 ob2 W j (rotL l a j) ∧ Ap wr ob ob2 ∧ Chg NoB w wr) (fun i _ => n - (intOf i).toNat)
  case atStart => exact ⟨0, Nat.zero_le _, rfl, by rw [List.take_zero]; exact HO0.out.1, HO0.out.2.1, HO0.out.2.2, Hc3.out⟩
  case round =>
    obtain ⟨j, hj, rfl, hone, htwo, hap, hcw⟩ := hrel
    have Hone := Lib.hid hone
    have Htwo := Lib.hid htwo
    have Hap := Lib.hid hap
    have Hcw := Lib.hid hcw
    clear hone htwo hap hcw
    by_cases hlt : j < n
    · have hlt' : j < l.length := by rw [← Hn.out]; exact hlt
      have hm' : (j + a) % n < l.length := by rw [← Hn.out]; exact Nat.mod_lt _ (by omega)
      obtain ⟨rfl, -⟩ := H3.out (by intro e; rw [e] at hlt'; simp at hlt')
      have c0 := (Hs.out wr Hcw.out).at' j hlt'
      have hbl := Hrt.out _ (List.getElem_mem hlt')
      have Htk := Lib.hid (take_at hlt')
      generalize l[j] = b at *
      obtain ⟨os, ps, hi, hst, hol, hbo⟩ := Hone.out
      obtain ⟨os2, ps2, hi2, hst2, hol2, hbo2⟩ := Htwo.out
      have HP := Lib.hid (put_any os (by omega) b hbl lo sb ob W ps hi wr hst)
      have HO := Lib.hid (fun w' hc hr => other (w' := w') hst hst2 Hap.out Hne.out.1 Hne.out.2.1 hc hr)
      have HB := Lib.hid (hst.putB Hob.out.1 Hob.out.2.2)
      obtain ⟨r, hrr⟩ : ∃ r, r = tryF W os b := ⟨_, rfl⟩
      unfold PutC at HP
      rw [← hrr] at HP
      have Hrr := Lib.hid hrr
      have Hbo := Lib.hid hbo
      have Hbo2 := Lib.hid hbo2
      have Hi2 := Lib.hid hi2
      have Hol := Lib.hid (And.intro hol hol2)
      generalize putK W os b = pk at *
      clear hlt' hi hst hol hbo hrr hi2 hst2 hol2 hbo2 hbl
      go_wp2_with fail
      refine HP.out.mono ?_
      rintro e w4 ⟨rfl, hc4, hr4, ps4, hi4, hst4⟩
      obtain ⟨hsto, hap4⟩ := HO.out w4 hc4 hr4
      have Hc4 := Lib.hid (Hcw.out.above hc4 HB.out)
      have c1 := (Hs.out w4 Hc4.out).at' ((j + a) % n) hm'
      have hbl2 := Hrt.out _ (List.getElem_mem hm')
      have Hgd := Lib.hid (show l.getD ((j + a) % l.length) [] = l[(j + a) % n] by rw [← Hn.out, List.getD_eq_getElem?_getD, List.getElem?_eq_getElem hm']; rfl)
      generalize l[(j + a) % n] = b2 at *
      have HP2 := Lib.hid (put_any os2 (by have := Hol.out.2; omega) b2 hbl2 lo sb2 ob2 W ps2 Hi2.out w4 hsto)
      have HO2 := Lib.hid (fun w' hc hr => other (w' := w') hsto hst4 hap4.symm Hne.out.2.2.1 Hne.out.2.2.2 hc hr)
      have HB2 := Lib.hid (hsto.putB Hob.out.2.1 Hob.out.2.2)
      obtain ⟨r2, hrr2⟩ : ∃ r, r = tryF W os2 b2 := ⟨_, rfl⟩
      unfold PutC at HP2
      rw [← hrr2] at HP2
      have Hrr2 := Lib.hid hrr2
      have Hi4 := Lib.hid hi4
      generalize putK W os2 b2 = pk2 at *
      clear hc4 hr4 hi4 hst4 hsto hap4 hrr2 hbl2 HP c0 hm' HO
      have hM1 : ((j : Int) + (a : Int)) % (n : Int) < (n : Int) := Int.emod_lt_of_pos _ (by omega)
      have hM2 : 0 ≤ ((j : Int) + (a : Int)) % (n : Int) := Int.emod_nonneg _ (by omega)
      have hM3 : (((j : Int) + (a : Int)) % (n : Int)).toNat = (j + a) % n := by
        have e : ((j : Int) + (a : Int)) % (n : Int) = (((j + a) % n : Nat) : Int) := by simp
        rw [e]; exact Int.toNat_natCast _
      go_wp2_with fail
      refine HP2.out.mono ?_
      rintro e w5 ⟨rfl, hc5, hr5, ps5, hi5, hst5⟩
      obtain ⟨hsto5, hap5⟩ := HO2.out w5 hc5 hr5
      have hcl : r ≠ 72 → One w5 lo sb ob W (j + 1) (l.take (j + 1)) := fun h => ⟨_, ps4, Hi4.out, hsto5, Nat.le_trans (put_len_le W os b) (by have := Hol.out.1; omega), by rw [Htk.out]; exact Hbo.out.put (by rw [← Hrr.out]; exact h)⟩
      have hcl2 : r2 ≠ 72 → One w5 lo sb2 ob2 W (j + 1) (rotL l a (j + 1)) := fun h => ⟨_, ps5, hi5, hst5, Nat.le_trans (put_len_le W os2 b2) (by have := Hol.out.2; omega), by rw [rot_snoc, Hgd.out]; exact Hbo2.out.put (by rw [← Hrr2.out]; exact h)⟩
      have Hcl := Lib.hid (And.intro hcl (And.intro hcl2 hap5.symm))
      have Hc5 := Lib.hid (Hc4.out.above hc5 HB2.out)
      clear hcl hcl2 hc5 hr5 hi5 hst5 hsto5 hap5 HP2 HO2 c1 hM1 hM2 hM3
      by_cases h72 : r = 72
      · subst h72
        go_wp2_with fail
        go_ret
        exact ⟨rfl, Hc5.out⟩
      · have hb72 : (r == 72) = false := by rw [beq_eq_false_iff_ne]; exact h72
        by_cases h722 : r2 = 72
        · subst h722
          go_wp2_with fail
          go_ret
          exact ⟨rfl, Hc5.out⟩
        · have hb722 : (r2 == 72) = false := by rw [beq_eq_false_iff_ne]; exact h722
          go_wp2_with fail
          go_roundw
          case rel => exact ⟨j + 1, by omega, by go_num, Hcl.out.1 h72, Hcl.out.2.1 h722, Hcl.out.2.2, Hc5.out⟩
          case measure => simp [intOf]; omega
    · obtain rfl : j = n := by omega
      have hone := Hone.out
      have htwo := Htwo.out
      rw [Hn.out, List.take_of_length_le (Nat.le_refl _)] at hone
      rw [Hn.out] at htwo
      obtain ⟨os, ps, hi, hst, hol, hbo⟩ := hone
      obtain ⟨os2, ps2, hi2, hst2, hol2, hbo2⟩ := htwo
      rw [← Hn.out] at hol hol2
      have hp2 : ps.length ≤ 1048576 ∧ ps2.length ≤ 1048576 := by rw [hi.len, hi2.len]; omega
      have Hp2 := Lib.hid hp2
      have Hi := Lib.hid hi
      have Hi2 := Lib.hid hi2
      have Hst := Lib.hid hst
      have Hst2 := Lib.hid hst2
      have Hbo := Lib.hid hbo
      have Hbo2 := Lib.hid hbo2
      have Hrm := Lib.hid (fun b => rot_mem (l := l) (a := a) (b := b) (by rw [← Hn.out]; exact han))
      obtain ⟨wi, rfl⟩ : ∃ wi : World, wi = wr := ⟨_, rfl⟩
      clear hi hi2 hst hst2 hbo hbo2 hol hol2 hp2 hlt hj
      go_wp2_with fail
      go_loopw [75] (fun i wr => ∃ t : Nat, t ≤ j ∧ i = .int .i64 t ∧ Chg NoB wi wr) (fun i _ => j - (intOf i).toNat)
      case atStart => exact ⟨0, Nat.zero_le _, rfl, Chg.refl _ _⟩
      case round =>
        obtain ⟨t, ht, rfl, hcr⟩ := hrel
        have Hcr := Lib.hid hcr
        clear hcr
        by_cases hlt : t < j
        · have hlt' : t < l.length := by rw [← Hn.out]; exact hlt
          obtain ⟨rfl, -⟩ := H3.out (by intro e; rw [e] at hlt'; simp at hlt')
          have c0 := (Hs.out wr (Hcw.out.trans Hcr.out)).at' t hlt'
          have hin := List.getElem_mem hlt'
          have hbl := Hrt.out _ hin
          generalize l[t] = b at *
          have hbz : (tx b).size = b.length := tx_size b
          obtain ⟨bn, hbn⟩ : ∃ z, z = b.length := ⟨_, rfl⟩
          rw [← hbn] at hbz
          have Hbn := Lib.hid hbn
          have Hbl := Lib.hid hbl
          have Hin := Lib.hid hin
          have hbl2 : bn ≤ 140737488351232 := by rw [hbn]; exact hbl
          clear hbl hin hlt' hbn
          by_cases hlong : 65536 < bn
          · go_wp2_with fail
            go_roundw
            case rel => exact ⟨t + 1, by omega, by go_num, Hcr.out⟩
            case measure => simp [intOf]; omega
          · have hle : b.length ≤ 65536 := by rw [← Hbn.out]; omega
            have HG := Lib.hid (fun w' (h : Chg NoB wi w') => get_any ps Hp2.out.1 lo sb ob W (keyL W b) w' (Hst.out.keep h))
            have HG2 := Lib.hid (fun w' (h : Chg NoB wi w') => get_any ps2 Hp2.out.2 lo sb2 ob2 W (keyL W b) w' (Hst2.out.keep h))
            rw [Hi.out.get, Hi.out.has (Hbo.out.all b Hin.out hle)] at HG
            rw [Hi2.out.get, Hi2.out.has (Hbo2.out.all b ((Hrm.out b).2 Hin.out) hle)] at HG2
            have HK := Lib.hid (fun w' (h : Chg NoB wi w') => key_any b Hbl.out sb W _ w' (Hst.out.keep h).row)
            have HK2 := Lib.hid (fun w' (h : Chg NoB wi w') => key_any b Hbl.out sb2 W _ w' (Hst2.out.keep h).row)
            generalize keyL W b = kk at *
            have he := tx_beq b b
            rw [decide_eq_true rfl] at he
            clear hle
            go_wp2_with fail
            refine (HK.out _ Hcr.out).mono ?_
            rintro e w4 ⟨rfl, hc4⟩
            have Hc4 := Lib.hid (Hcr.out.trans hc4)
            clear hc4 c0
            go_wp2_with fail
            refine (HG.out _ Hc4.out).mono ?_
            rintro e w5 ⟨hc5, rfl⟩
            have Hc5 := Lib.hid (Hc4.out.trans hc5)
            clear hc5
            go_wp2_with fail
            refine (HK2.out _ Hc5.out).mono ?_
            rintro e w6 ⟨rfl, hc6⟩
            have Hc6 := Lib.hid (Hc5.out.trans hc6)
            clear hc6
            go_wp2_with fail
            refine (HG2.out _ Hc6.out).mono ?_
            rintro e w7 ⟨hc7, rfl⟩
            have Hc7 := Lib.hid (Hc6.out.trans hc7)
            clear hc7
            go_wp2_with fail
            go_roundw
            case rel => exact ⟨t + 1, by omega, by go_num, Hc7.out⟩
            case measure => simp [intOf]; omega
        · have HL := Lib.hid (len_any ps lo sb ob W wr (Hst.out.keep Hcr.out))
          have HL2 := Lib.hid (len_any ps2 lo sb2 ob2 W wr (Hst2.out.keep Hcr.out))
          rw [← same_len Hi.out Hi2.out Hbo.out Hbo2.out Hrm.out] at HL2
          generalize ps.length = pl at *
          go_wp2_with fail
          refine HL.out.mono ?_
          rintro e w' ⟨rfl, rfl⟩
          go_wp2_with fail
          refine HL2.out.mono ?_
          rintro e w' ⟨rfl, rfl⟩
          go_wp2_with fail
          go_ret
          exact ⟨by simp, Hcw.out.trans Hcr.out⟩
/-FRAME-/
set_option maxRecDepth 100000 in
theorem casOrders_lifted (os : Os) (started : os.Started) (H : Type) (enc : TypeId × Value → H) :
    ReturnsInHanded {} Try.checked os 6 .any (Rows.casOrdersSpec.pre6 enc Try.prog Try.f6 Rows.casOrdersRow.domain false) (Rows.casOrdersSpec.post enc Try.prog Try.f6 false true false false) := by
  refine returnsInHanded_of_change_sized (C := Try.checked) Try.own started (by kernel_rfl) Try.func6
    (ChangeSpec.witness6 (enc := enc) (C := Try.checked) false ⟨#[], #[.int .i64 0, .slice none 0 0, .int .i64 0], []⟩ 8 (by kernel_rfl) (by kernel_rfl) (by kernel_rfl) (by kernel_rfl)) ?_
  intro W base args ds gs before hval0 hW hcnd hsz0 _
  have hval : ∀ (j : Nat) t v, Try.f6.params[j]? = some t → args[j]? = some v → Value.okWide Try.prog W .any base t v := hval0
  have hW' := hW
  obtain ⟨p, q, hA0, hV, rfl, _, _⟩ := hW
  have hA : DataW.TrodAll enc Try.prog W 0 (fun _ => true) true Try.f6.params.toList args.toList ds p := hA0
  have hsz1 : (DataW.weightsEach Try.prog (Try.f6.params.toList ++ Rows.casOrdersSpec.plain.varTypes Try.prog) (ds ++ gs)).all (· ≤ reachBytes) = true := hsz0
  rw [Try.params6] at hA hval hsz1
  obtain ⟨v0, v1, v2, d0, d1, d2, p0, p1, p2, rfl, rfl, rfl, h0, h1, h2⟩ := trodAll_three hA
  obtain ⟨rfl, rfl⟩ := trodVars_none hV
  obtain ⟨x0, rfl, rfl, rfl, wx0⟩ := open_int Try.underlying3 (hval 0 3 v0 rfl rfl) h0
  obtain ⟨l1, kb1, ko1, hn1, hr1⟩ := open_texts (hval 1 22 v1 rfl rfl) h1 (fun m hm => of_decide_eq_true (List.all_eq_true.1 hsz1 m (DataW.weights_mem_each (j := 1) (t := 22) (d := d1) rfl rfl m hm)))
  obtain ⟨x2, rfl, rfl, rfl, wx2⟩ := open_int Try.underlying3 (hval 2 3 v2 rfl rfl) h2
  clear hA0 hval0 hsz0
  refine (casOrders_all x0 l1 _ kb1 ko1 x2 W wx0 hn1 hr1 wx2 ).mono fun e W' ⟨he, hb⟩ => ?_
  subst he
  exact ⟨_, rfl, _, _, _, [], _, [], hW', trodAll_mk1 (shut_bool Try.underlying4 _), (trodAll_cons_mk (shut_int Try.underlying3 wx0) (trodAll_cons_mk (texts_stay h1 hb.below) (trodAll_cons_mk (shut_int Try.underlying3 wx2) trodAll_mk0))), rfl, hb.below.frame _, fun h => by cases h⟩
theorem casOrders_holds : Rows.CasOrdersSaid :=
  OpenClaim.holds_of_wide 6 Try.f6 rfl rfl rfl rfl rfl rfl rfl ⟨rfl, rfl, rfl, rfl, rfl⟩ rfl rfl rfl rfl rfl (by kernel_rfl) Try.func6 (by kernel_rfl)
    (of_decide_eq_true (by kernel_rfl)) (by unfold Func.isWrapper; first | (rw [if_pos (by decide +kernel)]; kernel_rfl) | (rw [if_neg (by decide +kernel)]; exact ⟨rfl, rfl⟩))
    (fun os started H enc _ => casOrders_lifted os started H enc)
#print axioms casOrders_holds
end Go.Proofs.Ytbloglfmhhgccaa
