/- The contracts of isKey, rising, the search for a bad input, Good, of the program and of the document. Condition: texts of at most 2^16 bytes. -/
import Derived.Test.YtnipiphhkcafhaaGreatDoorDvMem
import Derived.Test.YtnipiphhkcafhaaGreatDoorMixAll
import Derived.Test.YtnipiphhkcafhaaGreatDoorVerLow
import Derived.Deep.QuietTactic
import Derived.BigQuiet
import Derived.IntWalk
import Derived.Laws.Cover1
namespace Go.Proofs.YtnipiphhkcafhaaGreatDoor
set_option linter.unusedVariables false
open Go.ChangeShapes Go.WideShapes Go.ChangeAt Go.RowKit
theorem pname_any (l : List UInt8) (w : World) (hl : l.length ≤ 65536) : Calls Tryz.prog 24 #[.string (tx l)] w (SayB (Pth.nameL l) w) := by
  have h := Pth.name_any (tx l) w (by rw [tx_size]; exact hl)
  rw [tx_list] at h
  exact h.mono fun e w' ⟨he, hg⟩ => ⟨he, chg_of_below hg⟩
theorem pnameR_any (l : List UInt8) (w : World) (hl : l.length ≤ 65536) : Calls Tryz.prog 36 #[.string (tx l)] w (SayB (Pth.nameL l) w) := by
  have h := Pth.nameR_any (tx l) w (by rw [tx_size]; exact hl)
  rw [tx_list] at h
  exact h.mono fun e w' ⟨he, hg⟩ => ⟨he, chg_of_below hg⟩
theorem vgood_any (a b c : Int) (w : World) : Calls Tryz.prog 25 #[.agg #[.int .i64 a, .int .i64 b, .int .i64 c]] w (SayB (Ver.goodB a b c) w) :=
  (Ver.good_any a b c w).mono fun e w' ⟨he, hg⟩ => ⟨he, chg_of_below hg⟩
theorem vgoodR_any (a b c : Int) (w : World) : Calls Tryz.prog 33 #[.agg #[.int .i64 a, .int .i64 b, .int .i64 c]] w (SayB (Ver.goodB a b c) w) :=
  (Ver.goodR_any a b c w).mono fun e w' ⟨he, hg⟩ => ⟨he, chg_of_below hg⟩
set_option maxHeartbeats 1000000 in
theorem isKey_any (l : List UInt8) (w : World) (hl : l.length ≤ 65536) : Calls Tryz.prog 26 #[.string (tx l)] w (SayB (keyB l) w) := by
  have hp := Mix.parse_any (tx l) w (by rw [tx_size]; unfold maxLen; omega)
  rw [tx_list] at hp
  unfold Mix.DoneP at hp
  have Hp := Lib.hid hp
  unfold keyB
  generalize Mix.parseV l = pv at *
  generalize Mix.parseB l = pb at *
  clear hp
  go_enter Tryz.func26, Tryz.ntmps26
  go_wp2_with fail
  refine Hp.out.mono ?_
  rintro e w1 ⟨rfl, hg⟩
  have Hc := Lib.hid (chg_of_below hg)
  clear hg
  go_wp2_with fail
  go_ret
  exact ⟨rfl, Hc.out⟩
set_option maxHeartbeats 1000000 in
theorem key_any (l : List UInt8) (w : World) (hl : l.length ≤ 65536) : Calls Tryz.prog 35 #[.string (tx l)] w (SayB (keyB l) w) := by
  have hp := Mix.parseR_any (tx l) w (by rw [tx_size]; unfold maxLen; omega)
  rw [tx_list] at hp
  unfold Mix.DoneP at hp
  have Hp := Lib.hid hp
  unfold keyB
  generalize Mix.parseV l = pv at *
  generalize Mix.parseB l = pb at *
  clear hp
  go_enter Tryz.func35, Tryz.ntmps35
  go_wp2_with fail
  refine Hp.out.mono ?_
  rintro e w1 ⟨rfl, hg⟩
  have Hc := Lib.hid (chg_of_below hg)
  clear hg
  go_wp2_with fail
  go_ret
  exact ⟨rfl, Hc.out⟩
/- one input: a bad one? -/
set_option maxHeartbeats 1000000 in
theorem good1_any (x : InL) (w : World) (h1 : x.1.length ≤ 65536) (h2 : x.2.length ≤ 65536) : Calls Tryz.prog 29 #[.agg #[.string (tx x.1), .string (tx x.2)]] w (SayB (!okI x) w) := by
  obtain ⟨x, y⟩ := x
  simp only at h1 h2 ⊢
  have hal := (Chg.refl NoB w).alloc (.cells #[.string (tx x), .string (tx y)] 48)
  have hb := heap_alloc_new w (.cells #[.string (tx x), .string (tx y)] 48)
  obtain ⟨f0, f1⟩ := var2 hb
  have Hal := Lib.hid hal
  have Hb := Lib.hid hb
  have Hn := fun w' => pname_any x w' h1
  have Hk := fun w' => isKey_any y w' h2
  have HN := Lib.hid Hn
  have HK := Lib.hid Hk
  unfold okI
  simp only
  generalize Pth.nameL x = a at *
  generalize keyB y = b at *
  clear hal hb Hn Hk
  go_enter Tryz.func29, Tryz.ntmps29
  go_wp2_with fail
  refine (HN.out _).mono ?_
  rintro e w1 ⟨rfl, hc⟩
  have Hc := Lib.hid (Hal.out.trans hc)
  obtain ⟨g0, g1⟩ := var2 (row_kept hc Hb.out id)
  clear hc f0 f1
  cases a with
  | false =>
    go_wp2_with fail
    go_ret
    exact ⟨rfl, Hc.out⟩
  | true =>
    go_wp2_with fail
    refine (HK.out _).mono ?_
    rintro e w2 ⟨rfl, hc⟩
    have Hc2 := Lib.hid (Hc.out.trans hc)
    clear hc
    go_wp2_with fail
    go_ret
    exact ⟨by cases b <;> rfl, Hc2.out⟩
noncomputable def badF (xs : List InL) : Option Nat := xs.findIdx? (fun x => !okI x)
def badI : Option Nat → Int
  | none => -1
  | some k => k
theorem bad_none {xs : List InL} (h : ∀ i (hi : i < xs.length), okI xs[i] = true) : badF xs = none := by
  unfold badF
  rw [List.findIdx?_eq_none_iff]
  intro x hx
  obtain ⟨i, hi, rfl⟩ := List.getElem_of_mem hx
  rw [h i hi]; rfl
theorem bad_some {xs : List InL} {k : Nat} (hk : k < xs.length) (h1 : okI xs[k] = false) (h : ∀ i (hi : i < k), okI (xs[i]'(Nat.lt_trans hi hk)) = true) : badF xs = some k := by
  unfold badF
  rw [List.findIdx?_eq_some_iff_getElem]
  refine ⟨hk, by rw [h1]; rfl, fun j hj => ?_⟩
  rw [h j hj]; simp
theorem bad_iff (xs : List InL) : decide (0 ≤ badI (badF xs)) = false ↔ ∀ i (hi : i < xs.length), okI xs[i] = true := by
  constructor
  · intro h i hi
    cases hb : badF xs with
    | some k => rw [hb] at h; simp [badI] at h
    | none =>
      unfold badF at hb
      rw [List.findIdx?_eq_none_iff] at hb
      have := hb _ (List.getElem_mem hi)
      simpa using this
  · intro h
    rw [bad_none h]
    rfl
set_option maxHeartbeats 1000000 in
theorem indexInp_any (xs : List InL) (S : Nat → Prop) (v : Value) (kb ko : Nat) (w : World) (hl : xs.length ≤ 65536) (hw : ∀ i (hi : i < xs.length), xs[i].1.length ≤ 65536 ∧ xs[i].2.length ≤ 65536) (hs : InpS w S v xs kb ko) :
    Calls Tryz.prog 52 #[v, .func (.func 29) #[] #[]] w fun e w' => e = .returned (.int .i64 (badI (badF xs))) ∧ Chg NoB w w' := by
  obtain ⟨r, hr⟩ : ∃ r, r = badI (badF xs) := ⟨_, rfl⟩
  rw [← hr]
  have Hr := Lib.hid hr
  clear hr
  obtain ⟨⟨a, cap, rfl, h1, h2, h3⟩, hat⟩ := hs
  obtain ⟨pl, hpl⟩ : ∃ pl, pl = xs.length := ⟨_, rfl⟩
  rw [← hpl] at h1 hl ⊢
  have H3 := Lib.hid h3
  have Hat := Lib.hid hat
  have Hpl := Lib.hid hpl
  have Hw := Lib.hid hw
  unfold maxLen at h2
  clear h3 hat hpl hw
  go_enter Tryz.func52, Tryz.ntmps52
  go_wp2_with fail
  go_loopw [5, 8] (fun _ i wr => ∃ k : Nat, k ≤ pl ∧ i = .int .i64 k ∧ (∀ j (hj : j < xs.length), j < k → okI xs[j] = true) ∧ Chg NoB w wr) (fun _ i _ => pl - (intOf i).toNat)
  case atStart => exact ⟨0, Nat.zero_le _, rfl, fun j _ hj => absurd hj (Nat.not_lt_zero _), Chg.refl _ _⟩
  case round =>
    obtain ⟨k, hk, rfl, hno, hch⟩ := hrel
    have Hno := Lib.hid hno
    have Hch := Lib.hid hch
    clear hno hch
    by_cases hlt : k < pl
    · have hlt' : k < xs.length := by rw [← Hpl.out]; exact hlt
      obtain ⟨rfl, -⟩ := H3.out (by rintro rfl; simp at hlt')
      obtain ⟨c0, c1⟩ := Hat.out k hlt'
      have c0 := Hch.out.keep c0
      have c1 := Hch.out.keep c1
      have hwx := Hw.out k hlt'
      have Hyes : Hid (okI xs[k] = false → badF xs = some k) := Lib.hid fun h => bad_some hlt' h fun i hi => Hno.out i _ hi
      have Hgo : Hid (okI xs[k] = true → ∀ j (hj : j < xs.length), j < k + 1 → okI xs[j] = true) := Lib.hid fun h j hj hjk => by
        by_cases e : j = k
        · subst e; exact h
        · exact Hno.out j hj (by omega)
      generalize xs[k] = x at *
      have Hc := Lib.hid (good1_any x wr hwx.1 hwx.2)
      obtain ⟨x0, x1⟩ := x
      simp only at c0 c1 Hc
      obtain ⟨b, hb⟩ : ∃ b, b = okI (x0, x1) := ⟨_, rfl⟩
      rw [← hb] at Hc Hyes Hgo
      clear hwx hb
      go_wp2_with fail
      refine Hc.out.mono ?_
      rintro e w1 ⟨rfl, hc1⟩
      have Hc1 := Lib.hid (Hch.out.trans hc1)
      clear hc1 c0 c1 Hc
      cases b with
      | false =>
        have hrk : r = (k : Int) := by rw [Hr.out, Hyes.out rfl]; rfl
        have Hrk := Lib.hid hrk
        clear hrk
        go_wp2_with fail
        go_ret
        exact ⟨congrArg (fun x => Ending.returned (Value.int .i64 x)) Hrk.out.symm, Hc1.out⟩
      | true =>
        have Hg := Lib.hid (Hgo.out rfl)
        clear Hgo Hyes
        go_wp2_with fail
        go_roundw
        case rel => exact ⟨k + 1, by omega, by go_num, Hg.out, Hc1.out⟩
        case measure => simp [intOf]; omega
    · obtain rfl : k = pl := by omega
      have hrk : r = -1 := by rw [Hr.out, bad_none fun i hi => Hno.out i hi (by rw [Hpl.out]; exact hi)]; rfl
      have Hrk := Lib.hid hrk
      clear hrk
      go_wp2_with fail
      go_ret
      exact ⟨congrArg (fun x => Ending.returned (Value.int .i64 x)) Hrk.out.symm, Hch.out⟩
set_option maxHeartbeats 1000000 in
theorem containsInp_any (xs : List InL) (S : Nat → Prop) (v : Value) (kb ko : Nat) (w : World) (hl : xs.length ≤ 65536) (hw : ∀ i (hi : i < xs.length), xs[i].1.length ≤ 65536 ∧ xs[i].2.length ≤ 65536) (hs : InpS w S v xs kb ko) :
    Calls Tryz.prog 28 #[v, .func (.func 29) #[] #[]] w (SayB (decide (0 ≤ badI (badF xs))) w) := by
  have Hi := Lib.hid (indexInp_any xs S v kb ko w hl hw hs)
  obtain ⟨⟨a, cap, rfl, -, -, -⟩, -⟩ := hs
  obtain ⟨pl, hpl⟩ : ∃ pl, pl = xs.length := ⟨_, rfl⟩
  rw [← hpl] at Hi ⊢
  clear hpl hw
  generalize badI (badF xs) = r at *
  go_enter Tryz.func28, Tryz.ntmps28
  go_wp2_with fail
  refine Hi.out.mono ?_
  rintro e w1 ⟨rfl, hc⟩
  go_wp2_with fail
  go_ret
  exact ⟨rfl, hc⟩
/- names that rise -/
def risesI (xs : List InL) : Prop := ∀ i (h : i + 1 < xs.length), leqL xs[i + 1].1 xs[i].1 = false
theorem leq_tx (x y : List UInt8) : (Op.bytesLess (tx y).toList (tx x).toList || (tx y).toList == (tx x).toList) = leqL y x := by
  unfold leqL
  rw [Lib.toList_data, Lib.toList_data, tx_list, tx_list]
set_option maxHeartbeats 1000000 in
theorem rising_any (xs : List InL) (S : Nat → Prop) (v : Value) (kb ko : Nat) (w : World) (hl : xs.length ≤ 65536) (hs : InpS w S v xs kb ko) :
    Calls Tryz.prog 27 #[v] w fun e w' => (∃ b : Bool, e = .returned (.bool b) ∧ (b = true ↔ risesI xs)) ∧ Chg NoB w w' := by
  obtain ⟨⟨a, cap, rfl, h1, h2, h3⟩, hat⟩ := hs
  obtain ⟨pl, hpl⟩ : ∃ pl, pl = xs.length := ⟨_, rfl⟩
  rw [← hpl] at h1 hl ⊢
  have H3 := Lib.hid h3
  have Hat := Lib.hid hat
  have Hpl := Lib.hid hpl
  unfold maxLen at h2
  clear h3 hat hpl
  go_enter Tryz.func27, Tryz.ntmps27
  go_wp2_with fail
  go_loopw [6] (fun i wr => ∃ k : Nat, k ≤ pl ∧ i = .int .i64 k ∧ (∀ j (hj : j + 1 < xs.length), j + 1 < k → leqL xs[j + 1].1 xs[j].1 = false) ∧ Chg NoB w wr) (fun i _ => pl - (intOf i).toNat)
  case atStart => exact ⟨0, Nat.zero_le _, rfl, fun j _ hj => absurd hj (Nat.not_lt_zero _), Chg.refl _ _⟩
  case round =>
    obtain ⟨k, hk, rfl, hno, hch⟩ := hrel
    have Hno := Lib.hid hno
    have Hch := Lib.hid hch
    clear hno hch
    by_cases hlt : k < pl
    · have hlt' : k < xs.length := by rw [← Hpl.out]; exact hlt
      obtain ⟨rfl, -⟩ := H3.out (by rintro rfl; simp at hlt')
      by_cases hk0 : k = 0
      · subst hk0
        go_wp2_with fail
        go_quiet (fail)
        go_wp2_with fail
        go_roundw
        case rel => exact ⟨1, by omega, rfl, fun j _ hj => by omega, Hch.out.drewN _⟩
        case measure => simp [intOf]; omega
      · obtain ⟨m, hm⟩ : ∃ m, k = m + 1 := ⟨k - 1, by omega⟩
        have hml : m < xs.length := by omega
        obtain ⟨c0, -⟩ := Hat.out k hlt'
        obtain ⟨p0, -⟩ := Hat.out m hml
        have c0 := Hch.out.keep c0
        have p0 := Hch.out.keep p0
        obtain ⟨y, hy⟩ : ∃ y, y = xs[k].1 := ⟨_, rfl⟩
        obtain ⟨x, hx⟩ : ∃ x, x = xs[m].1 := ⟨_, rfl⟩
        rw [← hy] at c0
        rw [← hx] at p0
        have hleq := leq_tx x y
        obtain ⟨b, hb⟩ : ∃ b, b = leqL y x := ⟨_, rfl⟩
        rw [← hb] at hleq
        have Hb := Lib.hid hb
        have Hy := Lib.hid hy
        have Hx := Lib.hid hx
        have hk1 : decide (0 < k) = true := by simp; omega
        have hk2 : (k : Int) < (pl : Int) := by omega
        have hk3 : (m : Int) < (pl : Int) := by omega
        have hw1 : IntKind.i64.wrap ((k : Int) - 1) = (m : Int) := by rw [hm]; push_cast; rw [Int.add_sub_cancel]; exact IntWalk.i64_in _ (by omega)
        have hm2 : m < pl := by omega
        have Hm := Lib.hid hm
        clear hb hy hx hm hk0
        cases b with
        | false =>
          go_wp2_with fail
          go_quiet (fail)
          go_wp2_with fail
          go_roundw
          case rel =>
            refine ⟨k + 1, by omega, by go_num, fun j hj hjk => ?_, Hch.out.drewN _⟩
            by_cases e : j = m
            · subst e
              have e2 := Hy.out
              simp only [Hm.out] at e2
              rw [← e2, ← Hx.out, ← Hb.out]
            · exact Hno.out j hj (by have := Hm.out; omega)
          case measure => simp [intOf]; omega
        | true =>
          go_wp2_with fail
          go_quiet (fail)
          go_wp2_with fail
          go_ret
          refine ⟨⟨false, rfl, ?_⟩, Hch.out.drewN _⟩
          have hn : ¬ risesI xs := fun h => by
            have h2 := h m (by rw [← Hm.out]; exact hlt')
            have e2 := Hy.out
            simp only [Hm.out] at e2
            rw [← e2, ← Hx.out, ← Hb.out] at h2
            cases h2
          simp [hn]
    · have hpk : k = pl := by omega
      go_wp2_with fail
      go_ret
      refine ⟨⟨true, rfl, ?_⟩, Hch.out⟩
      have hn : risesI xs := fun i hi => Hno.out i hi (by have := Hpl.out; omega)
      simp [hn]
/- Good, of the program -/
set_option maxHeartbeats 2000000 in
set_option maxRecDepth 20000 in
theorem dgood_any (d : DrvL) (hw : d.wf) (S : Nat → Prop) (v : Value) (w : World) (hv : DrvV w S v d) : Calls Tryz.prog 11 #[v] w (SayB (goodD d) w) := by
  obtain ⟨s, kb, ko, rfl, hs⟩ := hv
  have Hs := Lib.hid hs
  obtain ⟨⟨q, c, rfl, h1, h2, h3⟩, hat⟩ := hs
  obtain ⟨r, hr⟩ : ∃ r, r = goodD d := ⟨_, rfl⟩
  rw [← hr]
  have hiff := goodD_iff d
  rw [← hr] at hiff
  have Hiff := Lib.hid hiff
  have HN := Lib.hid (fun w' => pname_any d.name w' hw.name)
  have HV := Lib.hid (fun w' => vgood_any d.a d.b d.c w')
  have HK := Lib.hid (fun w' => isKey_any d.tool w' hw.tool)
  have HR := Lib.hid (fun w' (h : Chg NoB w w') => rising_any d.ins S _ kb ko w' hw.len (Hs.out.keep h fun _ _ => id))
  have HC := Lib.hid (fun w' (h : Chg NoB w w') => containsInp_any d.ins S _ kb ko w' hw.len hw.ins (Hs.out.keep h fun _ _ => id))
  have Hbad := Lib.hid (bad_iff d.ins)
  have hlen := hw.len
  obtain ⟨len, hle⟩ : ∃ l, l = d.ins.length := ⟨_, rfl⟩
  rw [← hle] at HR HC Hs hlen h1 ⊢
  have Hlen := Lib.hid hle
  obtain ⟨bn, hbn⟩ : ∃ b, b = Pth.nameL d.name := ⟨_, rfl⟩
  obtain ⟨bv, hbv⟩ : ∃ b, b = Ver.goodB d.a d.b d.c := ⟨_, rfl⟩
  obtain ⟨bk, hbk⟩ : ∃ b, b = keyB d.tool := ⟨_, rfl⟩
  obtain ⟨bc, hbc⟩ : ∃ b, b = decide (0 ≤ badI (badF d.ins)) := ⟨_, rfl⟩
  rw [← hbn] at HN
  rw [← hbv] at HV
  rw [← hbk] at HK
  rw [← hbc] at HC Hbad
  have Hbn := Lib.hid hbn
  have Hbv := Lib.hid hbv
  have Hbk := Lib.hid hbk
  have hal := (Chg.refl NoB w).alloc (.cells (drvC d (.slice q len c)) 29)
  have hb := heap_alloc_new w (.cells (drvC d (.slice q len c)) 29)
  unfold drvC at *
  obtain ⟨vb, hvb⟩ : ∃ b, b = w.heap.size := ⟨_, rfl⟩
  rw [← hvb] at hb
  have Hvb := Lib.hid hvb
  generalize hnm : d.name = name at *
  generalize htl : d.tool = tool at *
  generalize hda : d.a = da at *
  generalize hdb : d.b = db at *
  generalize hdc : d.c = dc at *
  obtain ⟨w1, hw1⟩ : ∃ w1, w.alloc (.cells #[.string (tx name), .int .i64 da, .int .i64 db, .int .i64 dc, .string (tx tool), .slice q len c] 29) = w1 := ⟨_, rfl⟩
  rw [hw1] at hal hb
  have Hw1 := Lib.hid hw1
  have Hal := Lib.hid hal
  have Hb := Lib.hid hb
  obtain ⟨f0, f1, f2, f3, f4, f5⟩ := var6 hb
  clear hiff hr hle hbn hbv hbk hbc hal hb hvb hw1 hnm htl hda hdb hdc hat h3 hw
  go_enter Tryz.func11, Tryz.ntmps11
  go_upto_region 1 with fail
  rw [Hw1.out, ← Hvb.out]
  go_wp2_with fail
  refine (HN.out _).mono ?_
  rintro e w2 ⟨rfl, hc2⟩
  have Hc2 := Lib.hid (Hal.out.trans hc2)
  have hb2 := row_kept hc2 Hb.out id
  have Hb2 := Lib.hid hb2
  clear f0 f1 f2 f3 f4 f5 hc2
  obtain ⟨f0, f1, f2, f3, f4, f5⟩ := var6 hb2
  clear hb2
  cases bn with
  | false =>
    have hr : r = false := by
      cases r with
      | false => rfl
      | true => have := (Hiff.out.1 rfl).1; rw [← Hbn.out] at this; cases this
    subst hr
    go_wp2_with fail
    go_ret
    exact ⟨rfl, Hc2.out⟩
  | true =>
    go_wp2_with fail
    refine (HV.out _).mono ?_
    rintro e w3 ⟨rfl, hc3⟩
    have Hc3 := Lib.hid (Hc2.out.trans hc3)
    have hb3 := row_kept hc3 Hb2.out id
    have Hb3 := Lib.hid hb3
    clear f0 f1 f2 f3 f4 f5 hc3
    obtain ⟨f0, f1, f2, f3, f4, f5⟩ := var6 hb3
    clear hb3
    cases bv with
    | false =>
      have hr : r = false := by
        cases r with
        | false => rfl
        | true => have := (Hiff.out.1 rfl).2.1; rw [← Hbv.out] at this; cases this
      subst hr
      go_wp2_with fail
      go_ret
      exact ⟨rfl, Hc3.out⟩
    | true =>
      go_wp2_with fail
      refine (HK.out _).mono ?_
      rintro e w4 ⟨rfl, hc4⟩
      have Hc4 := Lib.hid (Hc3.out.trans hc4)
      have hb4 := row_kept hc4 Hb3.out id
      have Hb4 := Lib.hid hb4
      clear f0 f1 f2 f3 f4 f5 hc4
      obtain ⟨f0, f1, f2, f3, f4, f5⟩ := var6 hb4
      clear hb4
      cases bk with
      | false =>
        have hr : r = false := by
          cases r with
          | false => rfl
          | true => have := (Hiff.out.1 rfl).2.2.1; rw [← Hbk.out] at this; cases this
        subst hr
        go_wp2_with fail
        go_ret
        exact ⟨rfl, Hc4.out⟩
      | true =>
        by_cases h40 : 40 < len
        · have hr : r = false := by
            cases r with
            | false => rfl
            | true => have := (Hiff.out.1 rfl).2.2.2.1; rw [← Hlen.out] at this; omega
          subst hr
          go_wp2_with fail
          go_ret
          exact ⟨rfl, Hc4.out⟩
        · go_wp2_with fail
          refine (HR.out _ Hc4.out).mono ?_
          rintro e w5 ⟨⟨br, rfl, hbr⟩, hc5⟩
          have Hbr := Lib.hid hbr
          have Hc5 := Lib.hid (Hc4.out.trans hc5)
          have hb5 := row_kept hc5 Hb4.out id
          clear f0 f1 f2 f3 f4 f5 hc5 hbr
          obtain ⟨f0, f1, f2, f3, f4, f5⟩ := var6 hb5
          clear hb5
          cases br with
          | false =>
            have hr : r = false := by
              cases r with
              | false => rfl
              | true => have := Hbr.out.2 (Hiff.out.1 rfl).2.2.2.2.1; cases this
            subst hr
            go_wp2_with fail
            go_ret
            exact ⟨rfl, Hc5.out⟩
          | true =>
            go_wp2_with fail
            refine (HC.out _ Hc5.out).mono ?_
            rintro e w6 ⟨rfl, hc6⟩
            have Hc6 := Lib.hid (Hc5.out.trans hc6)
            have hr : r = !bc := by
              cases bc with
              | false => exact Hiff.out.2 ⟨Hbn.out.symm, Hbv.out.symm, Hbk.out.symm, by rw [← Hlen.out]; omega, by first | exact Hbr.out.1 rfl | exact Hbr.out.1 trivial, by first | exact Hbad.out.1 rfl | exact Hbad.out.1 trivial⟩
              | true =>
                cases r with
                | false => rfl
                | true => have := Hbad.out.2 (Hiff.out.1 rfl).2.2.2.2.2; cases this
            subst hr
            clear hc6
            go_wp2_with fail
            go_ret
            exact ⟨rfl, Hc6.out⟩
/- Good, of the document -/
set_option maxHeartbeats 1000000 in
theorem pkg_any (n : List UInt8) (a b c : Int) (w : World) (hl : n.length ≤ 65536) : Calls Tryz.prog 34 #[.agg #[.string (tx n), .int .i64 a, .int .i64 b, .int .i64 c]] w (SayB (Pth.nameL n && Ver.goodB a b c) w) := by
  have hal := (Chg.refl NoB w).alloc (.cells #[.string (tx n), .int .i64 a, .int .i64 b, .int .i64 c] 26)
  have hb := heap_alloc_new w (.cells #[.string (tx n), .int .i64 a, .int .i64 b, .int .i64 c] 26)
  obtain ⟨f0, f1, f2, f3⟩ := var4 hb
  have Hal := Lib.hid hal
  have Hb := Lib.hid hb
  have HN := Lib.hid (fun w' => pnameR_any n w' hl)
  have HV := Lib.hid (fun w' => vgoodR_any a b c w')
  generalize Pth.nameL n = bn at *
  generalize Ver.goodB a b c = bv at *
  clear hal hb
  go_enter Tryz.func34, Tryz.ntmps34
  go_wp2_with fail
  refine (HN.out _).mono ?_
  rintro e w1 ⟨rfl, hc⟩
  have Hc := Lib.hid (Hal.out.trans hc)
  obtain ⟨g0, g1, g2, g3⟩ := var4 (row_kept hc Hb.out id)
  clear hc f0 f1 f2 f3
  cases bn with
  | false =>
    go_wp2_with fail
    go_ret
    exact ⟨rfl, Hc.out⟩
  | true =>
    go_wp2_with fail
    refine (HV.out _).mono ?_
    rintro e w2 ⟨rfl, hc⟩
    have Hc2 := Lib.hid (Hc.out.trans hc)
    clear hc
    go_wp2_with fail
    go_ret
    exact ⟨by cases bv <;> rfl, Hc2.out⟩
theorem goodD_bad {d : DrvL} {k : Nat} (hk : k < d.ins.length) (h : okI d.ins[k] = false) : goodD d = false := by
  cases hg : goodD d with
  | false => rfl
  | true => have := ((goodD_iff d).1 hg).2.2.2.2.2 k hk; rw [h] at this; cases this
theorem goodD_fall {d : DrvL} {k : Nat} (hk : k + 1 < d.ins.length) (h : leqL d.ins[k + 1].1 d.ins[k].1 = true) : goodD d = false := by
  cases hg : goodD d with
  | false => rfl
  | true => have := ((goodD_iff d).1 hg).2.2.2.2.1 k hk; rw [h] at this; cases this
def lastF (xs : List InL) (k : Nat) : List UInt8 := if k = 0 then [] else ((xs[k - 1]?).map (·.1)).getD []
theorem last_next {xs : List InL} {k : Nat} (h : k < xs.length) : lastF xs (k + 1) = xs[k].1 := by
  unfold lastF
  rw [if_neg (by omega), Nat.add_sub_cancel, List.getElem?_eq_getElem h]
  rfl
theorem last_leq {d : DrvL} {k : Nat} (hk : k < d.ins.length) (hn : Pth.nameL d.ins[k].1 = true) (h : leqL d.ins[k].1 (lastF d.ins k) = true) : goodD d = false := by
  cases k with
  | zero =>
    have : lastF d.ins 0 = [] := rfl
    rw [this, leq_nil hn] at h
    cases h
  | succ k =>
    rw [last_next (by omega)] at h
    exact goodD_fall hk h
set_option maxHeartbeats 2000000 in
set_option maxRecDepth 20000 in
theorem refGood_any (d : DrvL) (hw : d.wf) (S : Nat → Prop) (v : Value) (w : World) (hv : DrvV w S v d) : Calls Tryz.prog 14 #[v] w (SayB (goodD d) w) := by
  obtain ⟨s, kb, ko, rfl, hs⟩ := hv
  have Hs := Lib.hid hs
  obtain ⟨⟨q, c, rfl, h1, h2, h3⟩, hat⟩ := hs
  obtain ⟨r, hr⟩ : ∃ r, r = goodD d := ⟨_, rfl⟩
  rw [← hr]
  have Hr := Lib.hid hr
  have Hiff := Lib.hid (goodD_iff d)
  have HP := Lib.hid (fun w' => pkg_any d.name d.a d.b d.c w' hw.name)
  have HK := Lib.hid (fun w' => key_any d.tool w' hw.tool)
  have HI := Lib.hid (fun i hi w' => pnameR_any d.ins[i].1 w' (hw.ins i hi).1)
  have HJ := Lib.hid (fun i hi w' => key_any d.ins[i].2 w' (hw.ins i hi).2)
  have hlen := hw.len
  obtain ⟨len, hle⟩ : ∃ l, l = d.ins.length := ⟨_, rfl⟩
  rw [← hle] at Hs hlen h1 ⊢
  have Hlen := Lib.hid hle
  have Hat := Lib.hid hat
  have H3 := Lib.hid h3
  unfold maxLen at h2
  obtain ⟨bn, hbn⟩ : ∃ b, b = (Pth.nameL d.name && Ver.goodB d.a d.b d.c) := ⟨_, rfl⟩
  obtain ⟨bk, hbk⟩ : ∃ b, b = keyB d.tool := ⟨_, rfl⟩
  rw [← hbn] at HP
  rw [← hbk] at HK
  have Hbn := Lib.hid hbn
  have Hbk := Lib.hid hbk
  have hal := (Chg.refl NoB w).alloc (.cells (drvC d (.slice q len c)) 29)
  have hb := heap_alloc_new w (.cells (drvC d (.slice q len c)) 29)
  unfold drvC at *
  obtain ⟨vb, hvb⟩ : ∃ b, b = w.heap.size := ⟨_, rfl⟩
  rw [← hvb] at hb
  have Hvb := Lib.hid hvb
  generalize hnm : d.name = name at *
  generalize htl : d.tool = tool at *
  generalize hda : d.a = da at *
  generalize hdb : d.b = db at *
  generalize hdc : d.c = dc at *
  obtain ⟨w1, hw1⟩ : ∃ w1, w.alloc (.cells #[.string (tx name), .int .i64 da, .int .i64 db, .int .i64 dc, .string (tx tool), .slice q len c] 29) = w1 := ⟨_, rfl⟩
  rw [hw1] at hal hb
  have Hw1 := Lib.hid hw1
  have Hal := Lib.hid hal
  have Hb := Lib.hid hb
  obtain ⟨f0, f1, f2, f3, f4, f5⟩ := var6 hb
  clear hr hle hbn hbk hal hb hvb hw1 hnm htl hda hdb hdc hat h3 hw
  go_enter Tryz.func14, Tryz.ntmps14
  go_upto_region 1 with fail
  rw [Hw1.out, ← Hvb.out]
  go_wp2_with fail
  refine (HP.out _).mono ?_
  rintro e w2 ⟨rfl, hc2⟩
  have Hc2 := Lib.hid (Hal.out.trans hc2)
  have hb2 := row_kept hc2 Hb.out id
  have Hb2 := Lib.hid hb2
  clear f0 f1 f2 f3 f4 f5 hc2
  obtain ⟨f0, f1, f2, f3, f4, f5⟩ := var6 hb2
  clear hb2
  cases bn with
  | false =>
    have hr : r = false := by
      rw [Hr.out]
      cases hg : goodD d with
      | false => rfl
      | true => have := Hiff.out.1 hg; rw [this.1, this.2.1] at Hbn; have := Hbn.out; cases this
    subst hr
    go_wp2_with fail
    go_ret
    exact ⟨rfl, Hc2.out⟩
  | true =>
    go_wp2_with fail
    refine (HK.out _).mono ?_
    rintro e w4 ⟨rfl, hc4⟩
    have Hc4 := Lib.hid (Hc2.out.trans hc4)
    have hb4 := row_kept hc4 Hb2.out id
    have Hb4 := Lib.hid hb4
    clear f0 f1 f2 f3 f4 f5 hc4
    obtain ⟨f0, f1, f2, f3, f4, f5⟩ := var6 hb4
    clear hb4
    cases bk with
    | false =>
      have hr : r = false := by
        rw [Hr.out]
        cases hg : goodD d with
        | false => rfl
        | true => have := (Hiff.out.1 hg).2.2.1; rw [← Hbk.out] at this; cases this
      subst hr
      go_wp2_with fail
      go_ret
      exact ⟨rfl, Hc4.out⟩
    | true =>
      by_cases h40 : 40 < len
      · have hr : r = false := by
          rw [Hr.out]
          cases hg : goodD d with
          | false => rfl
          | true => have := (Hiff.out.1 hg).2.2.2.1; rw [← Hlen.out] at this; omega
        subst hr
        go_wp2_with fail
        go_ret
        exact ⟨rfl, Hc4.out⟩
      · have h40' : ¬ (40 : Int) < (len : Int) := by omega
        go_wp2_with fail
        clear f0 f1 f2 f3 f4 f5
        go_loopw [3, 25] (fun la i wr => ∃ k : Nat, k ≤ len ∧ i = .int .i64 k ∧ la = .string (tx (lastF d.ins k)) ∧ (∀ j (hj : j < d.ins.length), j < k → okI d.ins[j] = true ∧ leqL d.ins[j].1 (lastF d.ins j) = false) ∧ Chg NoB w wr) (fun _ i _ => len - (intOf i).toNat)
        case atStart => exact ⟨0, Nat.zero_le _, rfl, rfl, fun j _ hj => absurd hj (Nat.not_lt_zero _), Hc4.out⟩
        case round =>
          obtain ⟨k, hk, rfl, rfl, hno, hch⟩ := hrel
          have Hno := Lib.hid hno
          have Hch := Lib.hid hch
          clear hno hch
          by_cases hlt : k < len
          · have hlt' : k < d.ins.length := by rw [← Hlen.out]; exact hlt
            obtain ⟨rfl, -⟩ := H3.out (by intro e; rw [e] at hlt'; simp at hlt')
            obtain ⟨c0, c1⟩ := Hat.out k hlt'
            have c0 := Hch.out.keep c0
            have c1 := Hch.out.keep c1
            have HIk := Lib.hid (HI.out k hlt')
            have HJk := Lib.hid (HJ.out k hlt')
            have Hbadk := Lib.hid (goodD_bad (d := d) hlt')
            have Hleqk := Lib.hid (last_leq (d := d) hlt')
            have Hlast := Lib.hid (last_next (xs := d.ins) hlt')
            have Hgo : Hid (okI d.ins[k] = true → leqL d.ins[k].1 (lastF d.ins k) = false → ∀ j (hj : j < d.ins.length), j < k + 1 → okI d.ins[j] = true ∧ leqL d.ins[j].1 (lastF d.ins j) = false) := Lib.hid fun h g j hj hjk => by
              by_cases e : j = k
              · subst e; exact ⟨h, g⟩
              · exact Hno.out j hj (by omega)
            have hok : okI d.ins[k] = (Pth.nameL d.ins[k].1 && keyB d.ins[k].2) := rfl
            rw [hok] at Hbadk Hgo
            clear hok
            generalize d.ins[k] = x at *
            obtain ⟨x, y⟩ := x
            simp only at c0 c1 HIk HJk Hbadk Hleqk Hgo Hlast
            generalize lastF d.ins k = la at *
            obtain ⟨b1, hb1⟩ : ∃ b, b = Pth.nameL x := ⟨_, rfl⟩
            obtain ⟨b2, hb2⟩ : ∃ b, b = keyB y := ⟨_, rfl⟩
            obtain ⟨b3, hb3⟩ : ∃ b, b = leqL x la := ⟨_, rfl⟩
            have hleq := leq_tx la x
            rw [← hb1] at HIk Hbadk Hleqk Hgo
            rw [← hb2] at HJk Hbadk Hgo
            rw [← hb3] at hleq Hleqk Hgo
            have hal5 := (Chg.refl NoB wr).alloc (.cells #[.string (tx x), .string (tx y)] 48)
            have hb5 := heap_alloc_new wr (.cells #[.string (tx x), .string (tx y)] 48)
            have Hb5 := Lib.hid hb5
            have Hch5 := Lib.hid (Hch.out.trans hal5)
            obtain ⟨g0, g1⟩ := var2 hb5
            clear hb1 hb2 hb3 hal5 hb5
            go_wp2_with fail
            refine (HIk.out _).mono ?_
            rintro e w6 ⟨rfl, hc6⟩
            have Hc6 := Lib.hid (Hch5.out.trans hc6)
            have hb6 := row_kept hc6 Hb5.out id
            have Hb6 := Lib.hid hb6
            clear g0 g1 hc6 c0 c1
            obtain ⟨g0, g1⟩ := var2 hb6
            clear hb6
            cases b1 with
            | false =>
              have hr : r = false := by rw [Hr.out]; exact Hbadk.out rfl
              subst hr
              go_wp2_with fail
              go_ret
              exact ⟨rfl, Hc6.out⟩
            | true =>
              cases b3 with
              | true =>
                have hr : r = false := by rw [Hr.out]; exact Hleqk.out rfl rfl
                subst hr
                go_wp2_with fail
                go_ret
                exact ⟨rfl, Hc6.out⟩
              | false =>
                go_wp2_with fail
                refine (HJk.out _).mono ?_
                rintro e w7 ⟨rfl, hc7⟩
                have Hc7 := Lib.hid (Hc6.out.trans hc7)
                have hb7 := row_kept hc7 Hb6.out id
                clear g0 g1 hc7
                obtain ⟨g0, g1⟩ := var2 hb7
                clear hb7
                cases b2 with
                | false =>
                  have hr : r = false := by rw [Hr.out]; exact Hbadk.out rfl
                  subst hr
                  go_wp2_with fail
                  go_ret
                  exact ⟨rfl, Hc7.out⟩
                | true =>
                  have Hg := Lib.hid (Hgo.out (by simp) (by simp))
                  clear Hgo Hbadk Hleqk hleq
                  go_wp2_with fail
                  go_roundw
                  case rel => exact ⟨k + 1, by omega, by go_num, by rw [Hlast.out], Hg.out, Hc7.out⟩
                  case measure => simp [intOf]; omega
          · obtain rfl : k = len := by omega
            have hbn2 : Pth.nameL name = true ∧ Ver.goodB da db dc = true := by have := Hbn.out.symm; rw [Bool.and_eq_true] at this; exact this
            have hr : r = true := by
              rw [Hr.out]
              refine Hiff.out.2 ⟨hbn2.1, hbn2.2, Hbk.out.symm, by rw [← Hlen.out]; omega, fun i hi => ?_, fun i hi => (Hno.out i hi (by rw [Hlen.out]; exact hi)).1⟩
              have := (Hno.out (i + 1) hi (by rw [Hlen.out]; exact hi)).2
              rw [last_next (by omega)] at this
              exact this
            subst hr
            go_wp2_with fail
            go_ret
            exact ⟨rfl, Hch.out⟩
end Go.Proofs.YtnipiphhkcafhaaGreatDoor
