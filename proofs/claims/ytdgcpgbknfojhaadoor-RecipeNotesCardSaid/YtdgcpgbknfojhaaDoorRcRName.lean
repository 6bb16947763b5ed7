/- The contracts of the document's letter, Keyword, Name. No condition. -/
import Derived.Test.YtdgcpgbknfojhaaDoorRcName

namespace Go.Proofs.YtdgcpgbknfojhaaDoor
set_option linter.unusedVariables false
open Go.ChangeShapes Go.WideShapes Go.ChangeAt Go.RowKit
set_option maxHeartbeats 1000000 in
theorem rletter_any (c : UInt8) (w : World) : Calls Tryd.prog 24 #[.int .u8 (c.toNat : Int)] w (SayAt (.bool (wordC c)) w) := by
  have hwd : wordC c = (decide (97 ≤ c.toNat ∧ c.toNat ≤ 122) || decide (48 ≤ c.toNat ∧ c.toNat ≤ 57) || decide (c.toNat = 95)) := rfl
  by_cases h1 : 97 ≤ c.toNat
  · have g1 : decide ((97 : Int) ≤ (c.toNat : Int)) = true := decide_eq_true (by omega)
    by_cases h2 : c.toNat ≤ 122
    · have g2 : decide ((c.toNat : Int) ≤ 122) = true := decide_eq_true (by omega)
      have Hw := Lib.hid (show wordC c = true by rw [hwd, decide_eq_true ⟨h1, h2⟩]; rfl)
      clear hwd h1 h2
      go_enter Tryd.func24, Tryd.ntmps24
      go_wp2_with fail
      go_ret
      exact ⟨by rw [Hw.out]; rfl, rfl⟩
    · have g2 : decide ((c.toNat : Int) ≤ 122) = false := decide_eq_false (by omega)
      have g3 : decide ((48 : Int) ≤ (c.toNat : Int)) = true := decide_eq_true (by omega)
      have g4 : decide ((c.toNat : Int) ≤ 57) = false := decide_eq_false (by omega)
      have g5 : ((c.toNat : Int) == 95) = false := by rw [beq_eq_false_iff_ne]; omega
      have Hw := Lib.hid (show wordC c = false by rw [hwd, decide_eq_false (by omega), decide_eq_false (by omega), decide_eq_false (by omega)]; rfl)
      clear hwd h1 h2
      go_enter Tryd.func24, Tryd.ntmps24
      go_wp2_with fail
      go_ret
      exact ⟨by rw [Hw.out]; rfl, rfl⟩
  · have g1 : decide ((97 : Int) ≤ (c.toNat : Int)) = false := decide_eq_false (by omega)
    by_cases h3 : 48 ≤ c.toNat
    · have g3 : decide ((48 : Int) ≤ (c.toNat : Int)) = true := decide_eq_true (by omega)
      by_cases h4 : c.toNat ≤ 57
      · have g4 : decide ((c.toNat : Int) ≤ 57) = true := decide_eq_true (by omega)
        have Hw := Lib.hid (show wordC c = true by rw [hwd, decide_eq_true (show 48 ≤ c.toNat ∧ c.toNat ≤ 57 from ⟨h3, h4⟩)]; simp)
        clear hwd h1 h3 h4
        go_enter Tryd.func24, Tryd.ntmps24
        go_wp2_with fail
        go_ret
        exact ⟨by rw [Hw.out]; rfl, rfl⟩
      · have g4 : decide ((c.toNat : Int) ≤ 57) = false := decide_eq_false (by omega)
        by_cases h5 : c.toNat = 95
        · have g5 : ((c.toNat : Int) == 95) = true := by simp [h5]
          have Hw := Lib.hid (show wordC c = true by rw [hwd, decide_eq_true h5]; simp)
          clear hwd h1 h3 h4 h5
          go_enter Tryd.func24, Tryd.ntmps24
          go_wp2_with fail
          go_ret
          exact ⟨by rw [Hw.out]; rfl, rfl⟩
        · have g5 : ((c.toNat : Int) == 95) = false := by rw [beq_eq_false_iff_ne]; omega
          have Hw := Lib.hid (show wordC c = false by rw [hwd, decide_eq_false (by omega), decide_eq_false (by omega), decide_eq_false h5]; rfl)
          clear hwd h1 h3 h4 h5
          go_enter Tryd.func24, Tryd.ntmps24
          go_wp2_with fail
          go_ret
          exact ⟨by rw [Hw.out]; rfl, rfl⟩
    · have g3 : decide ((48 : Int) ≤ (c.toNat : Int)) = false := decide_eq_false (by omega)
      have g5 : ((c.toNat : Int) == 95) = false := by rw [beq_eq_false_iff_ne]; omega
      have Hw := Lib.hid (show wordC c = false by rw [hwd, decide_eq_false (by omega), decide_eq_false (by omega), decide_eq_false (by omega)]; rfl)
      clear hwd h1 h3
      go_enter Tryd.func24, Tryd.ntmps24
      go_wp2_with fail
      go_ret
      exact ⟨by rw [Hw.out]; rfl, rfl⟩
set_option maxHeartbeats 2000000 in
set_option maxRecDepth 20000 in
theorem rkey_any (l : List UInt8) (w : World) : Calls Tryd.prog 25 #[.string (tx l)] w (SayV (.bool (keyF l)) w) := by
  have hal_ := (Chg.refl NoB w).alloc (.cells #[.string ⟨#[112, 97, 99, 107, 97, 103, 101]⟩, .string ⟨#[118, 101, 114, 115, 105, 111, 110]⟩, .string ⟨#[116, 111, 111, 108]⟩, .string ⟨#[98, 117, 105, 108, 100]⟩, .string ⟨#[114, 117, 110]⟩, .string ⟨#[108, 101, 116]⟩, .string ⟨#[105, 110]⟩, .string ⟨#[105, 102]⟩, .string ⟨#[116, 104, 101, 110]⟩, .string ⟨#[101, 108, 115, 101]⟩] 9)
  have hb_ := heap_alloc_new w (.cells #[.string ⟨#[112, 97, 99, 107, 97, 103, 101]⟩, .string ⟨#[118, 101, 114, 115, 105, 111, 110]⟩, .string ⟨#[116, 111, 111, 108]⟩, .string ⟨#[98, 117, 105, 108, 100]⟩, .string ⟨#[114, 117, 110]⟩, .string ⟨#[108, 101, 116]⟩, .string ⟨#[105, 110]⟩, .string ⟨#[105, 102]⟩, .string ⟨#[116, 104, 101, 110]⟩, .string ⟨#[101, 108, 115, 101]⟩] 9)
  obtain ⟨b5, hxb_⟩ : ∃ b, b = w.heap.size := ⟨_, rfl⟩
  obtain ⟨w1, hw_⟩ : ∃ w_, w.alloc (.cells #[.string ⟨#[112, 97, 99, 107, 97, 103, 101]⟩, .string ⟨#[118, 101, 114, 115, 105, 111, 110]⟩, .string ⟨#[116, 111, 111, 108]⟩, .string ⟨#[98, 117, 105, 108, 100]⟩, .string ⟨#[114, 117, 110]⟩, .string ⟨#[108, 101, 116]⟩, .string ⟨#[105, 110]⟩, .string ⟨#[105, 102]⟩, .string ⟨#[116, 104, 101, 110]⟩, .string ⟨#[101, 108, 115, 101]⟩] 9) = w_ := ⟨_, rfl⟩
  have hz_ : w1.heap.size = b5 + 1 := by rw [← hw_, hxb_]; exact alloc_size _ _
  rw [hw_] at hal_ hb_
  rw [← hxb_] at hb_
  have Hw5 := Lib.hid hw_
  have Hx5 := Lib.hid hxb_
  have Ha5 := Lib.hid hal_
  have Hb5 := Lib.hid hb_
  have Hz5 := Lib.hid hz_
  clear hal_ hb_ hxb_ hw_ hz_
  have Hcs := Lib.hid (show ∀ i, i < 10 → w1.cell? ⟨b5, i, none⟩ = some (.string (tx (keyL.getD i []))) from fun i hi => by
    rw [cell_of_row w1 b5 i _ _ (0, 0) Hb5.out]
    have hh : i = 0 ∨ i = 1 ∨ i = 2 ∨ i = 3 ∨ i = 4 ∨ i = 5 ∨ i = 6 ∨ i = 7 ∨ i = 8 ∨ i = 9 := by omega
    rcases hh with rfl | rfl | rfl | rfl | rfl | rfl | rfl | rfl | rfl | rfl <;> rfl)
  go_enter Tryd.func25, Tryd.ntmps25
  go_wp2_with fail
  rw [Hw5.out, ← Hx5.out]
  go_loopw [7] (fun i wr => ∃ k : Nat, k ≤ 10 ∧ i = .int .i64 k ∧ (∀ j, j < k → keyL.getD j [] ≠ l) ∧ Chg NoB w1 wr) (fun i _ => 10 - (intOf i).toNat)
  case atStart => exact ⟨0, Nat.zero_le _, rfl, fun j hj => absurd hj (Nat.not_lt_zero _), Chg.refl _ _⟩
  case round =>
    obtain ⟨k, hk, rfl, hno, hch⟩ := hrel
    have Hno := Lib.hid hno
    have Hch := Lib.hid hch
    clear hno hch
    by_cases hlt : k < 10
    · have hx := Hch.out.keep (Hcs.out k hlt)
      have en1 := txQ l
      have en2 := txQ (keyL.getD k [])
      by_cases he : l = keyL.getD k []
      · have Hk := Lib.hid (keyF_at hlt he)
        have hb : (l == keyL.getD k []) = true := by rw [← he]; simp
        clear he
        generalize keyL.getD k [] = y at *
        go_wp2_with fail
        go_ret
        exact ⟨by rw [Hk.out]; rfl, Ha5.out.trans Hch.out⟩
      · have hb : (l == keyL.getD k []) = false := by simpa using he
        have Hno2 := Lib.hid (show ∀ j, j < k + 1 → keyL.getD j [] ≠ l from fun j hj => by
          by_cases e : j = k
          · subst e; exact fun e2 => he e2.symm
          · exact Hno.out j (by omega))
        clear he
        generalize hy : keyL.getD k [] = y at *
        clear hy
        go_wp2_with fail
        go_roundw
        case rel => exact ⟨k + 1, by omega, by go_num, Hno2.out, Hch.out⟩
        case measure => simp [intOf]; omega
    · obtain rfl : k = 10 := by omega
      have Hk := Lib.hid (keyF_no Hno.out)
      go_wp2_with fail
      go_ret
      exact ⟨by rw [Hk.out]; rfl, Ha5.out.trans Hch.out⟩
theorem nameN_bad {s : List UInt8} {k : Nat} (hk : k < s.length) (h : wordC s[k] = false) : nameN s = false := by
  have : s.all wordC = false := by
    rw [List.all_eq_false]
    exact ⟨s[k], List.getElem_mem hk, by simp [h]⟩
  unfold nameN
  rw [this]
  simp
theorem nameN_long {s : List UInt8} (h : ¬ s.length ≤ 32) : nameN s = false := by
  unfold nameN
  rw [decide_eq_false h]
  simp
theorem nameN_in {b : UInt8} {r : List UInt8} (hall : (b :: r).all wordC = true) (h : (b :: r).length ≤ 32) : nameN (b :: r) = (lowC b && !keyF (b :: r)) := by
  unfold nameN
  rw [decide_eq_true h, hall]
  simp
set_option maxHeartbeats 4000000 in
set_option maxRecDepth 20000 in
theorem rnam_any (s : List UInt8) (w : World) (hs : s.length ≤ 1048576) : Calls Tryd.prog 11 #[.string (tx s)] w (SayV (.bool (nameN s)) w) := by
  have hz : (tx s).size = s.length := tx_size s
  have HL := Lib.hid rletter_any
  have HK := Lib.hid (rkey_any s)
  obtain ⟨n, hn⟩ : ∃ n, n = s.length := ⟨_, rfl⟩
  have Hn := Lib.hid hn
  rw [← hn] at hz hs
  clear hn
  go_enter Tryd.func11, Tryd.ntmps11
  go_wp2_with fail
  go_loopw [3] (fun i wr => ∃ k : Nat, k ≤ n ∧ i = .int .i64 k ∧ (∀ j (hj : j < s.length), j < k → wordC s[j] = true) ∧ w = wr) (fun i _ => n - (intOf i).toNat)
  case atStart => exact ⟨0, Nat.zero_le _, rfl, fun j _ hj => absurd hj (Nat.not_lt_zero _), rfl⟩
  case round =>
    obtain ⟨k, hk, rfl, hno, rfl⟩ := hrel
    have Hno := Lib.hid hno
    clear hno
    by_cases hlt : k < n
    · have hks : k < s.length := by rw [← Hn.out]; exact hlt
      have hkt : k < (tx s).size := by omega
      have hg : (tx s)[k] = s[k] := rfl
      have Hbad := Lib.hid (show wordC s[k] = false → nameN s = false from fun h => nameN_bad hks h)
      have Hgood := Lib.hid (fun (h : wordC s[k] = true) j (hj : j < s.length) (hjk : j < k + 1) => show wordC s[j] = true from by
        by_cases e : j = k
        · subst e; exact h
        · exact Hno.out j hj (by omega))
      generalize s[k] = c at hg Hbad Hgood
      have HLc := Lib.hid (HL.out c w)
      cases hw : wordC c with
      | false =>
        have Hb := Lib.hid (Hbad.out hw)
        rw [hw] at HLc
        clear hw Hbad Hgood
        go_wp2_with fail
        refine HLc.out.mono ?_
        rintro e w2 ⟨rfl, rfl⟩
        go_wp2_with fail
        go_ret
        exact ⟨by rw [Hb.out]; rfl, Chg.refl _ _⟩
      | true =>
        have Hb := Lib.hid (Hgood.out hw)
        rw [hw] at HLc
        clear hw Hbad Hgood
        go_wp2_with fail
        refine HLc.out.mono ?_
        rintro e w2 ⟨rfl, rfl⟩
        go_wp2_with fail
        go_roundw
        case rel => exact ⟨k + 1, by omega, by go_num, Hb.out, by simp⟩
        case measure => simp [intOf]; omega
    · obtain rfl : k = n := by omega
      have Hall := Lib.hid (show s.all wordC = true from List.all_eq_true.2 fun x hx => by
        obtain ⟨i, hi, rfl⟩ := List.getElem_of_mem hx
        exact Hno.out i hi (by rw [Hn.out]; exact hi))
      clear hlt
      by_cases h0 : k = 0
      · have Hb := Lib.hid (show nameN s = false by
          have : s = [] := List.eq_nil_of_length_eq_zero (by rw [← Hn.out]; exact h0)
          rw [this]; rfl)
        subst h0
        go_wp2_with fail
        go_ret
        exact ⟨by rw [Hb.out]; rfl, Chg.refl _ _⟩
      · have h1b : decide ((1 : Int) ≤ (k : Int)) = true := decide_eq_true (by omega)
        by_cases h32 : k ≤ 32
        · have h32b : decide ((k : Int) ≤ 32) = true := decide_eq_true (by omega)
          have hkt : 0 < (tx s).size := by omega
          obtain ⟨b, hb0⟩ : ∃ b, (tx s)[0] = b := ⟨_, rfl⟩
          obtain ⟨r, hr⟩ : ∃ r, s = b :: r := by
            cases s with
            | nil => exact absurd hkt (Nat.lt_irrefl _)
            | cons x r => exact ⟨r, by rw [← hb0]; rfl⟩
          have Hd2 := Lib.hid (show nameN s = (lowC b && !keyF s) by
            have ha := Hall.out
            have hl : s.length ≤ 32 := by rw [← Hn.out]; exact h32
            rw [hr] at ha hl ⊢
            exact nameN_in ha hl)
          clear hr
          by_cases h97 : 97 ≤ b.toNat
          · have g1 : decide ((97 : Int) ≤ (b.toNat : Int)) = true := decide_eq_true (by omega)
            by_cases h122 : b.toNat ≤ 122
            · have g2 : decide ((b.toNat : Int) ≤ 122) = true := decide_eq_true (by omega)
              have Hb := Lib.hid (show nameN s = !keyF s by rw [Hd2.out]; unfold lowC; rw [decide_eq_true ⟨h97, h122⟩]; rfl)
              have HK1 := Lib.hid (HK.out w)
              clear h97 h122
              go_wp2_with fail
              refine HK1.out.mono ?_
              rintro e w2 ⟨rfl, hc2⟩
              have Hc2 := Lib.hid hc2
              clear hc2
              go_wp2_with fail
              go_ret
              exact ⟨by rw [Hb.out]; rfl, Hc2.out⟩
            · have g2 : decide ((b.toNat : Int) ≤ 122) = false := decide_eq_false (by omega)
              have Hb := Lib.hid (show nameN s = false by rw [Hd2.out]; unfold lowC; rw [decide_eq_false (by omega)]; rfl)
              clear h97 h122
              go_wp2_with fail
              go_ret
              exact ⟨by rw [Hb.out]; rfl, Chg.refl _ _⟩
          · have g1 : decide ((97 : Int) ≤ (b.toNat : Int)) = false := decide_eq_false (by omega)
            have Hb := Lib.hid (show nameN s = false by rw [Hd2.out]; unfold lowC; rw [decide_eq_false (by omega)]; rfl)
            clear h97
            go_wp2_with fail
            go_ret
            exact ⟨by rw [Hb.out]; rfl, Chg.refl _ _⟩
        · have h32b : decide ((k : Int) ≤ 32) = false := decide_eq_false (by omega)
          have Hb := Lib.hid (nameN_long (s := s) (by rw [← Hn.out]; exact h32))
          go_wp2_with fail
          go_ret
          exact ⟨by rw [Hb.out]; rfl, Chg.refl _ _⟩
end Go.Proofs.YtdgcpgbknfojhaaDoor
