/- The contracts of slices.Index at the keywords, Contains, Name. Condition: the keywords read as the program's text lays them. -/
import Derived.Test.YtdgcpgbknfojhaaDoorRcWord

namespace Go.Proofs.YtdgcpgbknfojhaaDoor
set_option linter.unusedVariables false
open Go.ChangeShapes Go.WideShapes Go.ChangeAt Go.RowKit
/- the keywords, whatever is done from block base on -/
structure Kw (base : Nat) (w : World) : Prop where
  le : base ≤ w.heap.size
  at' : ∃ g o c, 10 ≤ c ∧ c ≤ maxLen ∧ ∀ w', Below base w w' → w'.cell? ⟨0, 0, none⟩ = some (.slice (some ⟨g, o, none⟩) 10 c) ∧ ∀ i, i < 10 → w'.cell? ⟨g, o + i, none⟩ = some (.string (tx (keyL.getD i [])))
  ml : ∃ m, ∀ w', Below base w w' → w'.cell? ⟨1, 0, none⟩ = some (.int .i64 m)
theorem Kw.on {base : Nat} {w w' : World} (h : Kw base w) (hb : Below base w w') : Kw base w' := by
  obtain ⟨h1, ⟨g, o, c, h2, h3, h4⟩, m, h5⟩ := h
  exact ⟨Nat.le_trans h1 hb.size, ⟨g, o, c, h2, h3, fun v hv => h4 v (hb.trans hv)⟩, m, fun v hv => h5 v (hb.trans hv)⟩
theorem Kw.chg {S : Nat → Prop} {base : Nat} {w w' : World} (h : Kw base w) (hc : Chg S w w') (hS : ∀ k, S k → base ≤ k) : Kw base w' := h.on (hc.belowB h.le hS)
theorem Kw.keep {base : Nat} {w w' : World} (h : Kw base w) (hc : Chg NoB w w') : Kw base w' := h.chg hc fun _ => False.elim
theorem Kw.here {base : Nat} {w : World} (h : Kw base w) : ∃ g o c, 10 ≤ c ∧ c ≤ maxLen ∧ w.cell? ⟨0, 0, none⟩ = some (.slice (some ⟨g, o, none⟩) 10 c) ∧ ∀ i, i < 10 → w.cell? ⟨g, o + i, none⟩ = some (.string (tx (keyL.getD i []))) := by
  obtain ⟨h1, ⟨g, o, c, h2, h3, h4⟩, -⟩ := h
  exact ⟨g, o, c, h2, h3, h4 w (Below.refl _ _)⟩
theorem Kw.len {base : Nat} {w : World} (h : Kw base w) : ∃ m, w.cell? ⟨1, 0, none⟩ = some (.int .i64 m) := by
  obtain ⟨-, -, m, h5⟩ := h
  exact ⟨m, h5 w (Below.refl _ _)⟩
def SayV (v : Value) (w : World) (e : Ending) (w' : World) : Prop := e = .returned v ∧ Chg NoB w w'
theorem keyF_at {l : List UInt8} {k : Nat} (hk : k < 10) (h : l = keyL.getD k []) : keyF l = true := by
  unfold keyF
  rw [List.any_eq_true]
  exact ⟨keyL.getD k [], by rw [List.getD_eq_getElem?_getD, List.getElem?_eq_getElem (show k < keyL.length from hk)]; exact List.getElem_mem _, by simp [h]⟩
theorem keyF_no {l : List UInt8} (h : ∀ j, j < 10 → keyL.getD j [] ≠ l) : keyF l = false := by
  unfold keyF
  rw [List.any_eq_false]
  intro x hx
  obtain ⟨i, hi, rfl⟩ := List.getElem_of_mem hx
  have := h i hi
  rw [List.getD_eq_getElem?_getD, List.getElem?_eq_getElem hi] at this
  simp only [beq_iff_eq]
  exact fun e => this e.symm
set_option maxHeartbeats 1000000 in
theorem kindex_any (l : List UInt8) (g o c : Nat) (w : World) (hc1 : 10 ≤ c) (hc2 : c ≤ maxLen) (hcs : ∀ i, i < 10 → w.cell? ⟨g, o + i, none⟩ = some (.string (tx (keyL.getD i [])))) :
    Calls Tryd.prog 48 #[.slice (some ⟨g, o, none⟩) 10 c, .string (tx l)] w fun e w' => (∃ r : Int, e = .returned (.int .i64 r) ∧ (0 ≤ r ∧ keyF l = true ∨ r = -1 ∧ keyF l = false)) ∧ Chg NoB w w' := by
  unfold maxLen at hc2
  have Hcs := Lib.hid hcs
  clear hcs
  go_enter Tryd.func48, Tryd.ntmps48
  go_wp2_with fail
  go_loopw [5, 8] (fun _ i wr => ∃ k : Nat, k ≤ 10 ∧ i = .int .i64 k ∧ (∀ j, j < k → keyL.getD j [] ≠ l) ∧ Chg NoB w wr) (fun _ i _ => 10 - (intOf i).toNat)
  case atStart => exact ⟨0, Nat.zero_le _, rfl, fun j hj => absurd hj (Nat.not_lt_zero _), Chg.refl _ _⟩
  case round =>
    obtain ⟨k, hk, rfl, hno, hch⟩ := hrel
    have Hno := Lib.hid hno
    have Hch := Lib.hid hch
    clear hno hch
    by_cases hlt : k < 10
    · have hx := Hch.out.keep (Hcs.out k hlt)
      have en1 := txQ l
      have en2 := txQ (keyL.getD k [])
      by_cases he : l = keyL.getD k []
      · have Hk := Lib.hid (keyF_at hlt he)
        have hb : (l == keyL.getD k []) = true := by rw [← he]; simp
        clear he
        generalize keyL.getD k [] = y at *
        go_wp2_with fail
        go_ret
        exact ⟨⟨_, rfl, .inl ⟨by omega, Hk.out⟩⟩, Hch.out⟩
      · have hb : (l == keyL.getD k []) = false := by simpa using he
        have Hno2 := Lib.hid (show ∀ j, j < k + 1 → keyL.getD j [] ≠ l from fun j hj => by
          by_cases e : j = k
          · subst e; exact fun e2 => he e2.symm
          · exact Hno.out j (by omega))
        clear he
        generalize hy : keyL.getD k [] = y at *
        clear hy
        go_wp2_with fail
        go_roundw
        case rel => exact ⟨k + 1, by omega, by go_num, Hno2.out, Hch.out⟩
        case measure => simp [intOf]; omega
    · obtain rfl : k = 10 := by omega
      have Hk := Lib.hid (keyF_no Hno.out)
      go_wp2_with fail
      go_ret
      exact ⟨⟨_, rfl, .inr ⟨rfl, Hk.out⟩⟩, Hch.out⟩
set_option maxHeartbeats 1000000 in
theorem kcont_any (l : List UInt8) (g o c : Nat) (w : World) (hc1 : 10 ≤ c) (hc2 : c ≤ maxLen) (hcs : ∀ i, i < 10 → w.cell? ⟨g, o + i, none⟩ = some (.string (tx (keyL.getD i [])))) :
    Calls Tryd.prog 23 #[.slice (some ⟨g, o, none⟩) 10 c, .string (tx l)] w (SayV (.bool (keyF l)) w) := by
  have HI := Lib.hid (kindex_any l g o c w hc1 hc2 hcs)
  clear hcs
  go_enter Tryd.func23, Tryd.ntmps23
  go_wp2_with fail
  refine HI.out.mono ?_
  rintro e w2 ⟨⟨r, rfl, hr⟩, hc⟩
  have Hc := Lib.hid hc
  clear hc
  rcases hr with ⟨h0, h1⟩ | ⟨h0, h1⟩
  · have H1 := Lib.hid h1
    clear h1
    go_wp2_with fail
    go_ret
    exact ⟨by rw [H1.out]; rfl, Hc.out⟩
  · subst h0
    have H1 := Lib.hid h1
    clear h1
    go_wp2_with fail
    go_ret
    exact ⟨by rw [H1.out]; rfl, Hc.out⟩
theorem take_all (s : List UInt8) : ((s.takeWhile wordC).length = s.length) ↔ s.all wordC = true := by
  induction s with
  | nil => simp
  | cons c r ih =>
    rw [List.takeWhile_cons, List.all_cons]
    cases wordC c with
    | true => simpa using ih
    | false => simp
set_option maxHeartbeats 4000000 in
set_option maxRecDepth 20000 in
theorem name_any (s : List UInt8) (base : Nat) (w : World) (h : Kw base w) : Calls Tryd.prog 10 #[.string (tx s)] w (SayV (.bool (nameN s)) w) := by
  have hz : (tx s).size = s.length := tx_size s
  have en := txQ s
  have hsl : s.length ≤ maxLen ∨ ¬ s.length ≤ maxLen := Classical.em _
  obtain ⟨g, o, c, hc1, hc2, hg, hcs⟩ := h.here
  have HK := Lib.hid (fun W (hW : Chg NoB w W) => kcont_any s g o c W hc1 hc2 fun i hi => hW.keep (hcs i hi))
  have HG := Lib.hid (fun W (hW : Chg NoB w W) => hW.keep hg)
  have HW := Lib.hid (wsize_any s w)
  clear hcs hg h
  by_cases h0 : s = []
  · subst h0
    go_enter Tryd.func10, Tryd.ntmps10
    go_wp2_with fail
    go_ret
    exact ⟨rfl, Chg.refl _ _⟩
  · have h0b : (s == []) = false := by simpa using h0
    have hpos := List.length_pos_iff.2 h0
    by_cases h32 : s.length ≤ 32
    · have g32 : decide ((s.length : Int) ≤ 32) = true := decide_eq_true (by omega)
      have hlt : 0 < (tx s).size := by omega
      obtain ⟨b, hb0⟩ : ∃ b, (tx s)[0] = b := ⟨_, rfl⟩
      obtain ⟨r, hr⟩ : ∃ r, s = b :: r := by
        cases s with
        | nil => exact absurd rfl h0
        | cons x r => exact ⟨r, by rw [← hb0]; rfl⟩
      have HLt := Lib.hid (letter_any (b.toNat : Int) w)
      have hw32 : wrap32 (b.toNat : Int) = (b.toNat : Int) := by have := b.toNat_lt; unfold wrap32; omega
      have hlow : decide ((97 : Int) ≤ (b.toNat : Int) ∧ (b.toNat : Int) ≤ 122) = lowC b := by unfold lowC; rw [decide_eq_decide]; omega
      rw [hlow] at HLt
      clear hlow
      have Hn := Lib.hid (show nameN s = (lowC b && s.all wordC && !keyF s) by unfold nameN; rw [decide_eq_true h0, decide_eq_true h32, hr]; simp)
      cases hl : lowC b with
      | false =>
        rw [hl] at HLt Hn
        have Hn2 := Lib.hid (show nameN s = false by rw [Hn.out]; rfl)
        clear hr hl Hn
        go_enter Tryd.func10, Tryd.ntmps10
        go_wp2_with fail
        refine HLt.out.mono ?_
        rintro e w2 ⟨rfl, rfl⟩
        go_wp2_with fail
        go_ret
        exact ⟨by rw [Hn2.out]; rfl, Chg.refl _ _⟩
      | true =>
        rw [hl] at HLt Hn
        have htk := take_all s
        have Hn2 := Lib.hid (show nameN s = (s.all wordC && !keyF s) by rw [Hn.out]; rfl)
        obtain ⟨n, hn⟩ : ∃ n, n = (s.takeWhile wordC).length := ⟨_, rfl⟩
        rw [← hn] at htk HW
        clear hr hl Hn hn
        by_cases hall : s.all wordC = true
        · have e1 := htk.2 hall
          subst e1
          rw [hall] at Hn2
          clear htk hall
          go_enter Tryd.func10, Tryd.ntmps10
          go_wp2_with fail
          refine HLt.out.mono ?_
          rintro e w2 ⟨rfl, rfl⟩
          go_wp2_with fail
          refine HW.out.mono ?_
          rintro e w3 ⟨rfl, hc3⟩
          have Hc3 := Lib.hid hc3
          have hg3 := HG.out _ hc3
          clear hc3
          go_wp2_with fail
          refine (HK.out _ Hc3.out).mono ?_
          rintro e w4 ⟨rfl, hc4⟩
          have Hc4 := Lib.hid (Hc3.out.trans hc4)
          clear hc4
          go_wp2_with fail
          go_ret
          exact ⟨by rw [Hn2.out, Bool.true_and]; rfl, Hc4.out⟩
        · have e1 : ¬ n = s.length := fun e => hall (htk.1 e)
          have e1b : ((n : Int) == (s.length : Int)) = false := by rw [beq_eq_false_iff_ne]; omega
          have Hn3 := Lib.hid (show nameN s = false by rw [Hn2.out]; cases hx : s.all wordC with | true => exact absurd hx hall | false => rfl)
          clear htk hall e1 Hn2
          go_enter Tryd.func10, Tryd.ntmps10
          go_wp2_with fail
          refine HLt.out.mono ?_
          rintro e w2 ⟨rfl, rfl⟩
          go_wp2_with fail
          refine HW.out.mono ?_
          rintro e w3 ⟨rfl, hc3⟩
          have Hc3 := Lib.hid hc3
          clear hc3
          go_wp2_with fail
          go_ret
          exact ⟨by rw [Hn3.out]; rfl, Hc3.out⟩
    · have g32 : decide ((s.length : Int) ≤ 32) = false := decide_eq_false (by omega)
      have Hn := Lib.hid (show nameN s = false by unfold nameN; rw [decide_eq_false h32]; simp)
      go_enter Tryd.func10, Tryd.ntmps10
      go_wp2_with fail
      go_ret
      exact ⟨by rw [Hn.out]; rfl, Chg.refl _ _⟩
end Go.Proofs.YtdgcpgbknfojhaaDoor
