/- What every statement of this layer asks first: alive. Condition: the version's tables lie below (Pw). -/
import Derived.Test.YtaijhebjjbcdfaaGreatDoorSpParse
import Derived.Test.YtaijhebjjbcdfaaGreatDoorSpGap

namespace Go.Proofs.YtaijhebjjbcdfaaGreatDoor
set_option linter.unusedVariables false
open Go.ChangeShapes Go.WideShapes Go.ChangeAt Go.RowKit
theorem chain_above {l : List GapL} {a : Int} (h : chainG a l = true) {n : Int} (hn : allG ≤ n) : inG l n = false := by
  unfold inG
  rw [List.any_eq_false]
  intro g hg
  have := chain_bounds h g hg
  rw [show inOne g n = false from decide_eq_false (by omega)]
  decide
theorem chain_same9 {l m : List GapL} (hl : chainG (-1) l = true) (hm : chainG (-1) m = true) (h : ∀ n, 0 ≤ n → n < allG → inG l n = inG m n) : l = m :=
  chain_same hl hm fun n => by
    by_cases h1 : 0 ≤ n
    · by_cases h2 : n < allG
      · exact h n h1 h2
      · rw [chain_above hl (by omega), chain_above hm (by omega)]
    · rw [chain_low hl n (by omega), chain_low hm n (by omega)]
theorem ps_ok {s : List UInt8} {gs l : List GapL} {w w' : World} {e : Ending} (hs : s.length ≤ 256) (hn : s ≠ noneT) (hg : gapsL s = some gs) (hl : chainG (-1) l = true) (hin : ∀ n, 0 ≤ n → n < allG → inG l n = inG gs n) (hlen : l.length ≤ 16) (h : PsP s w e w') :
    ∃ q c, e = .returned (.tuple #[.slice q l.length c, .int .i64 0]) ∧ w'.ownsRow w.heap.size 37 2 (.slice q l.length c) l.length (flatG l) ∧ Chg NoB w w' := by
  obtain ⟨hc, (⟨h1, -⟩ | ⟨-, h1, -⟩ | ⟨-, -, h1, -⟩ | ⟨-, -, gs', d, h1, h2, h3, h4⟩)⟩ := h
  · omega
  · exact absurd h1 hn
  · rw [hg] at h1; cases h1
  · rw [hg] at h1
    cases h1
    obtain rfl : d = l := chain_same9 h2 hl fun n a b => (h3 n a b).trans (hin n a b).symm
    rcases h4 with ⟨h5, -⟩ | ⟨-, q, c, h5, h6⟩
    · omega
    · exact ⟨q, c, h5, h6, hc⟩
def s1L : List UInt8 := [94, 49, 46, 50, 46, 48, 32, 124, 32, 61, 51, 46, 48, 46, 48]
def s2L : List UInt8 := [62, 61, 50, 46, 48, 46, 48, 32, 60, 49, 46, 48, 46, 48]
def r1L : List GapL := [(1002000, 2000000), (3000000, 3000001)]
theorem g1L : gapsL s1L = some r1L := by kernel_rfl
theorem g2L : gapsL s2L = some [(2000000, 1000000)] := by kernel_rfl
theorem first_any' (low : Nat) (w : World) (hp : Pw low w) : Calls Tryz.prog 9 #[.string ⟨#[94, 49, 46, 50, 46, 48, 32, 124, 32, 61, 51, 46, 48, 46, 48]⟩] w fun e w' => ∃ q c, e = .returned (.tuple #[.slice q 2 c, .int .i64 0]) ∧ w'.ownsRow w.heap.size 37 2 (.slice q 2 c) 2 (flatG r1L) ∧ Chg NoB w w' :=
  (show Calls Tryz.prog 9 #[.string (tx s1L)] w _ from ps_any low s1L w (by decide) hp).mono fun e w' h => ps_ok (l := r1L) (by decide) (by decide) g1L (by decide) (fun _ _ _ => rfl) (by decide) h
theorem second_any' (low : Nat) (w : World) (hp : Pw low w) : Calls Tryz.prog 9 #[.string ⟨#[62, 61, 50, 46, 48, 46, 48, 32, 60, 49, 46, 48, 46, 48]⟩] w fun e w' => ∃ q c, e = .returned (.tuple #[.slice q 0 c, .int .i64 0]) ∧ w'.ownsRow w.heap.size 37 2 (.slice q 0 c) 0 (flatG []) ∧ Chg NoB w w' :=
  (show Calls Tryz.prog 9 #[.string (tx s2L)] w _ from ps_any low s2L w (by decide) hp).mono fun e w' h => ps_ok (l := []) (by decide) (by decide) g2L rfl (fun n _ _ => by
    rw [inG_cons, show inOne (2000000, 1000000) n = false from decide_eq_false (by show ¬ ((2000000 : Int) ≤ n ∧ n < 1000000); omega)]; rfl) (by decide) h
theorem text_first (q : Option Addr) (c base : Nat) (w : World) (ht : Ver.Tb w) (h : w.ownsRow base 37 2 (.slice q 2 c) 2 (flatG r1L)) : Calls Tryz.prog 23 #[.slice q 2 c] w fun e w' => e = .returned (.string ⟨#[62, 61, 49, 46, 50, 46, 48, 32, 60, 50, 46, 48, 46, 48, 32, 124, 32, 61, 51, 46, 48, 46, 48]⟩) ∧ Chg NoB w w' := by
  obtain ⟨kb, hk⟩ := GapS.of_row h rfl (fun g hg => by
    have : g = (1002000, 2000000) ∨ g = (3000000, 3000001) := by simpa [r1L] using hg
    rcases this with rfl | rfl <;> (unfold In64; decide))
  have ht2 := text_any' r1L [tA, tB] rfl (by decide) (by decide) _ _ kb 0 w hk ht (fun k hkl W hW => by
    match k, hkl with
    | 0, _ => exact gtext_a W hW
    | 1, _ => exact gtext_b W hW) (by decide)
  rwa [show joinB [tA, tB] = ⟨#[62, 61, 49, 46, 50, 46, 48, 32, 60, 50, 46, 48, 46, 48, 32, 124, 32, 61, 51, 46, 48, 46, 48]⟩ from by kernel_rfl] at ht2
theorem text_second (q : Option Addr) (c base : Nat) (w : World) (h : w.ownsRow base 37 2 (.slice q 0 c) 0 (flatG [])) : Calls Tryz.prog 23 #[.slice q 0 c] w fun e w' => e = .returned (.string ⟨#[110, 111, 110, 101]⟩) ∧ Chg NoB w w' := by
  obtain ⟨kb, hk⟩ := GapS.of_row (l := []) h rfl (fun g hg => by cases hg)
  have HG := Lib.hid (show Calls Tryz.prog 12 #[.slice q 0 c] w (fun e w' => e = .returned (.bool true) ∧ Chg NoB w w') from good_any [] _ _ kb 0 w hk)
  clear h hk
  go_enter Tryz.func23, Tryz.ntmps23
  go_wp2_with fail
  refine HG.out.mono ?_
  rintro e w1 ⟨rfl, hc1⟩
  have Hc1 := Lib.hid hc1
  clear hc1
  go_wp2_with fail
  go_ret
  exact ⟨rfl, Hc1.out⟩
set_option maxHeartbeats 1000000 in
set_option maxRecDepth 20000 in
theorem alive_any (low : Nat) (w : World) (hp : Pw low w) : Calls Tryz.prog 8 #[] w fun e w' => e = .returned (.bool true) ∧ Chg NoB w w' := by
  have Hp := Lib.hid hp
  have H1 := Lib.hid (first_any' low w hp)
  clear hp
  go_enter Tryz.func8, Tryz.ntmps8
  go_wp2_with fail
  refine H1.out.mono ?_
  rintro e w1 ⟨q1, c1, rfl, hr1, hc1⟩
  have Hr1 := Lib.hid hr1
  have Hc1 := Lib.hid hc1
  have H2 := Lib.hid (second_any' low w1 (Hp.out.keep hc1 fun k h => h.elim))
  clear hr1 hc1 H1
  go_wp2_with fail
  refine H2.out.mono ?_
  rintro e w2 ⟨q2, c2, rfl, hr2, hc2⟩
  have Hr2 := Lib.hid hr2
  have Hc2 := Lib.hid (Hc1.out.trans hc2)
  have H3 := Lib.hid (text_first q1 c1 w.heap.size w2 (Hp.out.keep Hc2.out fun k h => h.elim).tb (ownsRow_chg Hr1.out hc2 fun _ _ => id))
  clear hr2 hc2 H2
  go_wp2_with fail
  refine H3.out.mono ?_
  rintro e w3 ⟨rfl, hc3⟩
  have Hc3 := Lib.hid (Hc2.out.trans hc3)
  have H4 := Lib.hid (text_second q2 c2 w1.heap.size w3 (ownsRow_chg Hr2.out hc3 fun _ _ => id))
  clear hc3 H3
  go_wp2_with fail
  refine H4.out.mono ?_
  rintro e w4 ⟨rfl, hc4⟩
  have Hc4 := Lib.hid (Hc3.out.trans hc4)
  clear hc4 H4
  go_wp2_with fail
  go_ret
  exact ⟨rfl, Hc4.out⟩
theorem great_any (n c : Nat) (q : Option Addr) (w : World) : Calls Tryz.prog 13 #[.slice q n c] w fun e w' => e = .returned (.bool (decide (200 < n))) ∧ w' = w := by
  by_cases h : 200 < n
  · rw [decide_eq_true h]
    have f1 : decide ((200 : Int) < (n : Int)) = true := decide_eq_true (by omega)
    clear h
    go_enter Tryz.func13, Tryz.ntmps13
    go_wp2_with fail
    go_ret
    exact ⟨rfl, rfl⟩
  · rw [decide_eq_false h]
    have f1 : decide ((200 : Int) < (n : Int)) = false := decide_eq_false (by omega)
    clear h
    go_enter Tryz.func13, Tryz.ntmps13
    go_wp2_with fail
    go_ret
    exact ⟨rfl, rfl⟩
end Go.Proofs.YtaijhebjjbcdfaaGreatDoor
