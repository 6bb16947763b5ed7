/- A script of calls that came in; how great it is. Condition: each length within the form's reach. -/
import Derived.Test.YtpjnbcecbppeoaaRefG
namespace Go.Proofs.Ytpjnbcecbppeoaa
set_option linter.unusedVariables false
open Go.ChangeShapes Go.WideShapes Go.ChangeAt Go.RowKit
structure CallD where
  kind : Int
  n : Int
  k : Int
  q : Option Addr
  c : Nat
  bs : List UInt8
structure CallAt (w : World) (b0 p : Nat) (d : CallD) : Prop where
  c0 : w.cell? ⟨b0, p, none⟩ = some (.int .i64 d.kind)
  c1 : w.cell? ⟨b0, p + 1, none⟩ = some (.int .i64 d.n)
  c2 : w.cell? ⟨b0, p + 2, none⟩ = some (.int .i64 d.k)
  c3 : w.cell? ⟨b0, p + 3, none⟩ = some (.slice d.q d.bs.length d.c)
  src : Src w (.slice d.q d.bs.length d.c) d.bs
  len : d.bs.length ≤ 140737488351232
  n1 : d.n ≤ 9223372036854775807
  n0 : -9223372036854775808 ≤ d.n
theorem CallAt.keep {w w' : World} {b0 p : Nat} {d : CallD} (h : CallAt w b0 p d) (hc : Chg NoB w w') : CallAt w' b0 p d :=
  ⟨hc.keep h.c0, hc.keep h.c1, hc.keep h.c2, hc.keep h.c3, h.src.chg hc fun _ _ => id, h.len, h.n1, h.n0⟩
def Calls1 (w : World) (b0 off : Nat) (cs : List CallD) : Prop := ∀ r (hr : r < cs.length), CallAt w b0 (off + r * 4) cs[r]
def sumB (cs : List CallD) (k : Nat) : Nat := ((cs.take k).map fun d => d.bs.length).sum
theorem sumB_succ (cs : List CallD) (k : Nat) (h : k < cs.length) : sumB cs (k + 1) = sumB cs k + cs[k].bs.length := by
  unfold sumB
  rw [List.take_succ_eq_append_getElem h, List.map_append, List.sum_append]
  simp
def Great (nb : Nat) (cs : List CallD) (w : World) (e : Ending) (w' : World) : Prop := ∃ g : Bool, e = .returned (.bool g) ∧ Chg NoB w w' ∧ (g = false → cs.length ≤ 60 ∧ nb + sumB cs cs.length ≤ 2097152)
set_option maxHeartbeats 2000000 in
theorem great_any (b0 off cap nb c0 : Nat) (q0 : Option Addr) (cs : List CallD) (w : World) (Hcs : Hid (Calls1 w b0 off cs)) (hl : cs.length ≤ 9223372036854775807) (hnb : nb ≤ 140737488351232) :
    Calls Try.prog 8 #[.slice q0 nb c0, .slice (some ⟨b0, off, none⟩) cs.length cap] w (Great nb cs w) := by
  go_enter Try.func8, Try.ntmps8
  go_wp2_with fail
  go_loopw [5, 7, 12] (fun n p i wr => ∃ k : Nat, k ≤ cs.length ∧ i = .int .i64 k ∧ n = .int .i64 ((nb + sumB cs k : Nat) : Int) ∧ (k = 0 ∨ nb + sumB cs k ≤ 2097152) ∧ Chg NoB w wr) (fun _ _ i _ => cs.length - (intOf i).toNat)
  case atStart => exact ⟨0, Nat.zero_le _, rfl, rfl, .inl rfl, Chg.refl _ _⟩
  case round =>
    obtain ⟨k, hk, rfl, rfl, hkn, hc⟩ := hrel
    by_cases hlt : k < cs.length
    · have hat := (Hcs.out k hlt).keep hc
      obtain ⟨d0, d1, d2, d3, _, dl, _, _⟩ := hat
      have Hsucc := Lib.hid (sumB_succ cs k hlt)
      have hb1 : nb + sumB cs k ≤ 140737488351232 + 2097152 := by
        rcases hkn with rfl | h
        · have : sumB cs 0 = 0 := rfl
          omega
        · omega
      generalize sumB cs k = S at *
      generalize cs[k] = d at *
      by_cases hbig : 2097152 < nb + S + d.bs.length
      · have hbig' : (2097152 : Int) < (nb : Int) + (S : Int) + (d.bs.length : Int) := by omega
        go_wp2
        go_ret
        exact ⟨true, rfl, hc.alloc _, fun x => by simp at x⟩
      · have hsm' : (nb : Int) + (S : Int) + (d.bs.length : Int) ≤ 2097152 := by omega
        go_wp2
        go_roundw
        case rel => exact ⟨k + 1, by omega, by go_num, by rw [Hsucc.out]; go_num, .inr (by rw [Hsucc.out]; omega), hc.alloc _⟩
        case measure => simp [intOf]; omega
    · obtain rfl : k = cs.length := by omega
      have hb1 : nb + sumB cs cs.length ≤ 140737488351232 + 2097152 := by
        rcases hkn with h | h
        · have : sumB cs cs.length = 0 := by
            have : cs = [] := List.eq_nil_of_length_eq_zero h
            subst this; rfl
          omega
        · omega
      by_cases h60 : 60 < cs.length
      · generalize sumB cs cs.length = S at *
        have h60' : (60 : Int) < (cs.length : Int) := by omega
        go_wp2
        go_ret
        exact ⟨true, rfl, hc, fun x => by simp at x⟩
      · by_cases hbig : 2097152 < nb + sumB cs cs.length
        · generalize sumB cs cs.length = S at *
          have hbig' : (2097152 : Int) < (nb : Int) + (S : Int) := by omega
          go_wp2
          go_ret
          exact ⟨true, rfl, hc, fun x => by simp at x⟩
        · have Hfin := Lib.hid (show cs.length ≤ 60 ∧ nb + sumB cs cs.length ≤ 2097152 from ⟨by omega, by omega⟩)
          generalize hS : sumB cs cs.length = S at *
          have hsm' : (nb : Int) + (S : Int) ≤ 2097152 := by omega
          have HS := Lib.hid hS
          clear hS
          go_wp2
          go_ret
          exact ⟨_, rfl, hc, fun _ => ⟨Hfin.out.1, by rw [HS.out]; exact Hfin.out.2⟩⟩
set_option maxHeartbeats 2000000 in
theorem great_none (a0 : Option Addr) (cap nb c0 : Nat) (q0 : Option Addr) (w : World) (hnb : nb ≤ 140737488351232) :
    Calls Try.prog 8 #[.slice q0 nb c0, .slice a0 0 cap] w (Great nb [] w) := by
  go_enter Try.func8, Try.ntmps8
  go_wp2_with fail
  go_loopw [5, 7, 12] (fun n p i wr => i = .int .i64 0 ∧ n = .int .i64 (nb : Int) ∧ wr = w) (fun _ _ i _ => 0)
  case atStart => exact ⟨rfl, rfl, rfl⟩
  case round =>
    obtain ⟨rfl, rfl, rfl⟩ := hrel
    by_cases hbig : 2097152 < nb
    · have hbig' : (2097152 : Int) < (nb : Int) := by omega
      go_wp2
      go_ret
      exact ⟨true, rfl, Chg.refl _ _, fun x => by simp at x⟩
    · have hsm' : (nb : Int) ≤ 2097152 := by omega
      have Hfin := Lib.hid (show nb ≤ 2097152 from by omega)
      go_wp2
      go_ret
      exact ⟨_, rfl, Chg.refl _ _, fun _ => ⟨by decide, by simpa [sumB] using Hfin.out⟩⟩
end Go.Proofs.Ytpjnbcecbppeoaa
