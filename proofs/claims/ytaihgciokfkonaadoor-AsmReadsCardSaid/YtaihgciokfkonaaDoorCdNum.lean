/- Numbers read and written, the program's and the library's. Condition: of Atoi, that the library variables read as listed. -/
import Derived.Test.YtaihgciokfkonaaDoorNdLib
namespace Go.Proofs.YtaihgciokfkonaaDoor
set_option linter.unusedVariables false
open Go.ChangeShapes Go.WideShapes Go.ChangeAt Go.RowKit
theorem digP_bounds {l : List UInt8} {n : Int} (h : digP l = some n) : (-9223372036854775808 ≤ n ∧ n ≤ 9223372036854775807) ∧ Lib.itoa n = l := by
  unfold digP at h
  split at h
  · rename_i m hm
    split at h
    · rename_i e
      cases h
      exact ⟨Lib.atoiAll_bounds hm, e⟩
    · cases h
  · cases h
theorem atoi_itoa (n : Int) (h0 : -9223372036854775808 ≤ n) (h1 : n ≤ 9223372036854775807) : Lib.atoiAll (Lib.itoa n) = .ok n := by
  by_cases hn : n < 0
  · have hv : (Lib.decDigits n.natAbs).foldl (fun n b => n * 10 + (b.toNat - 48)) 0 = n.natAbs := val_dec _
    have hp := parse_ok (Lib.decDigits n.natAbs) 0 (dec_in _) (by rw [hv]; omega)
    rw [hv] at hp
    unfold Lib.itoa
    rw [if_pos hn, Lib.atoiAll_minus]
    unfold Lib.parseMag
    rw [if_neg (dec_ne _), hp]
    simp only [Lib.signed]
    rw [if_neg (by omega)]
    congr 1
    omega
  · obtain ⟨m, rfl⟩ := Int.eq_ofNat_of_zero_le (by omega : 0 ≤ n)
    have hd := digP_dec m (by omega)
    have hi : Lib.itoa (m : Int) = Lib.decDigits m := by unfold Lib.itoa; rw [if_neg (by omega), Int.toNat_natCast]
    unfold digP at hd
    rw [hi]
    split at hd
    · rename_i k hk
      split at hd
      · cases hd; exact hk
      · cases hd
    · cases hd
theorem digP_itoa (n : Int) (h0 : -9223372036854775808 ≤ n) (h1 : n ≤ 9223372036854775807) : digP (Lib.itoa n) = some n := by
  unfold digP
  rw [atoi_itoa n h0 h1]
  simp
def atoiV (l : List UInt8) : Int := match Lib.atoiAll l with
  | .ok n => n
  | .range => Lib.atoiSat l
  | _ => 0
def AtoiP (l : List UInt8) (w : World) (e : Ending) (w' : World) : Prop := Chg NoB w w' ∧ ∃ ev : Value, e = .returned (.tuple #[.int .i64 (atoiV l), ev])
theorem atoiV_in (l : List UInt8) : -9223372036854775808 ≤ atoiV l ∧ atoiV l ≤ 9223372036854775807 := by
  unfold atoiV
  cases h : Lib.atoiAll l with
  | ok n => exact Lib.atoiAll_bounds h
  | range => unfold Lib.atoiSat; simp only; split <;> decide
  | _ => exact ⟨by show (-9223372036854775808 : Int) ≤ 0; decide, by show (0 : Int) ≤ 9223372036854775807; decide⟩
theorem atoi_say {l : List UInt8} {n : Int} {ev : Value} {e : Ending} (hn : atoiV l = n) (he : e = .returned (.tuple #[.int .i64 n, ev])) : ∃ ev, e = .returned (.tuple #[.int .i64 (atoiV l), ev]) := ⟨ev, by rw [he, hn]⟩
theorem atoiV_itoa (n : Int) (h0 : -9223372036854775808 ≤ n) (h1 : n ≤ 9223372036854775807) : atoiV (Lib.itoa n) = n := by
  unfold atoiV
  rw [atoi_itoa n h0 h1]
theorem atoi_any (s : ByteArray) (base : Nat) (w : World) (h : Lb base w) (hs : s.size ≤ 281474976710656) : Calls Tryd.prog 42 #[.string s] w (AtoiP s.data.toList w) := by
  cases ha : Lib.atoiAll s.data.toList with
  | ok n =>
    refine (Tryd.strconv_Atoi_ok s (by omega) n ha w).mono fun e w' ⟨he, hw⟩ => ⟨?_, atoi_say (by unfold atoiV; rw [ha]) he⟩
    rcases hw with rfl | ⟨t, rfl⟩
    · exact Chg.refl _ _
    · exact chg_of_below (Lib.bytesWorld_below _ _ _)
  | range =>
    obtain ⟨tp, p, hv⟩ := h.rng
    refine (Tryd.strconv_Atoi_range_var s hs ha tp p w (hv w (Below.refl _ _))).mono fun e w' ⟨M, he, _, _, g⟩ => ⟨chg_of_below g, atoi_say (by unfold atoiV; rw [ha]) he⟩
  | _ =>
    obtain ⟨tp, p, hv⟩ := h.syn
    refine (Tryd.strconv_Atoi_bad_var s hs (by rw [ha]; intro h; cases h) (fun v => by rw [ha]; intro h; cases h) tp p w (hv w (Below.refl _ _))).mono fun e w' ⟨M, he, _, _, g⟩ => ⟨chg_of_below g, atoi_say (by unfold atoiV; rw [ha]) he⟩
theorem digP_atoi (l : List UInt8) : digP l = if Lib.itoa (atoiV l) = l then some (atoiV l) else none := by
  by_cases h : Lib.itoa (atoiV l) = l
  · rw [if_pos h]
    have hb := atoiV_in l
    have := digP_itoa (atoiV l) hb.1 hb.2
    rwa [h] at this
  · rw [if_neg h]
    cases hd : digP l with
    | none => rfl
    | some n =>
      obtain ⟨hb, hi⟩ := digP_bounds hd
      exact absurd (by rw [← hi, atoiV_itoa n hb.1 hb.2]) h
end Go.Proofs.YtaihgciokfkonaaDoor
