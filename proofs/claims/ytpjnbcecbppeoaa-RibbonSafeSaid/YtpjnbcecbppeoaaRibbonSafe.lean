/- Behind a loss of power all that was safe is there, and a beginning of what waited, just as long as was kept. No condition beyond the statement's own. -/
import Derived.Test.YtpjnbcecbppeoaaRows
import Derived.Test.YtpjnbcecbppeoaaWalkH
import Derived.SizedLaws
import Derived.WalkKit
import Derived.ProofKit
import Derived.OpenShut
import Derived.ShutString
import Derived.ChangeOld
import Derived.Below
import Derived.StillTailTactics
namespace Go.Proofs.Ytpjnbcecbppeoaa.ribbonSafe
open Go.ChangeShapes Go.WideShapes Go.ChangeAt Go.RowKit
open Go.ChangeMaps (open_string shut_string)
set_option linter.unusedVariables false

theorem own : ownKnob Try.prog.godebug = none := by kernel_rfl
theorem laidOut : laidOutB Try.prog = true := by kernel_rfl


set_option maxHeartbeats 2000000 in
theorem walkB (b0 off c1 : Nat) (ps : List (List UInt8)) (a1 a2 : Int) (w : World) (hl : ps.length ≤ 9223372036854775807) (Pc : Hid (∀ r (hr : r < ps.length), ∃ A C, w.cell? ⟨b0, off + r, none⟩ = some (.slice A ps[r].length C) ∧ Src w (.slice A ps[r].length C) ps[r] ∧ ps[r].length ≤ 140737488351232)) :
    Calls Try.prog 4 #[.slice (some ⟨b0, off, none⟩) ps.length c1, .int .i64 a1, .int .i64 a2] w fun e w' => e = .returned (.bool true) ∧ Below w.heap.size w w' := by
  go_enter Try.func4, Try.ntmps4
  go_wp2_with fail
  refine (alive_any _).mono ?_
  rintro e w1 ⟨rfl, hc1⟩
  have HC1 := Lib.hid hc1
  clear hc1
  go_wp2_with fail
  go_loop [7, 9, 22] (fun n p i => ∃ k : Nat, k ≤ ps.length ∧ i = .int .i64 k ∧ n = .int .i64 ((flat ps k).length : Nat) ∧ (flat ps k).length ≤ 65536) (fun _ _ i => ps.length - (intOf i).toNat)
  case atStart => exact ⟨0, Nat.zero_le _, rfl, rfl, Nat.zero_le _⟩
  case round =>
    obtain ⟨k, hk, rfl, rfl, hfl⟩ := hrel
    by_cases hlt : k < ps.length
    · obtain ⟨A, C, hcell, hsrc, hlen⟩ := (Pc.out k hlt)
      have hcell1 := HC1.out.keep hcell
      have hsucc := flat_len_succ ps k hlt
      have Hsucc := Lib.hid hsucc
      clear hsrc hsucc hcell
      by_cases hbig : 65536 < (flat ps k).length + ps[k].length
      · have hbig' : (65536 : Int) < ((flat ps k).length : Int) + (ps[k].length : Int) := by omega
        go_wp2
        go_ret
        exact ⟨rfl, HC1.out.below⟩
      · have hsm' : ((flat ps k).length : Int) + (ps[k].length : Int) ≤ 65536 := by omega
        go_wp2
        go_round
        case rel => exact ⟨k + 1, by omega, by go_num, by rw [Hsucc.out]; go_num, by rw [Hsucc.out]; omega⟩
        case measure => simp [intOf]; omega
    · obtain rfl : k = ps.length := by omega
      have Hfl := Lib.hid hfl
      clear hfl
      by_cases h60 : 60 < ps.length
      · go_wp2_with fail
        go_ret
        exact ⟨rfl, HC1.out.below⟩
      · have hk5 := fun w => Lib.run_convert_bytes_const (P := Try.prog) w 22 5 #[.int .u8 102, .int .u8 105, .int .u8 114, .int .u8 115, .int .u8 116] 5 5 Try.underlying22 Try.underlying5
        go_wp2_with fail
        refine (new_any _ [102, 105, 114, 115, 116] _ (five_src w1) (by decide)).mono ?_
        rintro e w2 ⟨b, R, rfl, hr, hc, hR⟩
        have Hr := Lib.hid hr
        have Hi := Lib.hid (show Inv w w2 R from ⟨(HC1.out.trans ((Chg.refl _ _).alloc _)).trans hc, fun k hk => Nat.le_trans (HC1.out.trans ((Chg.refl _ _).alloc _)).size (hR k hk).1⟩)
        clear hr hc hR HC1 hk5
        go_wp2_with fail
        go_loopw [11, 12, 13, 14, 41] (fun al sf i p j wr => ∃ k : Nat, ∃ R' : Nat → Prop, ∃ ac : Nat, k ≤ ps.length ∧ j = .int .i64 k ∧ al = .string ⟨(allB ps k).toArray⟩ ∧ sf = .int .i64 (safeN ps a1 k : Nat) ∧ ac ≤ 2 * k ∧ Rb wr b R' ⟨allB ps k, safeN ps a1 k, false, ac, 0, 0⟩ ∧ Inv w wr R') (fun _ _ _ _ j _ => ps.length - (intOf j).toNat)
        case atStart => exact ⟨0, R, 0, Nat.zero_le _, rfl, rfl, by rw [safe_zero]; rfl, Nat.zero_le _, by rw [safe_zero]; exact Hr.out, Hi.out⟩
        case round =>
          obtain ⟨k, R', ac, hk, rfl, rfl, rfl, hac, hr, hi⟩ := hrel
          have Hr2 := Lib.hid hr
          have Hi2 := Lib.hid hi
          clear hr hi Hr Hi
          obtain ⟨w3, rfl⟩ : ∃ w3 : World, w3 = wr := ⟨_, rfl⟩
          by_cases hlt : k < ps.length
          · obtain ⟨A, C, hcell, hsrc, hlen⟩ := (Pc.out k hlt)
            have hcell3 := Hi2.out.1.keep hcell
            have Hsrc := Lib.hid hsrc
            have hal := allB_len ps k
            have hal2 := allB_len ps (k + 1)
            have hmon := flat_le ps (k + 1) ps.length (by omega)
            have hsucc := flat_len_succ ps k hlt
            have hfl := Hfl.out
            have hb1 : (allB ps k).length + ps[k].length ≤ 65541 := by omega
            have hb2 : (allB ps k).length ≤ 65541 := by omega
            have hb3 : ps[k].length ≤ 65541 := by omega
            have hb4 : ac < 1000000000 := by omega
            have Hsucc := Lib.hid (allB_succ ps k hlt)
            have Hcat := Lib.hid (text_cat (allB ps k) ps[k])
            have Hlen := Lib.hid (allB_len_succ ps k hlt)
            clear hsrc hcell hal hal2 hmon hsucc hfl hlen
            by_cases hf : (k : Int) = a1
            · have hfb : ((k : Int) == a1) = true := by simp [hf]
              have Hhit := Lib.hid (show safeN ps a1 (k + 1) = (allB ps (k + 1)).length from by rw [← hf]; exact safe_hit ps k)
              clear hf
              generalize hak : allB ps k = ak at *
              generalize hpk : ps[k] = pk at *
              go_wp2_with fail
              refine (write_plain b R' _ _ _ _ _ pk _ Hr2.out (Hsrc.out.chg Hi2.out.1 fun _ _ => id) hb4 (by omega)).mono ?_
              rintro e w4 ⟨rfl, R4, hr, hw⟩
              have Hr4 := Lib.hid hr
              have Hi4 := Lib.hid (Hi2.out.went hw)
              have hcv := (Hsrc.out.chg Hi4.out.1 fun _ _ => id).conv
              clear hr hw Hr2 Hi2
              go_wp2_with fail
              refine (flush_plain b R4 _ _ _ _ _ Hr4.out (by omega)).mono ?_
              rintro e w5 ⟨rfl, R5, hr, hw⟩
              have Hr5 := Lib.hid hr
              have Hi5 := Lib.hid (Hi4.out.went hw)
              clear hr hw Hr4 Hi4 hcv
              go_wp2_with fail
              go_roundw
              case rel =>
                refine ⟨k + 1, R5, ac + 1 + 1, by omega, by go_num, ?_, ?_, by omega, ?_, Hi5.out⟩
                · rw [Hcat.out, Hsucc.out]
                · rw [Hhit.out, Hlen.out]; go_num
                · rw [Hhit.out, Hsucc.out]; exact Hr5.out
              case measure => simp [intOf]; omega
            · have hfb : ((k : Int) == a1) = false := by simp [hf]
              have Hmiss := Lib.hid (safe_miss ps a1 k hf)
              clear hf
              generalize hak : allB ps k = ak at *
              generalize hpk : ps[k] = pk at *
              go_wp2_with fail
              refine (write_plain b R' _ _ _ _ _ pk _ Hr2.out (Hsrc.out.chg Hi2.out.1 fun _ _ => id) hb4 (by omega)).mono ?_
              rintro e w4 ⟨rfl, R4, hr, hw⟩
              have Hr4 := Lib.hid hr
              have Hi4 := Lib.hid (Hi2.out.went hw)
              have hcv := (Hsrc.out.chg Hi4.out.1 fun _ _ => id).conv
              clear hr hw Hr2 Hi2
              go_wp2_with fail
              go_roundw
              case rel =>
                refine ⟨k + 1, R4, ac + 1, by omega, by go_num, ?_, ?_, by omega, ?_, Hi4.out⟩
                · rw [Hcat.out, Hsucc.out]
                · rw [Hmiss.out]
                · rw [Hmiss.out, Hsucc.out]; exact Hr4.out
              case measure => simp [intOf]; omega
          · obtain rfl : k = ps.length := by omega
            have hsl := safe_le ps a1 ps.length
            have hal := allB_len ps ps.length
            have hfl := Hfl.out
            have hXl : (allB ps ps.length).length ≤ 65541 := by omega
            have hac' : ac < 1000000000 := by omega
            clear hal hfl
            generalize safeN ps a1 ps.length = S at *
            generalize allB ps ps.length = X at *
            obtain ⟨m, hm⟩ : ∃ m, m = S + min a2.toNat (X.length - S) := ⟨_, rfl⟩
            have Hm := Lib.hid hm
            have Hml := Lib.hid (show m ≤ X.length from by omega)
            have Hsm := Lib.hid (show S ≤ m from by omega)
            clear hm
            go_wp2_with fail
            refine (off_plain b R' _ _ _ _ m _ a2 _ Hr2.out Hm.out).mono ?_
            rintro e w4 ⟨rfl, hr, hw⟩
            have Hr4 := Lib.hid hr
            have Hi4 := Lib.hid (Hi2.out.went hw)
            clear hr hw Hr2 Hi2
            go_wp2_with fail
            refine (down_any b R' _ _ Hr4.out).mono ?_
            rintro e w5 ⟨rfl, rfl⟩
            go_wp2_with fail
            refine (flush_off b R' _ _ Hr4.out rfl).mono ?_
            rintro e w5 ⟨rfl, rfl⟩
            go_wp2_with fail
            refine (on_plain b R' _ _ _ _ _ _ _ Hr4.out).mono ?_
            rintro e w6 ⟨rfl, hr, hw⟩
            have Hr6 := Lib.hid hr
            have Hi6 := Lib.hid (Hi4.out.went hw)
            clear hr hw Hr4 Hi4
            go_wp2_with fail
            refine (read_plain b R' _ _ _ _ _ _ Hr6.out).mono ?_
            rintro e w7 ⟨v, rfl, ho, hc⟩
            have Hr7 := Lib.hid (Hr6.out.keep hc)
            have Hi7 := Lib.hid (Hi6.out.chg hc)
            have Ho := Lib.hid ho
            clear ho hc Hr6 Hi6
            have hmx : m ≤ X.length := Hml.out
            have Hsl := Lib.hid (show S ≤ (X.take m).length from by rw [List.length_take]; have := Hsm.out; omega)
            have hcut := text_cut X m
            have hcvd := (Ho.out.src.chg (Chg.drew (Chg.refl NoB _)) fun _ _ => id).conv
            have Hr8 := Lib.hid Hr7.out.drew
            have Hi8 := Lib.hid (Hi7.out.chg (Chg.drew (Chg.refl NoB _)))
            rcases (show a2 < 0 ∨ (0 ≤ a2 ∧ a2 < (X.length : Int) - S) ∨ (0 ≤ a2 ∧ (X.length : Int) - S ≤ a2) by omega) with h2 | ⟨h2, h3⟩ | ⟨h2, h3⟩
            · obtain rfl : m = S := by have := Hm.out; omega
              clear Hm
              go_wp2_with fail
              generalize hcc : ByteArray.mk (X.take m).toArray = cc at hcvd hcut
              clear hcc
              go_still_tail 13, (by kernel_rfl)
              change wpList _ _ _ _ _ w7.drew
              generalize w7.drew = w8 at *
              go_wp2_with fail
              refine (cut_plain b R' _ _ _ _ _ m _ Hr8.out hac' rfl Hsl.out).mono ?_
              rintro e w9 ⟨rfl, R9, hr, hw⟩
              have Hi9 := Lib.hid (Hi8.out.went hw)
              clear hr hw
              go_wp2_with fail
              go_ret
              exact ⟨rfl, Hi9.out.1.below⟩
            · obtain ⟨n, rfl⟩ := Int.eq_ofNat_of_zero_le h2
              have hwant : (S : Int) + (n : Int) = (m : Int) := by have := Hm.out; omega
              clear Hm
              go_wp2_with fail
              generalize hcc : ByteArray.mk (X.take m).toArray = cc at hcvd hcut
              clear hcc
              go_still_tail 13, (by kernel_rfl)
              change wpList _ _ _ _ _ w7.drew
              generalize w7.drew = w8 at *
              go_wp2_with fail
              refine (cut_plain b R' _ _ _ _ _ S _ Hr8.out hac' rfl Hsl.out).mono ?_
              rintro e w9 ⟨rfl, R9, hr, hw⟩
              have Hi9 := Lib.hid (Hi8.out.went hw)
              clear hr hw
              go_wp2_with fail
              go_ret
              exact ⟨rfl, Hi9.out.1.below⟩
            · obtain ⟨n, rfl⟩ := Int.eq_ofNat_of_zero_le h2
              have hwant2 : (S : Int) + ((X.length : Int) - (S : Int)) = (m : Int) := by have := Hm.out; omega
              by_cases h4 : (X.length : Int) - S = n
              · have hwant : (S : Int) + (n : Int) = (m : Int) := by have := Hm.out; omega
                clear Hm h4
                go_wp2_with fail
                generalize hcc : ByteArray.mk (X.take m).toArray = cc at hcvd hcut
                clear hcc
                go_still_tail 13, (by kernel_rfl)
                change wpList _ _ _ _ _ w7.drew
                generalize w7.drew = w8 at *
                go_wp2_with fail
                refine (cut_plain b R' _ _ _ _ _ S _ Hr8.out hac' rfl Hsl.out).mono ?_
                rintro e w9 ⟨rfl, R9, hr, hw⟩
                have Hi9 := Lib.hid (Hi8.out.went hw)
                clear hr hw
                go_wp2_with fail
                go_ret
                exact ⟨rfl, Hi9.out.1.below⟩
              · have h5 : (X.length : Int) - S < n := by omega
                clear Hm h4
                go_wp2_with fail
                generalize hcc : ByteArray.mk (X.take m).toArray = cc at hcvd hcut
                clear hcc
                go_still_tail 13, (by kernel_rfl)
                change wpList _ _ _ _ _ w7.drew
                generalize w7.drew = w8 at *
                go_wp2_with fail
                refine (cut_plain b R' _ _ _ _ _ S _ Hr8.out hac' rfl Hsl.out).mono ?_
                rintro e w9 ⟨rfl, R9, hr, hw⟩
                have Hi9 := Lib.hid (Hi8.out.went hw)
                clear hr hw
                go_wp2_with fail
                go_ret
                exact ⟨rfl, Hi9.out.1.below⟩

set_option maxHeartbeats 2000000 in
theorem walkA (a0 : Option Addr) (c1 : Nat) (ps : List (List UInt8)) (h0 : ps = []) (a1 a2 : Int) (w : World) :
    Calls Try.prog 4 #[.slice a0 ps.length c1, .int .i64 a1, .int .i64 a2] w fun e w' => e = .returned (.bool true) ∧ Below w.heap.size w w' := by
  have H0 := Lib.hid h0
  have hl0 : ps.length = 0 := by rw [h0]; rfl
  have hl : ps.length ≤ 0 := by omega
  have Hl0 := Lib.hid hl0
  clear h0 hl0
  go_enter Try.func4, Try.ntmps4
  go_wp2_with fail
  refine (alive_any _).mono ?_
  rintro e w1 ⟨rfl, hc1⟩
  have HC1 := Lib.hid hc1
  clear hc1
  go_wp2_with fail
  go_loop [7, 9, 22] (fun n p i => ∃ k : Nat, k ≤ ps.length ∧ i = .int .i64 k ∧ n = .int .i64 ((flat ps k).length : Nat) ∧ (flat ps k).length ≤ 65536) (fun _ _ i => ps.length - (intOf i).toNat)
  case atStart => exact ⟨0, Nat.zero_le _, rfl, rfl, Nat.zero_le _⟩
  case round =>
    obtain ⟨k, hk, rfl, rfl, hfl⟩ := hrel
    obtain rfl : k = ps.length := by omega
    have Hfl := Lib.hid hfl
    clear hfl
    by_cases h60 : 60 < ps.length
    · exact absurd h60 (by omega)
    · have hk5 := fun w => Lib.run_convert_bytes_const (P := Try.prog) w 22 5 #[.int .u8 102, .int .u8 105, .int .u8 114, .int .u8 115, .int .u8 116] 5 5 Try.underlying22 Try.underlying5
      go_wp2_with fail
      refine (new_any _ [102, 105, 114, 115, 116] _ (five_src w1) (by decide)).mono ?_
      rintro e w2 ⟨b, R, rfl, hr, hc, hR⟩
      have Hr := Lib.hid hr
      have Hi := Lib.hid (show Inv w w2 R from ⟨(HC1.out.trans ((Chg.refl _ _).alloc _)).trans hc, fun k hk => Nat.le_trans (HC1.out.trans ((Chg.refl _ _).alloc _)).size (hR k hk).1⟩)
      clear hr hc hR HC1 hk5
      go_wp2_with fail
      go_loopw [11, 12, 13, 14, 41] (fun al sf i p j wr => ∃ k : Nat, ∃ R' : Nat → Prop, ∃ ac : Nat, k ≤ ps.length ∧ j = .int .i64 k ∧ al = .string ⟨(allB ps k).toArray⟩ ∧ sf = .int .i64 (safeN ps a1 k : Nat) ∧ ac ≤ 2 * k ∧ Rb wr b R' ⟨allB ps k, safeN ps a1 k, false, ac, 0, 0⟩ ∧ Inv w wr R') (fun _ _ _ _ j _ => ps.length - (intOf j).toNat)
      case atStart => exact ⟨0, R, 0, Nat.zero_le _, rfl, rfl, by rw [safe_zero]; rfl, Nat.zero_le _, by rw [safe_zero]; exact Hr.out, Hi.out⟩
      case round =>
        obtain ⟨k, R', ac, hk, rfl, rfl, rfl, hac, hr, hi⟩ := hrel
        have Hr2 := Lib.hid hr
        have Hi2 := Lib.hid hi
        clear hr hi Hr Hi
        obtain ⟨w3, rfl⟩ : ∃ w3 : World, w3 = wr := ⟨_, rfl⟩
        obtain rfl : k = ps.length := by omega
        have hsl := safe_le ps a1 ps.length
        have hal := allB_len ps ps.length
        have hfl := Hfl.out
        have hXl : (allB ps ps.length).length ≤ 65541 := by omega
        have hac' : ac < 1000000000 := by omega
        clear hal hfl
        generalize safeN ps a1 ps.length = S at *
        generalize allB ps ps.length = X at *
        obtain ⟨m, hm⟩ : ∃ m, m = S + min a2.toNat (X.length - S) := ⟨_, rfl⟩
        have Hm := Lib.hid hm
        have Hml := Lib.hid (show m ≤ X.length from by omega)
        have Hsm := Lib.hid (show S ≤ m from by omega)
        clear hm
        go_wp2_with fail
        refine (off_plain b R' _ _ _ _ m _ a2 _ Hr2.out Hm.out).mono ?_
        rintro e w4 ⟨rfl, hr, hw⟩
        have Hr4 := Lib.hid hr
        have Hi4 := Lib.hid (Hi2.out.went hw)
        clear hr hw Hr2 Hi2
        go_wp2_with fail
        refine (down_any b R' _ _ Hr4.out).mono ?_
        rintro e w5 ⟨rfl, rfl⟩
        go_wp2_with fail
        refine (flush_off b R' _ _ Hr4.out rfl).mono ?_
        rintro e w5 ⟨rfl, rfl⟩
        go_wp2_with fail
        refine (on_plain b R' _ _ _ _ _ _ _ Hr4.out).mono ?_
        rintro e w6 ⟨rfl, hr, hw⟩
        have Hr6 := Lib.hid hr
        have Hi6 := Lib.hid (Hi4.out.went hw)
        clear hr hw Hr4 Hi4
        go_wp2_with fail
        refine (read_plain b R' _ _ _ _ _ _ Hr6.out).mono ?_
        rintro e w7 ⟨v, rfl, ho, hc⟩
        have Hr7 := Lib.hid (Hr6.out.keep hc)
        have Hi7 := Lib.hid (Hi6.out.chg hc)
        have Ho := Lib.hid ho
        clear ho hc Hr6 Hi6
        have hmx : m ≤ X.length := Hml.out
        have Hsl := Lib.hid (show S ≤ (X.take m).length from by rw [List.length_take]; have := Hsm.out; omega)
        have hcut := text_cut X m
        have hcvd := (Ho.out.src.chg (Chg.drew (Chg.refl NoB _)) fun _ _ => id).conv
        have Hr8 := Lib.hid Hr7.out.drew
        have Hi8 := Lib.hid (Hi7.out.chg (Chg.drew (Chg.refl NoB _)))
        rcases (show a2 < 0 ∨ (0 ≤ a2 ∧ a2 < (X.length : Int) - S) ∨ (0 ≤ a2 ∧ (X.length : Int) - S ≤ a2) by omega) with h2 | ⟨h2, h3⟩ | ⟨h2, h3⟩
        · obtain rfl : m = S := by have := Hm.out; omega
          clear Hm
          go_wp2_with fail
          generalize hcc : ByteArray.mk (X.take m).toArray = cc at hcvd hcut
          clear hcc
          go_still_tail 13, (by kernel_rfl)
          change wpList _ _ _ _ _ w7.drew
          generalize w7.drew = w8 at *
          go_wp2_with fail
          refine (cut_plain b R' _ _ _ _ _ m _ Hr8.out hac' rfl Hsl.out).mono ?_
          rintro e w9 ⟨rfl, R9, hr, hw⟩
          have Hi9 := Lib.hid (Hi8.out.went hw)
          clear hr hw
          go_wp2_with fail
          go_ret
          exact ⟨rfl, Hi9.out.1.below⟩
        · obtain ⟨n, rfl⟩ := Int.eq_ofNat_of_zero_le h2
          have hwant : (S : Int) + (n : Int) = (m : Int) := by have := Hm.out; omega
          clear Hm
          go_wp2_with fail
          generalize hcc : ByteArray.mk (X.take m).toArray = cc at hcvd hcut
          clear hcc
          go_still_tail 13, (by kernel_rfl)
          change wpList _ _ _ _ _ w7.drew
          generalize w7.drew = w8 at *
          go_wp2_with fail
          refine (cut_plain b R' _ _ _ _ _ S _ Hr8.out hac' rfl Hsl.out).mono ?_
          rintro e w9 ⟨rfl, R9, hr, hw⟩
          have Hi9 := Lib.hid (Hi8.out.went hw)
          clear hr hw
          go_wp2_with fail
          go_ret
          exact ⟨rfl, Hi9.out.1.below⟩
        · obtain ⟨n, rfl⟩ := Int.eq_ofNat_of_zero_le h2
          have hwant2 : (S : Int) + ((X.length : Int) - (S : Int)) = (m : Int) := by have := Hm.out; omega
          by_cases h4 : (X.length : Int) - S = n
          · have hwant : (S : Int) + (n : Int) = (m : Int) := by have := Hm.out; omega
            clear Hm h4
            go_wp2_with fail
            generalize hcc : ByteArray.mk (X.take m).toArray = cc at hcvd hcut
            clear hcc
            go_still_tail 13, (by kernel_rfl)
            change wpList _ _ _ _ _ w7.drew
            generalize w7.drew = w8 at *
            go_wp2_with fail
            refine (cut_plain b R' _ _ _ _ _ S _ Hr8.out hac' rfl Hsl.out).mono ?_
            rintro e w9 ⟨rfl, R9, hr, hw⟩
            have Hi9 := Lib.hid (Hi8.out.went hw)
            clear hr hw
            go_wp2_with fail
            go_ret
            exact ⟨rfl, Hi9.out.1.below⟩
          · have h5 : (X.length : Int) - S < n := by omega
            clear Hm h4
            go_wp2_with fail
            generalize hcc : ByteArray.mk (X.take m).toArray = cc at hcvd hcut
            clear hcc
            go_still_tail 13, (by kernel_rfl)
            change wpList _ _ _ _ _ w7.drew
            generalize w7.drew = w8 at *
            go_wp2_with fail
            refine (cut_plain b R' _ _ _ _ _ S _ Hr8.out hac' rfl Hsl.out).mono ?_
            rintro e w9 ⟨rfl, R9, hr, hw⟩
            have Hi9 := Lib.hid (Hi8.out.went hw)
            clear hr hw
            go_wp2_with fail
            go_ret
            exact ⟨rfl, Hi9.out.1.below⟩

theorem walk (a0 : Option Addr) (len0 cap0 : Nat) (ps : List (List UInt8)) (a1 a2 : Int) (w : World) (w0 : Pcs w a0 len0 cap0 ps) :
    Calls Try.prog 4 #[.slice a0 len0 cap0, .int .i64 a1, .int .i64 a2] w fun e w' => e = .returned (.bool true) ∧ Below w.heap.size w w' := by
  rcases w0 with ⟨rfl, rfl, rfl, rfl⟩ | ⟨x, rfl, rfl, h2, h3, h4⟩
  · exact walkA none 0 [] rfl a1 a2 w
  · by_cases hz : ps.length = 0
    · exact walkA _ cap0 ps (List.eq_nil_of_length_eq_zero hz) a1 a2 w
    · obtain ⟨b, off, spot⟩ := x
      obtain ⟨A, C, hc, _⟩ := h4 0 (by omega)
      have hspot : spot = none := by simpa [Addr.add] using World.cell?_spot hc
      subst hspot
      refine walkB b off cap0 ps a1 a2 w (by unfold maxLen at h3; omega) (Lib.hid fun r hr => ?_)
      obtain ⟨A, C, g1, g2, g3⟩ := h4 r hr
      have e : (⟨b, off, none⟩ : Addr).add r = ⟨b, off + r, none⟩ := by simp [Addr.add]
      rw [e] at g1
      exact ⟨A, C, g1, g2, g3⟩

set_option maxRecDepth 100000 in
theorem lifted (os : Os) (started : os.Started) (H : Type) (enc : TypeId × Value → H) :
    ReturnsInHanded {} Try.checked os 4 .any (Rows.ribbonSafeSpec.pre6 enc Try.prog Try.f4 Rows.ribbonSafeRow.domain false) (Rows.ribbonSafeSpec.post enc Try.prog Try.f4 false true false false) := by
  refine returnsInHanded_of_change_sized (C := Try.checked) own started (by kernel_rfl) Try.func4
    (ChangeSpec.witness6 (enc := enc) (C := Try.checked) false ⟨#[], #[.slice none 0 0, .int .i64 0, .int .i64 0], []⟩ 8 (by kernel_rfl) (by kernel_rfl) (by kernel_rfl) (by kernel_rfl)) ?_
  intro W base args ds gs before hval0 hW hcnd hsz0 _
  have hsz : (DataW.weightsEach Try.prog (Try.f4.params.toList ++ Rows.ribbonSafeSpec.plain.varTypes Try.prog) (ds ++ gs)).all (· ≤ reachBytes) = true := hsz0
  clear hsz0
  have hval : ∀ (j : Nat) t v, Try.f4.params[j]? = some t → args[j]? = some v → Value.okWide Try.prog W .any base t v := hval0
  have hW' := hW
  obtain ⟨p, q, hA0, hV, rfl, hfz, hnd⟩ := hW
  have hA : DataW.TrodAll enc Try.prog W 0 (fun _ => true) true Try.f4.params.toList args.toList ds p := hA0
  rw [Try.params4] at hA hval hsz
  obtain ⟨v0, vs0, d0, ds0, p0, q0, hargs, rfl, rfl, h0, r0⟩ := trodAll_cons hA
  obtain ⟨v1, vs1, d1, ds1, p1, q1, rfl, rfl, rfl, h1, r1⟩ := trodAll_cons r0
  obtain ⟨v2, vs2, d2, ds2, p2, q2, rfl, rfl, rfl, h2, r2⟩ := trodAll_cons r1
  obtain ⟨rfl, rfl, rfl⟩ := trodAll_nil r2
  obtain rfl : args = #[v0, v1, v2] := by cases args; simp_all
  obtain ⟨rfl, rfl⟩ := trodVars_none hV
  obtain ⟨a0, len0, cap0, rfl⟩ := okWide_slice Try.underlying43 (hval 0 43 v0 rfl rfl)
  have k0 := h0
  have lt0 : ∀ x ∈ p0, x.block < W.heap.size := by obtain ⟨m, hm⟩ := k0; exact DataW.trod_lt m _ _ _ hm
  obtain ⟨ps, w0⟩ : ∃ ps, Pcs W a0 len0 cap0 ps := by
    obtain ⟨fuel, hf⟩ := h0
    exact pcs_of hf hsz rfl rfl
  obtain ⟨a1, rfl, rfl, rfl, w1⟩ := open_int Try.underlying3 (hval 1 3 v1 rfl rfl) h1
  obtain ⟨a2, rfl, rfl, rfl, w2⟩ := open_int Try.underlying3 (hval 2 3 v2 rfl rfl) h2
  clear hA0 hval0
  refine (walk a0 len0 cap0 ps a1 a2 W w0).mono fun e W' ⟨he, bel⟩ => ?_
  subst he
  exact ⟨_, rfl, _, _, _, [], _, [], hW', trodAll_mk1 (shut_bool Try.underlying4 _), (trodAll_cons_mk (Below.trod laidOut (by kernel_rfl) (of_decide_eq_true (by kernel_rfl)) k0 bel lt0) (trodAll_cons_mk (shut_int Try.underlying3 w1) (trodAll_cons_mk (shut_int Try.underlying3 w2) trodAll_mk0))), rfl, bel.frame _, fun h => by cases h⟩

theorem over : Rows.ribbonSafeRow.holds Try.pinned (OpenSpec.ofChange Rows.ribbonSafeSpec) :=
  OpenClaim.holds_of_wide 4 Try.f4 rfl rfl rfl rfl rfl rfl rfl ⟨rfl, rfl, rfl, rfl, rfl⟩ rfl rfl rfl rfl rfl (by kernel_rfl) Try.func4 (by kernel_rfl)
    (of_decide_eq_true (by kernel_rfl)) (by unfold Func.isWrapper; first | (rw [if_pos (by decide +kernel)]; kernel_rfl) | (rw [if_neg (by decide +kernel)]; exact ⟨rfl, rfl⟩))
    (fun os started H enc _ => lifted os started H enc)


theorem proved : Rows.RibbonSafeSaid := over
#print axioms proved
end Go.Proofs.Ytpjnbcecbppeoaa.ribbonSafe
