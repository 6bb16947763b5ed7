/- What is handed in stays, and isn't kept; what is answered is its own; two ribbons know nothing of one another. No condition beyond the statement's own. -/
import Derived.Test.YtpjnbcecbppeoaaRows
import Derived.Test.YtpjnbcecbppeoaaWalkG
import Derived.SizedLaws
import Derived.WalkKit
import Derived.ProofKit
import Derived.OpenShut
import Derived.ShutString
import Derived.ChangeOld
import Derived.Below
namespace Go.Proofs.Ytpjnbcecbppeoaa.ribbonKeeps
open Go.ChangeShapes Go.WideShapes Go.ChangeAt Go.RowKit
open Go.ChangeMaps (open_string shut_string)
set_option linter.unusedVariables false

theorem own : ownKnob Try.prog.godebug = none := by kernel_rfl
theorem laidOut : laidOutB Try.prog = true := by kernel_rfl


set_option maxHeartbeats 4000000 in
theorem walk (a0 : Option Addr) (len0 cap0 : Nat) (z0 : List Int) (a1 : Option Addr) (len1 cap1 : Nat) (z1 : List Int) (w : World) (b0 : len0 ≤ 140737488351232) (b1 : len1 ≤ 140737488351232) (w0 : IsRow .u8 w a0 len0 cap0 z0) (w1 : IsRow .u8 w a1 len1 cap1 z1) :
    Calls Try.prog 5 #[.slice a0 len0 cap0, .slice a1 len1 cap1] w fun e w' => e = .returned (.bool true) ∧ Below w.heap.size w w' := by
  obtain ⟨xs, hxl, hxs⟩ := isrow_src _ _ _ _ _ w0
  obtain ⟨ys, hyl, hys⟩ := isrow_src _ _ _ _ _ w1
  subst hxl
  subst hyl
  have Hx := Lib.hid hxs
  have Hy := Lib.hid hys
  clear hxs hys w0 w1
  by_cases hbig : 16384 < xs.length + ys.length
  · have hbig' : (16384 : Int) < (xs.length : Int) + (ys.length : Int) := by omega
    go_enter Try.func5, Try.ntmps5
    go_wp2_with fail
    refine (alive_any _).mono ?_
    rintro e w1 ⟨rfl, hc⟩
    go_wp2_with fail
    go_ret
    exact ⟨rfl, hc.below⟩
  · have hsm : (xs.length : Int) + (ys.length : Int) ≤ 16384 := by omega
    clear hbig
    go_enter Try.func5, Try.ntmps5
    go_wp2_with fail
    refine (alive_any _).mono ?_
    rintro e w1 ⟨rfl, hc1⟩
    have HC1 := Lib.hid hc1
    clear hc1
    go_wp2_with (at_builtin; refine append_new rfl (.tmp 26) (.tmp 27) rfl w1 rfl _ rfl xs (Hx.out.chg HC1.out fun _ _ => id) (by omega) ?_)
    intro g1 cap1' w2 ho1 hc2
    have HO1 := Lib.hid ho1
    have Hs12 := Lib.hid hc2.size
    have HC2 := Lib.hid (HC1.out.trans hc2)
    clear ho1 hc2
    go_wp2_with (at_builtin; refine append_new rfl (.tmp 29) (.tmp 30) rfl w2 rfl _ rfl ys (Hy.out.chg HC2.out fun _ _ => id) (by omega) ?_)
    intro g2 cap2' w3 ho2 hc3
    have HO1' := Lib.hid (HO1.out.chg hc3 fun _ _ => id)
    have HO2 := Lib.hid ho2
    have HC3 := Lib.hid (HC2.out.trans hc3)
    clear ho2 hc3
    go_wp2_with fail
    refine (new_any _ xs _ HO1'.out.src (by omega)).mono ?_
    rintro e w4 ⟨b, R, rfl, hr, hc, hR⟩
    have Hr := Lib.hid hr
    have HRb := Lib.hid hR
    have HC4 := Lib.hid hc
    clear hr hc hR
    go_wp2_with fail
    refine (new_any _ [] _ (.inl ⟨rfl, rfl⟩) (by simp)).mono ?_
    rintro e w5 ⟨b2, R2, rfl, hr, hc, hR⟩
    have Hr2 := Lib.hid hr
    have HRb2 := Lib.hid hR
    have HC5 := Lib.hid hc
    have Hr1 := Lib.hid (Hr.out.keep hc)
    clear hr hc hR Hr
    go_wp2_with fail
    refine (write_plain b R _ _ _ _ _ ys _ Hr1.out ((HO2.out.src.chg HC4.out fun _ _ => id).chg HC5.out fun _ _ => id) (by decide) (by omega)).mono ?_
    rintro e w6 ⟨rfl, R', hr, hw⟩
    have P := Lib.hid (keeps_after HC1.out HC3.out Hs12.out HO1.out HO1'.out HO2.out HC4.out HRb.out HC5.out HRb2.out Hr2.out hr hw)
    clear hr hw Hr1 Hr2 HRb HRb2 HC4 HC5 HO1 HO1' HO2 HC2 HC1 HC3 Hs12
    have k1 := P.out.o1.src.conv
    have k2 := P.out.o2.src.conv
    have k3 := (Hx.out.chg P.out.k.chg fun _ _ => id).conv
    have k4 := (Hy.out.chg P.out.k.chg fun _ _ => id).conv
    go_wp2_with fail
    clear k1 k2 k3 k4
    go_loopw [9, 55] (fun p i wr => ∃ k : Nat, k ≤ xs.length ∧ i = .int .i64 k ∧ Mine g1 cap1' xs.length w6 wr) (fun _ i _ => xs.length - (intOf i).toNat)
    case atStart => exact ⟨0, Nat.zero_le _, rfl, P.out.o1.mine rfl⟩
    case round =>
      obtain ⟨k, hk, rfl, hm⟩ := hrel
      have HM := Lib.hid hm
      by_cases hlt : k < xs.length
      · obtain ⟨c, hcell, hfrz⟩ := hm.cell k hlt
        clear hm
        go_wp2
        go_roundw
        case rel => exact ⟨k + 1, by omega, by go_num, HM.out.store k (c + 1) _ (succ_u8 c)⟩
        case measure => simp [intOf]; omega
      · clear hm
        obtain ⟨w7, rfl⟩ : ∃ w7 : World, w7 = wr := ⟨_, rfl⟩
        obtain ⟨zs1, q1, q2, hch⟩ := HM.out
        have K7 := Lib.hid (P.out.k.set P.out.l1 (fun k h => (P.out.a1 k h).1) (fun k h => (P.out.a2 k h).1) hch)
        have O7 := Lib.hid (P.out.o2.chg hch fun k hk => by simp only [Value.ownBlock, Option.some.injEq] at hk; rw [← hk]; exact P.out.ne)
        have Z7 := Lib.hid hch.size
        clear hch HM q1 q2 zs1
        go_wp2_with fail
        go_loopw [10, 67] (fun p i wr => ∃ k : Nat, k ≤ ys.length ∧ i = .int .i64 k ∧ Mine g2 cap2' ys.length w7 wr) (fun _ i _ => ys.length - (intOf i).toNat)
        case atStart => exact ⟨0, Nat.zero_le _, rfl, O7.out.mine rfl⟩
        case round =>
          obtain ⟨k, hk, rfl, hm⟩ := hrel
          have HM := Lib.hid hm
          by_cases hlt : k < ys.length
          · obtain ⟨c, hcell, hfrz⟩ := hm.cell k hlt
            clear hm
            go_wp2
            go_roundw
            case rel => exact ⟨k + 1, by omega, by go_num, HM.out.store k (c + 1) _ (succ_u8 c)⟩
            case measure => simp [intOf]; omega
          · clear hm
            obtain ⟨w8, rfl⟩ : ∃ w8 : World, w8 = wr := ⟨_, rfl⟩
            obtain ⟨zs2, q1, q2, hch⟩ := HM.out
            have K8 := Lib.hid (K7.out.set P.out.l2 (fun k h => (P.out.a1 k h).2.1) (fun k h => (P.out.a2 k h).2.1) hch)
            have Z8 := Lib.hid (Nat.le_trans Z7.out hch.size)
            clear hch HM q1 q2 zs2 K7 O7 Z7
            go_wp2_with fail
            refine (keep_read b R' _ (xs ++ ys) _ K8.out.r1 rfl rfl).mono ?_
            rintro e w9 ⟨vx, rfl, hox, hcx⟩
            rcases hox.2 with ⟨hv, hn⟩ | ⟨gx, capx, curx, hv, hb, hrest⟩
            · subst hv
              have hn0 : (xs ++ ys).length = 0 := hn
              have K10 := Lib.hid (K8.out.keep hcx)
              clear hox hcx K8 P hn hn0
              go_wp2_with fail
              go_loopw [13, 84] (fun p i wr => i = .int .i64 0 ∧ wr = w9) (fun _ _ _ => 0)
              case atStart => exact ⟨rfl, rfl⟩
              case round =>
                obtain ⟨rfl, rfl⟩ := hrel
                go_wp2_with fail
                refine (keep_read b R' _ (xs ++ ys) _ K10.out.r1 rfl rfl).mono ?_
                rintro e w11 ⟨vy, rfl, hoy, hcy⟩
                have K11 := Lib.hid (K10.out.keep hcy)
                have HOY := Lib.hid hoy
                clear hoy hcy K10
                go_wp2_with fail
                refine (keep_read b2 R2 _ [] _ K11.out.r2 rfl rfl).mono ?_
                rintro e w12 ⟨vz, rfl, hoz, hcz⟩
                have K12 := Lib.hid (K11.out.keep hcz)
                have k1 := (HOY.out.chg hcz fun _ _ => id).src.conv
                rw [← text_cat] at k1
                have k3 := (Hx.out.chg K12.out.chg fun _ _ => id).conv
                have k4 := (Hy.out.chg K12.out.chg fun _ _ => id).conv
                obtain ⟨adz, capz, hvz⟩ := shape_of hoz
                subst hvz
                have hts := cat_size xs ys
                clear hoz hcz K11 HOY
                go_wp2_with fail
                refine (acts_any b2 R2 _ _ K12.out.r2).mono ?_
                rintro e w13 ⟨rfl, rfl⟩
                go_wp2_with fail
                go_ret
                exact ⟨rfl, K12.out.chg.below⟩
            · subst hv
              have hmx := hox.mine rfl
              have HMX := Lib.hid hmx
              have K9 := Lib.hid (K8.out.keep hcx)
              have Hgx := Lib.hid (show (∀ k, R' k → k ≠ gx) ∧ (∀ k, R2 k → k ≠ gx) ∧ w.heap.size ≤ gx from gx_far P.out Z8.out hb K8.out.chg.size)
              have hnl : ((xs ++ ys).length : Int) ≤ 16384 := by rw [List.length_append]; omega
              obtain ⟨nx, hnx⟩ : ∃ nx, nx = (xs ++ ys).length := ⟨_, rfl⟩
              rw [← hnx] at hnl HMX
              rw [← hnx]
              clear hox hcx K8 P hb hrest hmx hnx curx
              go_wp2_with fail
              go_loopw [13, 84] (fun p i wr => ∃ k : Nat, k ≤ nx ∧ i = .int .i64 k ∧ Mine gx capx nx w9 wr) (fun _ i _ => nx - (intOf i).toNat)
              case atStart => exact ⟨0, Nat.zero_le _, rfl, HMX.out⟩
              case round =>
                obtain ⟨k, hk, rfl, hm⟩ := hrel
                have HM := Lib.hid hm
                by_cases hlt : k < nx
                · obtain ⟨c, hcell, hfrz⟩ := hm.cell k hlt
                  clear hm
                  go_wp2
                  go_roundw
                  case rel => exact ⟨k + 1, by omega, by go_num, HM.out.store k 0 _ rfl⟩
                  case measure => simp [intOf]; omega
                · clear hm
                  obtain ⟨w10, rfl⟩ : ∃ w10 : World, w10 = wr := ⟨_, rfl⟩
                  obtain ⟨zs3, q1, q2, hch⟩ := HM.out
                  have K10 := Lib.hid (K9.out.set Hgx.out.2.2 Hgx.out.1 Hgx.out.2.1 hch)
                  clear hch HM q1 q2 zs3 K9 Hgx HMX
                  go_wp2_with fail
                  refine (keep_read b R' _ (xs ++ ys) _ K10.out.r1 rfl rfl).mono ?_
                  rintro e w11 ⟨vy, rfl, hoy, hcy⟩
                  have K11 := Lib.hid (K10.out.keep hcy)
                  have HOY := Lib.hid hoy
                  clear hoy hcy K10
                  go_wp2_with fail
                  refine (keep_read b2 R2 _ [] _ K11.out.r2 rfl rfl).mono ?_
                  rintro e w12 ⟨vz, rfl, hoz, hcz⟩
                  have K12 := Lib.hid (K11.out.keep hcz)
                  have k1 := (HOY.out.chg hcz fun _ _ => id).src.conv
                  rw [← text_cat] at k1
                  have k3 := (Hx.out.chg K12.out.chg fun _ _ => id).conv
                  have k4 := (Hy.out.chg K12.out.chg fun _ _ => id).conv
                  obtain ⟨adz, capz, hvz⟩ := shape_of hoz
                  subst hvz
                  have hts := cat_size xs ys
                  clear hoz hcz K11 HOY
                  go_wp2_with fail
                  refine (acts_any b2 R2 _ _ K12.out.r2).mono ?_
                  rintro e w13 ⟨rfl, rfl⟩
                  go_wp2_with fail
                  go_ret
                  exact ⟨rfl, K12.out.chg.below⟩


set_option maxRecDepth 100000 in
theorem lifted (os : Os) (started : os.Started) (H : Type) (enc : TypeId × Value → H) :
    ReturnsInHanded {} Try.checked os 5 .any (Rows.ribbonKeepsSpec.pre6 enc Try.prog Try.f5 Rows.ribbonKeepsRow.domain false) (Rows.ribbonKeepsSpec.post enc Try.prog Try.f5 false true false false) := by
  refine returnsInHanded_of_change_sized (C := Try.checked) own started (by kernel_rfl) Try.func5
    (ChangeSpec.witness6 (enc := enc) (C := Try.checked) false ⟨#[], #[.slice none 0 0, .slice none 0 0], []⟩ 8 (by kernel_rfl) (by kernel_rfl) (by kernel_rfl) (by kernel_rfl)) ?_
  intro W base args ds gs before hval0 hW hcnd hsz0 _
  have hsz : (DataW.weightsEach Try.prog (Try.f5.params.toList ++ Rows.ribbonKeepsSpec.plain.varTypes Try.prog) (ds ++ gs)).all (· ≤ reachBytes) = true := hsz0
  clear hsz0
  have hval : ∀ (j : Nat) t v, Try.f5.params[j]? = some t → args[j]? = some v → Value.okWide Try.prog W .any base t v := hval0
  have hW' := hW
  obtain ⟨p, q, hA0, hV, rfl, hfz, hnd⟩ := hW
  have hA : DataW.TrodAll enc Try.prog W 0 (fun _ => true) true Try.f5.params.toList args.toList ds p := hA0
  rw [Try.params5] at hA hval hsz
  obtain ⟨v0, vs0, d0, ds0, p0, q0, hargs, rfl, rfl, h0, r0⟩ := trodAll_cons hA
  obtain ⟨v1, vs1, d1, ds1, p1, q1, rfl, rfl, rfl, h1, r1⟩ := trodAll_cons r0
  obtain ⟨rfl, rfl, rfl⟩ := trodAll_nil r1
  obtain rfl : args = #[v0, v1] := by cases args; simp_all
  obtain ⟨rfl, rfl⟩ := trodVars_none hV
  obtain ⟨a0, len0, cap0, rfl⟩ := okWide_slice Try.underlying22 (hval 0 22 v0 rfl rfl)
  have k0 := h0
  have lt0 : ∀ x ∈ p0, x.block < W.heap.size := by obtain ⟨m, hm⟩ := k0; exact DataW.trod_lt m _ _ _ hm
  obtain ⟨z0, w0, b0⟩ : ∃ zs, IsRow .u8 W a0 len0 cap0 zs ∧ len0 ≤ 140737488351232 := by
    obtain ⟨fuel, hf⟩ := h0
    rcases open_ints Try.underlying22 Try.underlying5 (by kernel_rfl) hf with ⟨hcs, _⟩ | ⟨x, l, c, zs, hcs, _, hl, hm, hz, hx, hcell, hwz⟩
    · simp [Value.cells] at hcs
      obtain ⟨rfl, rfl, rfl⟩ := hcs
      exact ⟨[], .inl ⟨rfl, rfl, rfl, rfl⟩, by decide⟩
    · simp [Value.cells] at hcs
      obtain ⟨rfl, rfl, rfl⟩ := hcs
      have hd := congrArg Prod.fst hx
      simp only [] at hd
      have hw := sized_slice hsz (j := 0) (t := 22) (e := 5) rfl (by rw [hd]; rfl) Try.underlying22
      rw [bytes5] at hw
      have hz' := hz
      simp at hz'
      simp only [lits, List.length_map, List.length_take, List.length_drop, reachBytes] at hw
      exact ⟨zs, .inr ⟨_, rfl, hl, hm, by simpa using hz, hcell, hwz⟩, by omega⟩
  obtain ⟨a1, len1, cap1, rfl⟩ := okWide_slice Try.underlying22 (hval 1 22 v1 rfl rfl)
  have k1 := h1
  have lt1 : ∀ x ∈ p1, x.block < W.heap.size := by obtain ⟨m, hm⟩ := k1; exact DataW.trod_lt m _ _ _ hm
  obtain ⟨z1, w1, b1⟩ : ∃ zs, IsRow .u8 W a1 len1 cap1 zs ∧ len1 ≤ 140737488351232 := by
    obtain ⟨fuel, hf⟩ := h1
    rcases open_ints Try.underlying22 Try.underlying5 (by kernel_rfl) hf with ⟨hcs, _⟩ | ⟨x, l, c, zs, hcs, _, hl, hm, hz, hx, hcell, hwz⟩
    · simp [Value.cells] at hcs
      obtain ⟨rfl, rfl, rfl⟩ := hcs
      exact ⟨[], .inl ⟨rfl, rfl, rfl, rfl⟩, by decide⟩
    · simp [Value.cells] at hcs
      obtain ⟨rfl, rfl, rfl⟩ := hcs
      have hd := congrArg Prod.fst hx
      simp only [] at hd
      have hw := sized_slice hsz (j := 1) (t := 22) (e := 5) rfl (by rw [hd]; rfl) Try.underlying22
      rw [bytes5] at hw
      have hz' := hz
      simp at hz'
      simp only [lits, List.length_map, List.length_take, List.length_drop, reachBytes] at hw
      exact ⟨zs, .inr ⟨_, rfl, hl, hm, by simpa using hz, hcell, hwz⟩, by omega⟩
  clear hA0 hval0
  refine (walk a0 len0 cap0 z0 a1 len1 cap1 z1 W b0 b1 w0 w1).mono fun e W' ⟨he, bel⟩ => ?_
  subst he
  exact ⟨_, rfl, _, _, _, [], _, [], hW', trodAll_mk1 (shut_bool Try.underlying4 _), (trodAll_cons_mk (Below.trod laidOut (by kernel_rfl) (of_decide_eq_true (by kernel_rfl)) k0 bel lt0) (trodAll_cons_mk (Below.trod laidOut (by kernel_rfl) (of_decide_eq_true (by kernel_rfl)) k1 bel lt1) trodAll_mk0)), rfl, bel.frame _, fun h => by cases h⟩

theorem over : Rows.ribbonKeepsRow.holds Try.pinned (OpenSpec.ofChange Rows.ribbonKeepsSpec) :=
  OpenClaim.holds_of_wide 5 Try.f5 rfl rfl rfl rfl rfl rfl rfl ⟨rfl, rfl, rfl, rfl, rfl⟩ rfl rfl rfl rfl rfl (by kernel_rfl) Try.func5 (by kernel_rfl)
    (of_decide_eq_true (by kernel_rfl)) (by unfold Func.isWrapper; first | (rw [if_pos (by decide +kernel)]; kernel_rfl) | (rw [if_neg (by decide +kernel)]; exact ⟨rfl, rfl⟩))
    (fun os started H enc _ => lifted os started H enc)


theorem proved : Rows.RibbonKeepsSaid := over
#print axioms proved
end Go.Proofs.Ytpjnbcecbppeoaa.ribbonKeeps
