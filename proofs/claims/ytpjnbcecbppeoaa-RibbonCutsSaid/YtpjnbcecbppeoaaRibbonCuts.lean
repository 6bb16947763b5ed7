/- What is cut off is gone, safe or not; what is left is safe: it outlives any loss of power. No condition beyond the statement's own. -/
import Derived.Test.YtpjnbcecbppeoaaRows
import Derived.Test.YtpjnbcecbppeoaaWalkF
import Derived.SizedLaws
import Derived.WalkKit
import Derived.ProofKit
import Derived.OpenShut
import Derived.ShutString
import Derived.ChangeOld
import Derived.Below
namespace Go.Proofs.Ytpjnbcecbppeoaa.ribbonCuts
open Go.ChangeShapes Go.WideShapes Go.ChangeAt Go.RowKit
open Go.ChangeMaps (open_string shut_string)
set_option linter.unusedVariables false

theorem own : ownKnob Try.prog.godebug = none := by kernel_rfl
theorem laidOut : laidOutB Try.prog = true := by kernel_rfl


set_option maxHeartbeats 4000000 in
theorem walk (a0 : Option Addr) (len0 cap0 : Nat) (z0 : List Int) (a1 : Option Addr) (len1 cap1 : Nat) (z1 : List Int) (a2 : Int) (a3 : Int) (w : World) (b0 : len0 ≤ 140737488351232) (b1 : len1 ≤ 140737488351232) (w0 : IsRow .u8 w a0 len0 cap0 z0) (w1 : IsRow .u8 w a1 len1 cap1 z1) (w2 : (Lit.int .i64 a2).wf = true) (w3 : (Lit.int .i64 a3).wf = true) :
    Calls Try.prog 6 #[.slice a0 len0 cap0, .slice a1 len1 cap1, .int .i64 a2, .int .i64 a3] w fun e w' => e = .returned (.bool true) ∧ Below w.heap.size w w' := by
  obtain ⟨xs, hxl, hxs⟩ := isrow_src _ _ _ _ _ w0
  obtain ⟨ys, hyl, hys⟩ := isrow_src _ _ _ _ _ w1
  subst hxl
  subst hyl
  have Hx := Lib.hid hxs
  have Hy := Lib.hid hys
  clear hxs hys w0 w1 w2 w3
  by_cases hbig : 16384 < xs.length + ys.length
  · have hbig' : (16384 : Int) < (xs.length : Int) + (ys.length : Int) := by omega
    go_enter Try.func6, Try.ntmps6
    go_wp2_with fail
    refine (alive_any _).mono ?_
    rintro e w1 ⟨rfl, hc⟩
    go_wp2_with fail
    go_ret
    exact ⟨rfl, hc.below⟩
  · have hsm : (xs.length : Int) + (ys.length : Int) ≤ 16384 := by omega
    clear hbig
    go_enter Try.func6, Try.ntmps6
    go_wp2_with fail
    refine (alive_any _).mono ?_
    rintro e w1 ⟨rfl, hc⟩
    have Hi := Lib.hid hc
    clear hc
    go_wp2_with fail
    refine (new_any _ xs _ (Hx.out.chg Hi.out fun _ _ => id) (by omega)).mono ?_
    rintro e w2 ⟨b, R, rfl, hr, hc, hR⟩
    have Hr := Lib.hid hr
    have Hi2 := Lib.hid (show Inv w w2 R from ⟨Hi.out.trans hc, fun k hk => Nat.le_trans Hi.out.size (hR k hk).1⟩)
    clear hr hc hR Hi
    go_wp2_with fail
    refine (write_plain b R _ _ _ _ _ ys _ Hr.out (Hy.out.chg Hi2.out.1 fun _ _ => id) (by decide) (by omega)).mono ?_
    rintro e w3 ⟨rfl, R3, hr, hw⟩
    have Hr3 := Lib.hid hr
    have Hi3 := Lib.hid (Hi2.out.went hw)
    have hcx := (Hx.out.chg Hi3.out.1 fun _ _ => id).conv
    have hcy := (Hy.out.chg Hi3.out.1 fun _ _ => id).conv
    clear hr hw Hr Hi2
    go_wp2_with fail
    generalize htt : ByteArray.mk xs.toArray ++ ByteArray.mk ys.toArray = tt
    rw [text_cat] at htt
    have hts : tt.size = xs.length + ys.length := by rw [← htt, text_size, List.length_append]
    have Htt := Lib.hid htt
    have Hts := Lib.hid hts
    clear htt
    by_cases harg : a2 < 0 ∨ ((xs ++ ys).length : Int) < a2
    · have Harg := Lib.hid harg
      rw [List.length_append] at harg
      by_cases hneg : a2 < 0
      · clear harg
        refine (cut_arg b R3 _ a2 _ Hr3.out rfl Harg.out).mono ?_
        rintro e w4 ⟨rfl, rfl⟩
        go_wp2_with fail
        refine (acts_any b R3 _ _ Hr3.out).mono ?_
        rintro e w4 ⟨rfl, rfl⟩
        go_wp2_with fail
        go_ret
        exact ⟨rfl, Hi3.out.1.below⟩
      · have hgt : (xs.length : Int) + (ys.length : Int) < a2 := by omega
        clear harg
        refine (cut_arg b R3 _ a2 _ Hr3.out rfl Harg.out).mono ?_
        rintro e w4 ⟨rfl, rfl⟩
        go_wp2_with fail
        refine (acts_any b R3 _ _ Hr3.out).mono ?_
        rintro e w4 ⟨rfl, rfl⟩
        go_wp2_with fail
        go_ret
        exact ⟨rfl, Hi3.out.1.below⟩
    · rw [List.length_append] at harg
      obtain ⟨n, rfl⟩ := Int.eq_ofNat_of_zero_le (a := a2) (by omega)
      have hn : n ≤ xs.length + ys.length := by omega
      have hnl : n ≤ (xs ++ ys).length := by rw [List.length_append]; exact hn
      have Hnl := Lib.hid hnl
      clear harg hcx hcy hnl
      refine (cut_plain b R3 _ _ _ _ _ n _ Hr3.out (by decide) rfl Hnl.out).mono ?_
      rintro e w4 ⟨rfl, R4, hr, hw⟩
      have Hr4 := Lib.hid hr
      have Hi4 := Lib.hid (Hi3.out.went hw)
      clear hr hw Hr3 Hi3
      go_wp2_with fail
      refine (off_plain b R4 _ _ _ _ n _ a3 _ Hr4.out (by rw [List.length_take, Nat.min_eq_left Hnl.out]; omega)).mono ?_
      rintro e w5 ⟨rfl, hr, hw⟩
      have Hr5 := Lib.hid hr
      have Hi5 := Lib.hid (Hi4.out.went hw)
      clear hr hw Hr4 Hi4
      go_wp2_with fail
      refine (on_plain b R4 _ _ _ _ _ _ _ Hr5.out).mono ?_
      rintro e w6 ⟨rfl, hr, hw⟩
      have Hr6 := Lib.hid hr
      have Hi6 := Lib.hid (Hi5.out.went hw)
      clear hr hw Hr5 Hi5
      go_wp2_with fail
      refine (read_eq b R4 _ ((xs ++ ys).take n) _ _ _ _ _ Hr6.out (by rw [List.take_take, Nat.min_self])).mono ?_
      rintro e w7 ⟨v, rfl, ho, hc⟩
      have Hi7 := Lib.hid (Hi6.out.chg hc)
      have Hr7 := Lib.hid (Hr6.out.keep hc)
      have hcvd := fun n => ho.src.convN n
      clear ho hc Hr6 Hi6
      have hcut : tt.extract 0 n = ByteArray.mk ((xs ++ ys).take n).toArray := by rw [← Htt.out, text_cut]
      generalize ByteArray.mk ((xs ++ ys).take n).toArray = cc at hcvd hcut
      go_wp2_with fail
      go_quiet ((go_at_call 23; exact Calls.quiet_of_same (acts_q b R4 _ _ _ Hr7.out)))
      go_wp2
      go_ret
      exact ⟨rfl, (Hi7.out.1.drewN _).below⟩


set_option maxRecDepth 100000 in
theorem lifted (os : Os) (started : os.Started) (H : Type) (enc : TypeId × Value → H) :
    ReturnsInHanded {} Try.checked os 6 .any (Rows.ribbonCutsSpec.pre6 enc Try.prog Try.f6 Rows.ribbonCutsRow.domain false) (Rows.ribbonCutsSpec.post enc Try.prog Try.f6 false true false false) := by
  refine returnsInHanded_of_change_sized (C := Try.checked) own started (by kernel_rfl) Try.func6
    (ChangeSpec.witness6 (enc := enc) (C := Try.checked) false ⟨#[], #[.slice none 0 0, .slice none 0 0, .int .i64 0, .int .i64 0], []⟩ 8 (by kernel_rfl) (by kernel_rfl) (by kernel_rfl) (by kernel_rfl)) ?_
  intro W base args ds gs before hval0 hW hcnd hsz0 _
  have hsz : (DataW.weightsEach Try.prog (Try.f6.params.toList ++ Rows.ribbonCutsSpec.plain.varTypes Try.prog) (ds ++ gs)).all (· ≤ reachBytes) = true := hsz0
  clear hsz0
  have hval : ∀ (j : Nat) t v, Try.f6.params[j]? = some t → args[j]? = some v → Value.okWide Try.prog W .any base t v := hval0
  have hW' := hW
  obtain ⟨p, q, hA0, hV, rfl, hfz, hnd⟩ := hW
  have hA : DataW.TrodAll enc Try.prog W 0 (fun _ => true) true Try.f6.params.toList args.toList ds p := hA0
  rw [Try.params6] at hA hval hsz
  obtain ⟨v0, vs0, d0, ds0, p0, q0, hargs, rfl, rfl, h0, r0⟩ := trodAll_cons hA
  obtain ⟨v1, vs1, d1, ds1, p1, q1, rfl, rfl, rfl, h1, r1⟩ := trodAll_cons r0
  obtain ⟨v2, vs2, d2, ds2, p2, q2, rfl, rfl, rfl, h2, r2⟩ := trodAll_cons r1
  obtain ⟨v3, vs3, d3, ds3, p3, q3, rfl, rfl, rfl, h3, r3⟩ := trodAll_cons r2
  obtain ⟨rfl, rfl, rfl⟩ := trodAll_nil r3
  obtain rfl : args = #[v0, v1, v2, v3] := by cases args; simp_all
  obtain ⟨rfl, rfl⟩ := trodVars_none hV
  obtain ⟨a0, len0, cap0, rfl⟩ := okWide_slice Try.underlying22 (hval 0 22 v0 rfl rfl)
  have k0 := h0
  have lt0 : ∀ x ∈ p0, x.block < W.heap.size := by obtain ⟨m, hm⟩ := k0; exact DataW.trod_lt m _ _ _ hm
  obtain ⟨z0, w0, b0⟩ : ∃ zs, IsRow .u8 W a0 len0 cap0 zs ∧ len0 ≤ 140737488351232 := by
    obtain ⟨fuel, hf⟩ := h0
    rcases open_ints Try.underlying22 Try.underlying5 (by kernel_rfl) hf with ⟨hcs, _⟩ | ⟨x, l, c, zs, hcs, _, hl, hm, hz, hx, hcell, hwz⟩
    · simp [Value.cells] at hcs
      obtain ⟨rfl, rfl, rfl⟩ := hcs
      exact ⟨[], .inl ⟨rfl, rfl, rfl, rfl⟩, by decide⟩
    · simp [Value.cells] at hcs
      obtain ⟨rfl, rfl, rfl⟩ := hcs
      have hd := congrArg Prod.fst hx
      simp only [] at hd
      have hw := sized_slice hsz (j := 0) (t := 22) (e := 5) rfl (by rw [hd]; rfl) Try.underlying22
      rw [bytes5] at hw
      have hz' := hz
      simp at hz'
      simp only [lits, List.length_map, List.length_take, List.length_drop, reachBytes] at hw
      exact ⟨zs, .inr ⟨_, rfl, hl, hm, by simpa using hz, hcell, hwz⟩, by omega⟩
  obtain ⟨a1, len1, cap1, rfl⟩ := okWide_slice Try.underlying22 (hval 1 22 v1 rfl rfl)
  have k1 := h1
  have lt1 : ∀ x ∈ p1, x.block < W.heap.size := by obtain ⟨m, hm⟩ := k1; exact DataW.trod_lt m _ _ _ hm
  obtain ⟨z1, w1, b1⟩ : ∃ zs, IsRow .u8 W a1 len1 cap1 zs ∧ len1 ≤ 140737488351232 := by
    obtain ⟨fuel, hf⟩ := h1
    rcases open_ints Try.underlying22 Try.underlying5 (by kernel_rfl) hf with ⟨hcs, _⟩ | ⟨x, l, c, zs, hcs, _, hl, hm, hz, hx, hcell, hwz⟩
    · simp [Value.cells] at hcs
      obtain ⟨rfl, rfl, rfl⟩ := hcs
      exact ⟨[], .inl ⟨rfl, rfl, rfl, rfl⟩, by decide⟩
    · simp [Value.cells] at hcs
      obtain ⟨rfl, rfl, rfl⟩ := hcs
      have hd := congrArg Prod.fst hx
      simp only [] at hd
      have hw := sized_slice hsz (j := 1) (t := 22) (e := 5) rfl (by rw [hd]; rfl) Try.underlying22
      rw [bytes5] at hw
      have hz' := hz
      simp at hz'
      simp only [lits, List.length_map, List.length_take, List.length_drop, reachBytes] at hw
      exact ⟨zs, .inr ⟨_, rfl, hl, hm, by simpa using hz, hcell, hwz⟩, by omega⟩
  obtain ⟨a2, rfl, rfl, rfl, w2⟩ := open_int Try.underlying3 (hval 2 3 v2 rfl rfl) h2
  obtain ⟨a3, rfl, rfl, rfl, w3⟩ := open_int Try.underlying3 (hval 3 3 v3 rfl rfl) h3
  clear hA0 hval0
  refine (walk a0 len0 cap0 z0 a1 len1 cap1 z1 a2 a3 W b0 b1 w0 w1 w2 w3).mono fun e W' ⟨he, bel⟩ => ?_
  subst he
  exact ⟨_, rfl, _, _, _, [], _, [], hW', trodAll_mk1 (shut_bool Try.underlying4 _), (trodAll_cons_mk (Below.trod laidOut (by kernel_rfl) (of_decide_eq_true (by kernel_rfl)) k0 bel lt0) (trodAll_cons_mk (Below.trod laidOut (by kernel_rfl) (of_decide_eq_true (by kernel_rfl)) k1 bel lt1) (trodAll_cons_mk (shut_int Try.underlying3 w2) (trodAll_cons_mk (shut_int Try.underlying3 w3) trodAll_mk0)))), rfl, bel.frame _, fun h => by cases h⟩

theorem over : Rows.ribbonCutsRow.holds Try.pinned (OpenSpec.ofChange Rows.ribbonCutsSpec) :=
  OpenClaim.holds_of_wide 6 Try.f6 rfl rfl rfl rfl rfl rfl rfl ⟨rfl, rfl, rfl, rfl, rfl⟩ rfl rfl rfl rfl rfl (by kernel_rfl) Try.func6 (by kernel_rfl)
    (of_decide_eq_true (by kernel_rfl)) (by unfold Func.isWrapper; first | (rw [if_pos (by decide +kernel)]; kernel_rfl) | (rw [if_neg (by decide +kernel)]; exact ⟨rfl, rfl⟩))
    (fun os started H enc _ => lifted os started H enc)


theorem proved : Rows.RibbonCutsSaid := over
#print axioms proved
end Go.Proofs.Ytpjnbcecbppeoaa.ribbonCuts
