/- In every script each answer, the bytes, the acts, and whether the power is off, are the document's; a nil ribbon. No condition beyond the statement's own. -/
import Derived.Test.YtpjnbcecbppeoaaRows
import Derived.Test.YtpjnbcecbppeoaaDoesC
import Derived.Test.YtpjnbcecbppeoaaDoesE
import Derived.SizedLaws
import Derived.WalkKit
import Derived.ProofKit
import Derived.OpenShut
import Derived.ShutString
import Derived.ChangeOld
import Derived.Below
namespace Go.Proofs.Ytpjnbcecbppeoaa.ribbonDoes
open Go.ChangeShapes Go.WideShapes Go.ChangeAt Go.RowKit
open Go.ChangeMaps (open_string shut_string)
set_option linter.unusedVariables false
theorem own : ownKnob Try.prog.godebug = none := by kernel_rfl
theorem laidOut : laidOutB Try.prog = true := by kernel_rfl

set_option maxRecDepth 100000 in
set_option maxHeartbeats 4000000 in
theorem does_none (a0 : Option Addr) (cap c0 : Nat) (q0 : Option Addr) (xs : List UInt8) (w : World) (Hx : Hid (Src w (.slice q0 xs.length c0) xs)) (hnb : xs.length ≤ 140737488351232) :
    Calls Try.prog 3 #[.slice q0 xs.length c0, .slice a0 0 cap] w (Done w) := by
  go_enter Try.func3, Try.ntmps3
  go_wp2_with fail
  refine (alive_any _).mono ?_
  rintro e w1 ⟨rfl, hc1⟩
  have HC1 := Lib.hid hc1
  clear hc1
  go_wp2_with fail
  refine (great_none a0 cap xs.length c0 q0 w1 hnb).mono ?_
  rintro e w2 ⟨g, rfl, hc2, hg⟩
  have HC2 := Lib.hid (HC1.out.trans hc2)
  clear hc2 HC1
  cases g
  · have Hg := Lib.hid (hg rfl)
    clear hg
    have Hx2 := Lib.hid (Hx.out.chg HC2.out fun _ _ => id)
    have hxl : xs.length ≤ 4194304 := by have := Hg.out.2; omega
    go_wp2_with fail
    refine (new_more _ xs w2 Hx2.out hxl).mono ?_
    rintro e w3 ⟨b, R, rfl, hr, hc3, hR⟩
    have Hr := Lib.hid hr
    have HC3 := Lib.hid hc3
    have HR := Lib.hid hR
    have Hx3 := Lib.hid (Hx2.out.chg hc3 fun _ _ => id)
    clear hr hc3 hR
    go_wp2_with fail
    refine (mnew_any _ xs w3 Hx3.out hxl).mono ?_
    rintro e w4 ⟨m, M, rfl, hm, hc4, hM⟩
    have Hst : Hid (St w w4 b m 0) := ⟨R, M, _, _, pair_start HC2.out HC3.out Hr.out HR.out hc4 hm hM, ⟨rfl, rfl, rfl, rfl, rfl, fun x => rfl⟩, Nat.le_refl _⟩
    clear hm hc4 hM Hr HC3 HR Hx3 Hx2 HC2
    go_wp2_with fail
    go_loopw [8, 9, 10, 11, 12, 27] (fun c e f x g i wr => i = .int .i64 0 ∧ St w wr b m 0) (fun _ _ _ _ _ i _ => 0)
    case atStart => exact ⟨rfl, Hst.out⟩
    case round =>
      obtain ⟨rfl, hst⟩ := hrel
      have HS := Lib.hid hst
      clear hst Hst
      go_wp2_with fail
      refine (nil_off _ _).mono ?_
      rintro e w5 ⟨rfl, rfl⟩
      go_wp2_with fail
      refine (nil_on _).mono ?_
      rintro e w5 ⟨rfl, rfl⟩
      go_wp2_with fail
      refine (nil_arm _ _ _).mono ?_
      rintro e w5 ⟨rfl, rfl⟩
      go_wp2_with fail
      refine (nil_read _).mono ?_
      rintro e w5 ⟨rfl, rfl⟩
      go_wp2_with fail
      refine (nil_write _ _).mono ?_
      rintro e w5 ⟨rfl, rfl⟩
      go_wp2_with fail
      refine (nil_flush _).mono ?_
      rintro e w5 ⟨rfl, rfl⟩
      go_wp2_with fail
      refine (nil_cut _ _).mono ?_
      rintro e w5 ⟨rfl, rfl⟩
      go_wp2_with fail
      refine (nil_acts _).mono ?_
      rintro e w5 ⟨rfl, rfl⟩
      go_wp2_with fail
      refine (nil_down _).mono ?_
      rintro e w5 ⟨rfl, rfl⟩
      go_wp2_with fail
      go_ret
      obtain ⟨R', M', s, t, hp, _⟩ := HS.out
      exact ⟨rfl, hp.chg.below⟩
  · go_wp2_with fail
    go_ret
    exact ⟨rfl, HC2.out.below⟩

theorem walk (a0 : Option Addr) (len0 cap0 : Nat) (z0 : List Int) (a1 : Option Addr) (len1 cap1 : Nat) (w : World) (w0 : IsRow .u8 w a0 len0 cap0 z0) (b0 : len0 ≤ 140737488351232)
    (w1 : len1 = 0 ∨ ∃ p off cs, a1 = some ⟨p, off, none⟩ ∧ cs.length = len1 ∧ Calls1 w p off cs ∧ len1 ≤ maxLen) :
    Calls Try.prog 3 #[.slice a0 len0 cap0, .slice a1 len1 cap1] w (Done w) := by
  obtain ⟨xs, hxl, hxs⟩ := isrow_src _ _ _ _ _ w0
  subst hxl
  rcases w1 with rfl | ⟨p, off, cs, rfl, rfl, hcs, hm⟩
  · exact does_none a1 cap1 cap0 a0 xs w (Lib.hid hxs) b0
  · exact does_walk p off cap1 cap0 a0 xs cs w (Lib.hid hcs) (Lib.hid hxs) (by unfold maxLen at hm; omega) b0

set_option maxRecDepth 100000 in
theorem lifted (os : Os) (started : os.Started) (H : Type) (enc : TypeId × Value → H) :
    ReturnsInHanded {} Try.checked os 3 .any (Rows.ribbonDoesSpec.pre6 enc Try.prog Try.f3 Rows.ribbonDoesRow.domain false) (Rows.ribbonDoesSpec.post enc Try.prog Try.f3 false true false false) := by
  refine returnsInHanded_of_change_sized (C := Try.checked) own started (by kernel_rfl) Try.func3
    (ChangeSpec.witness6 (enc := enc) (C := Try.checked) false ⟨#[], #[.slice none 0 0, .slice none 0 0], []⟩ 8 (by kernel_rfl) (by kernel_rfl) (by kernel_rfl) (by kernel_rfl)) ?_
  intro W base args ds gs before hval0 hW hcnd hsz0 _
  have hsz : (DataW.weightsEach Try.prog (Try.f3.params.toList ++ Rows.ribbonDoesSpec.plain.varTypes Try.prog) (ds ++ gs)).all (· ≤ reachBytes) = true := hsz0
  clear hsz0
  have hval : ∀ (j : Nat) t v, Try.f3.params[j]? = some t → args[j]? = some v → Value.okWide Try.prog W .any base t v := hval0
  have hW' := hW
  obtain ⟨p, q, hA0, hV, rfl, hfz, hnd⟩ := hW
  have hA : DataW.TrodAll enc Try.prog W 0 (fun _ => true) true Try.f3.params.toList args.toList ds p := hA0
  rw [Try.params3] at hA hval hsz
  obtain ⟨v0, vs0, d0, ds0, p0, q0, hargs, rfl, rfl, h0, r0⟩ := trodAll_cons hA
  obtain ⟨v1, vs1, d1, ds1, p1, q1, rfl, rfl, rfl, h1, r1⟩ := trodAll_cons r0
  obtain ⟨rfl, rfl, rfl⟩ := trodAll_nil r1
  obtain rfl : args = #[v0, v1] := by cases args; simp_all
  obtain ⟨rfl, rfl⟩ := trodVars_none hV
  obtain ⟨a0, len0, cap0, rfl⟩ := okWide_slice Try.underlying22 (hval 0 22 v0 rfl rfl)
  have k0 := h0
  have lt0 : ∀ x ∈ p0, x.block < W.heap.size := by obtain ⟨m, hm⟩ := k0; exact DataW.trod_lt m _ _ _ hm
  obtain ⟨z0, w0, b0⟩ : ∃ zs, IsRow .u8 W a0 len0 cap0 zs ∧ len0 ≤ 140737488351232 := by
    obtain ⟨fuel, hf⟩ := h0
    rcases open_ints Try.underlying22 Try.underlying5 (by kernel_rfl) hf with ⟨hcs, _⟩ | ⟨x, l, c, zs, hcs, _, hl, hm, hz, hx, hcell, hwz⟩
    · simp [Value.cells] at hcs
      obtain ⟨rfl, rfl, rfl⟩ := hcs
      exact ⟨[], .inl ⟨rfl, rfl, rfl, rfl⟩, by decide⟩
    · simp [Value.cells] at hcs
      obtain ⟨rfl, rfl, rfl⟩ := hcs
      have hd := congrArg Prod.fst hx
      simp only [] at hd
      have hw := sized_slice hsz (j := 0) (t := 22) (e := 5) rfl (by rw [hd]; rfl) Try.underlying22
      rw [bytes5] at hw
      have hz' := hz
      simp at hz'
      simp only [lits, List.length_map, List.length_take, List.length_drop, reachBytes] at hw
      exact ⟨zs, .inr ⟨_, rfl, hl, hm, by simpa using hz, hcell, hwz⟩, by omega⟩
  obtain ⟨a1, len1, cap1, rfl⟩ := okWide_slice Try.underlying23 (hval 1 23 v1 rfl rfl)
  have k1 := h1
  have lt1 : ∀ x ∈ p1, x.block < W.heap.size := by obtain ⟨m, hm⟩ := k1; exact DataW.trod_lt m _ _ _ hm
  have w1 : len1 = 0 ∨ ∃ p off cs, a1 = some ⟨p, off, none⟩ ∧ cs.length = len1 ∧ Calls1 W p off cs ∧ len1 ≤ maxLen := by
    obtain ⟨fuel, hf⟩ := h1
    exact calls_of hf hsz rfl rfl
  clear hA0 hval0
  refine (walk a0 len0 cap0 z0 a1 len1 cap1 W w0 b0 w1).mono fun e W' ⟨he, bel⟩ => ?_
  subst he
  exact ⟨_, rfl, _, _, _, [], _, [], hW', trodAll_mk1 (shut_bool Try.underlying4 _), (trodAll_cons_mk (Below.trod laidOut (by kernel_rfl) (of_decide_eq_true (by kernel_rfl)) k0 bel lt0) (trodAll_cons_mk (Below.trod laidOut (by kernel_rfl) (of_decide_eq_true (by kernel_rfl)) k1 bel lt1) trodAll_mk0)), rfl, bel.frame _, fun h => by cases h⟩

theorem over : Rows.ribbonDoesRow.holds Try.pinned (OpenSpec.ofChange Rows.ribbonDoesSpec) :=
  OpenClaim.holds_of_wide 3 Try.f3 rfl rfl rfl rfl rfl rfl rfl ⟨rfl, rfl, rfl, rfl, rfl⟩ rfl rfl rfl rfl rfl (by kernel_rfl) Try.func3 (by kernel_rfl)
    (of_decide_eq_true (by kernel_rfl)) (by unfold Func.isWrapper; first | (rw [if_pos (by decide +kernel)]; kernel_rfl) | (rw [if_neg (by decide +kernel)]; exact ⟨rfl, rfl⟩))
    (fun os started H enc _ => lifted os started H enc)


theorem proved : Rows.RibbonDoesSaid := over
#print axioms proved
end Go.Proofs.Ytpjnbcecbppeoaa.ribbonDoes
