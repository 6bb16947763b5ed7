/- Text and Parse answer what the document says, there and back. No condition beyond the statement's own. -/
import Derived.Test.YtkcgkkhcakblaaaRows
import Derived.Test.YtkcgkkhcakblaaaWalkF
import Derived.WalkKit
import Derived.ProofKit
import Derived.OpenShut
import Derived.ShutString
namespace Go.Proofs.Ytkcgkkhcakblaaa.mixTexts
open Go.ChangeShapes Go.WideShapes Go.ChangeAt Go.RowKit
open Go.ChangeMaps (open_string shut_string)
set_option linter.unusedVariables false

theorem own : ownKnob Try.prog.godebug = none := by kernel_rfl


set_option maxHeartbeats 1000000 in
theorem walk (a0 : Int) (a1 : ByteArray) (w0 : (Lit.int .u64 a0).wf = true) (w1 : a1.size ≤ maxLen) (w : World) :
    Calls Try.prog 7 #[.int .u64 a0, .string a1] w fun e w' => e = .returned (.bool true) ∧ Grown w w' := by
  obtain ⟨x, rfl⟩ := u64_of a0 w0
  have hx := x.isLt
  by_cases hbig : 16384 < a1.size
  · go_enter Try.func7, Try.ntmps7
    go_wp2_with fail
    refine (alive_any _).mono ?_
    rintro e w' ⟨rfl, hg⟩
    go_wp2_with fail
    go_ret
    exact ⟨rfl, hg⟩
  · have W1 := Lib.hid w1
    clear w1
    obtain ⟨p, q⟩ := parse_good _ (text_isgood x.toNat hx)
    rw [parse_text _ hx] at p
    have Hp := Lib.hid p
    have Hq := Lib.hid q
    clear p q
    by_cases hgood : goodL a1.data.toList
    · obtain ⟨p, q⟩ := parse_good _ hgood
      have hb := good_bound _ hgood
      have hb' : valN a1.data.toList < 18446744073709551616 := hb
      have ht := text_val a1.data.toList hgood.1 hgood.2.1
      have Gp := Lib.hid p
      have Gq := Lib.hid q
      have Ht := Lib.hid ht
      clear p q hgood ht hb
      generalize valN a1.data.toList = v at Gp Ht hb'
      go_enter Try.func7, Try.ntmps7
      go_wp2_with fail
      refine (alive_any _).mono ?_
      rintro e w1 ⟨rfl, hg1⟩
      go_wp2_with fail
      refine (text_any x _).mono ?_
      rintro e w2 ⟨rfl, hg2⟩
      go_wp2_with fail
      refine (parse_any _ _ (text_size _)).mono ?_
      rintro e w3 ⟨he, hg3⟩
      have Hg := Lib.hid (grown_trans (grown_trans hg1 hg2) hg3)
      clear hg1 hg2 hg3
      simp only [] at he
      rw [Hp.out, Hq.out] at he
      subst he
      go_wp2_with fail
      refine (textR_any x _).mono ?_
      rintro e w4 ⟨rfl, hg4⟩
      go_wp2_with fail
      refine (parse_any _ _ W1.out).mono ?_
      rintro e w5 ⟨he, hg5⟩
      rw [Gp.out, Gq.out] at he
      subst he
      have HG := Lib.hid (grown_trans (grown_trans Hg.out hg4) hg5)
      clear Hg hg4 hg5
      go_wp2_with fail
      refine (parseR_any _ _ W1.out).mono ?_
      rintro e w6 ⟨he, hg6⟩
      rw [Gp.out, Gq.out] at he
      subst he
      have HG2 := Lib.hid (grown_trans HG.out hg6)
      clear HG hg6
      go_wp2_with fail
      refine (text_nat _ _ _ rfl hb').mono ?_
      rintro e w7 ⟨he, hg7⟩
      rw [Ht.out] at he
      subst he
      go_wp2_with fail
      go_ret
      exact ⟨rfl, grown_trans HG2.out hg7⟩
    · obtain ⟨p, q⟩ := parse_bad _ hgood
      have Gp := Lib.hid p
      have Gq := Lib.hid q
      clear p q hgood
      go_enter Try.func7, Try.ntmps7
      go_wp2_with fail
      refine (alive_any _).mono ?_
      rintro e w1 ⟨rfl, hg1⟩
      go_wp2_with fail
      refine (text_any x _).mono ?_
      rintro e w2 ⟨rfl, hg2⟩
      go_wp2_with fail
      refine (parse_any _ _ (text_size _)).mono ?_
      rintro e w3 ⟨he, hg3⟩
      have Hg := Lib.hid (grown_trans (grown_trans hg1 hg2) hg3)
      clear hg1 hg2 hg3
      simp only [] at he
      rw [Hp.out, Hq.out] at he
      subst he
      go_wp2_with fail
      refine (textR_any x _).mono ?_
      rintro e w4 ⟨rfl, hg4⟩
      go_wp2_with fail
      refine (parse_any _ _ W1.out).mono ?_
      rintro e w5 ⟨he, hg5⟩
      rw [Gp.out, Gq.out] at he
      subst he
      have HG := Lib.hid (grown_trans (grown_trans Hg.out hg4) hg5)
      clear Hg hg4 hg5
      go_wp2_with fail
      refine (parseR_any _ _ W1.out).mono ?_
      rintro e w6 ⟨he, hg6⟩
      rw [Gp.out, Gq.out] at he
      subst he
      have HG2 := Lib.hid (grown_trans HG.out hg6)
      clear HG hg6
      go_wp2_with fail
      go_ret
      exact ⟨rfl, HG2.out⟩


set_option maxRecDepth 100000 in
theorem lifted (os : Os) (started : os.Started) (H : Type) (enc : TypeId × Value → H) :
    ReturnsInHanded {} Try.checked os 7 .any (Rows.mixTextsSpec.pre6 enc Try.prog Try.f7 Rows.mixTextsRow.domain false) (Rows.mixTextsSpec.post enc Try.prog Try.f7 false true false false) := by
  refine returnsInHanded_of_change (C := Try.checked) own started (by kernel_rfl) Try.func7
    (ChangeSpec.witness6 (enc := enc) (C := Try.checked) false ⟨#[], #[.int .u64 0, .string ByteArray.empty], []⟩ 8 (by kernel_rfl) (by kernel_rfl) (by kernel_rfl) (by kernel_rfl)) ?_
  intro W base args ds gs before hval0 hW hcnd _
  have hval : ∀ (j : Nat) t v, Try.f7.params[j]? = some t → args[j]? = some v → Value.okWide Try.prog W .any base t v := hval0
  have hW' := hW
  obtain ⟨p, q, hA0, hV, rfl, hfz, hnd⟩ := hW
  have hA : DataW.TrodAll enc Try.prog W 0 (fun _ => true) true Try.f7.params.toList args.toList ds p := hA0
  rw [Try.params7] at hA hval
  obtain ⟨v0, vs0, d0, ds0, p0, q0, hargs, rfl, rfl, h0, r0⟩ := trodAll_cons hA
  obtain ⟨v1, vs1, d1, ds1, p1, q1, rfl, rfl, rfl, h1, r1⟩ := trodAll_cons r0
  obtain ⟨rfl, rfl, rfl⟩ := trodAll_nil r1
  obtain rfl : args = #[v0, v1] := by cases args; simp_all
  obtain ⟨rfl, rfl⟩ := trodVars_none hV
  obtain ⟨a0, rfl, rfl, rfl, w0⟩ := open_int Try.underlying22 (hval 0 22 v0 rfl rfl) h0
  obtain ⟨a1, rfl, rfl, rfl, w1⟩ := open_string Try.underlying9 (hval 1 9 v1 rfl rfl) h1
  clear hA0 hval0
  simp only [List.append_nil] at hW'
  refine (walk a0 a1 w0 w1 W).mono fun e W' ⟨he, hg⟩ => ?_
  subst he
  exact ⟨_, rfl, post_of_same (pa := []) (pv := []) hW' (fun _ _ _ => (trodAll_cons_mk (shut_bool Try.underlying4 _) trodAll_mk0)) (fun sp _ => (trodAll_cons_mk (shut_int Try.underlying22 w0) (trodAll_cons_mk (shut_string Try.underlying9 w1) trodAll_mk0))) (fun _ _ => rfl) rfl
    (hg.frame _) hg.2.1 (ok_one (by kernel_rfl) rfl (okWide_bool_mk Try.underlying4 _))⟩

theorem over : Rows.mixTextsRow.holds Try.pinned (OpenSpec.ofChange Rows.mixTextsSpec) :=
  OpenClaim.holds_of_wide 7 Try.f7 rfl rfl rfl rfl rfl rfl rfl ⟨rfl, rfl, rfl, rfl, rfl⟩ rfl rfl rfl rfl rfl (by kernel_rfl) Try.func7 (by kernel_rfl)
    (of_decide_eq_true (by kernel_rfl)) (by unfold Func.isWrapper; first | (rw [if_pos (by decide +kernel)]; kernel_rfl) | (rw [if_neg (by decide +kernel)]; exact ⟨rfl, rfl⟩))
    (fun os started H enc _ => lifted os started H enc)


theorem proved : Rows.MixTextsSaid :=
  over
#print axioms proved
end Go.Proofs.Ytkcgkkhcakblaaa.mixTexts
