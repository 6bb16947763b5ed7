/- Whether a list of nodes has one that is no atom. No condition. -/
import Derived.Test.YtnipiphhkcafhaaGreatDoorKbRow
namespace Go.Proofs.YtnipiphhkcafhaaGreatDoor
set_option linter.unusedVariables false
open Go.ChangeShapes Go.WideShapes Go.ChangeAt Go.RowKit
def SayV (v : Value) (w : World) (e : Ending) (w' : World) : Prop := e = .returned v ∧ Chg NoB w w'
def nlF (ks : List Nd) : Option Nat := ks.findIdx? (fun n => !n.leaf)
def nlI : Option Nat → Int
  | none => -1
  | some k => k
theorem nl_none {ks : List Nd} (h : ∀ i (hi : i < ks.length), ks[i].leaf = true) : nlF ks = none := by
  unfold nlF
  rw [List.findIdx?_eq_none_iff]
  intro x hx
  obtain ⟨i, hi, rfl⟩ := List.getElem_of_mem hx
  rw [h i hi]; rfl
theorem nl_some {ks : List Nd} {k : Nat} (hk : k < ks.length) (h1 : ks[k].leaf = false) (h : ∀ i (hi : i < k), (ks[i]'(Nat.lt_trans hi hk)).leaf = true) : nlF ks = some k := by
  unfold nlF
  rw [List.findIdx?_eq_some_iff_getElem]
  refine ⟨hk, by rw [h1]; rfl, fun j hj => ?_⟩
  rw [h j hj]; simp
set_option maxHeartbeats 1000000 in
theorem leaf1_any (l : Bool) (a : ByteArray) (q : Option Addr) (n c : Nat) (w : World) : Calls Tryz.prog 46 #[.agg #[.bool l, .string a, .slice q n c]] w (SayV (.bool (!l)) w) := by
  have hal := (Chg.refl NoB w).alloc (.cells #[.bool l, .string a, .slice q n c] 39)
  obtain ⟨f0, f1, f2⟩ := var3 (heap_alloc_new w (.cells #[.bool l, .string a, .slice q n c] 39))
  have Hal := Lib.hid hal
  clear hal
  go_enter Tryz.func46, Tryz.ntmps46
  go_wp2_with fail
  go_ret
  exact ⟨rfl, Hal.out⟩
set_option maxHeartbeats 1000000 in
theorem indexNode_any (ks : List Nd) (S : Nat → Prop) (v : Value) (kb ko : Nat) (w : World) (hl : ks.length ≤ 1048576) (hs : NdS w S v ks kb ko) :
    Calls Tryz.prog 60 #[v, .func (.func 46) #[] #[]] w (SayV (.int .i64 (nlI (nlF ks))) w) := by
  obtain ⟨r, hr⟩ : ∃ r, r = nlI (nlF ks) := ⟨_, rfl⟩
  rw [← hr]
  have Hr := Lib.hid hr
  clear hr
  obtain ⟨⟨a, cap, rfl, h1, h2, h3⟩, hat⟩ := hs
  obtain ⟨pl, hpl⟩ : ∃ pl, pl = ks.length := ⟨_, rfl⟩
  rw [← hpl] at h1 hl ⊢
  have H3 := Lib.hid h3
  have Hat := Lib.hid hat
  have Hpl := Lib.hid hpl
  unfold maxLen at h2
  clear h3 hat hpl
  go_enter Tryz.func60, Tryz.ntmps60
  go_wp2_with fail
  go_loopw [5, 8] (fun _ i wr => ∃ k : Nat, k ≤ pl ∧ i = .int .i64 k ∧ (∀ j (hj : j < ks.length), j < k → ks[j].leaf = true) ∧ Chg NoB w wr) (fun _ i _ => pl - (intOf i).toNat)
  case atStart => exact ⟨0, Nat.zero_le _, rfl, fun j _ hj => absurd hj (Nat.not_lt_zero _), Chg.refl _ _⟩
  case round =>
    obtain ⟨k, hk, rfl, hno, hch⟩ := hrel
    have Hno := Lib.hid hno
    have Hch := Lib.hid hch
    clear hno hch
    by_cases hlt : k < pl
    · have hlt' : k < ks.length := by rw [← Hpl.out]; exact hlt
      obtain rfl := H3.out (by rintro rfl; simp at hlt')
      obtain ⟨_, hca, s', kb', ko', c0, c1, c2, hs'⟩ := ((Hat.out k hlt').keep Hch.out fun _ _ => id).cells
      obtain ⟨⟨q', c', hsq', -, -, -⟩, -⟩ := hs'
      subst hsq'
      have Hyes : Hid (ks[k].leaf = false → nlF ks = some k) := Lib.hid fun h => nl_some hlt' h fun i hi => Hno.out i _ hi
      have Hgo : Hid (ks[k].leaf = true → ∀ j (hj : j < ks.length), j < k + 1 → ks[j].leaf = true) := Lib.hid fun h j hj hjk => by
        by_cases e : j = k
        · subst e; exact h
        · exact Hno.out j hj (by omega)
      generalize ks[k] = x at *
      obtain ⟨xl, xa, xk⟩ := x
      simp only [Nd.leaf, Nd.atom, Nd.kids] at *
      obtain ⟨kn, hkn⟩ : ∃ kn, kn = xk.length := ⟨_, rfl⟩
      rw [← hkn] at c2
      have Hc := Lib.hid (leaf1_any xl xa q' kn c' wr)
      clear hkn hca
      go_wp2_with fail
      refine Hc.out.mono ?_
      rintro e w1 ⟨rfl, hc1⟩
      have Hc1 := Lib.hid (Hch.out.trans hc1)
      clear hc1 c0 c1 c2 Hc
      cases xl with
      | false =>
        have hrk : r = (k : Int) := by rw [Hr.out, Hyes.out rfl]; rfl
        have Hrk := Lib.hid hrk
        clear hrk
        go_wp2_with fail
        go_ret
        exact ⟨congrArg (fun x => Ending.returned (Value.int .i64 x)) Hrk.out.symm, Hc1.out⟩
      | true =>
        have Hg := Lib.hid (Hgo.out rfl)
        clear Hgo Hyes
        go_wp2_with fail
        go_roundw
        case rel => exact ⟨k + 1, by omega, by go_num, Hg.out, Hc1.out⟩
        case measure => simp [intOf]; omega
    · obtain rfl : k = pl := by omega
      have hrk : r = -1 := by rw [Hr.out, nl_none fun i hi => Hno.out i hi (by rw [Hpl.out]; exact hi)]; rfl
      have Hrk := Lib.hid hrk
      clear hrk
      go_wp2_with fail
      go_ret
      exact ⟨congrArg (fun x => Ending.returned (Value.int .i64 x)) Hrk.out.symm, Hch.out⟩
set_option maxHeartbeats 1000000 in
theorem contains_any (ks : List Nd) (S : Nat → Prop) (v : Value) (kb ko : Nat) (w : World) (hl : ks.length ≤ 1048576) (hs : NdS w S v ks kb ko) :
    Calls Tryz.prog 45 #[v, .func (.func 46) #[] #[]] w (SayV (.bool (decide (0 ≤ nlI (nlF ks)))) w) := by
  have Hi := Lib.hid (indexNode_any ks S v kb ko w hl hs)
  obtain ⟨⟨a, cap, rfl, -, -, -⟩, -⟩ := hs
  obtain ⟨pl, hpl⟩ : ∃ pl, pl = ks.length := ⟨_, rfl⟩
  rw [← hpl] at Hi ⊢
  clear hpl
  generalize nlI (nlF ks) = r at *
  go_enter Tryz.func45, Tryz.ntmps45
  go_wp2_with fail
  refine Hi.out.mono ?_
  rintro e w1 ⟨rfl, hc⟩
  go_wp2_with fail
  go_ret
  exact ⟨rfl, hc⟩
end Go.Proofs.YtnipiphhkcafhaaGreatDoor
