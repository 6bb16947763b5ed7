/- The contract of the document's Same of instructions. No condition. -/
import Derived.Test.YtaihgciokfkonaaDoorCdCheck
import Derived.Deep.RegionHeld3
namespace Go.Proofs.YtaihgciokfkonaaDoor
set_option linter.unusedVariables false
open Go.ChangeShapes Go.WideShapes Go.ChangeAt Go.RowKit
def ISameP (ps qs : List InsL) (w : World) (e : Ending) (w' : World) : Prop := (∃ b : Bool, e = .returned (.bool b) ∧ (b = true ↔ ps = qs)) ∧ Chg NoB w w'
set_option maxHeartbeats 1000000 in
set_option maxRecDepth 20000 in
theorem isame_any (ps qs : List InsL) (S T : Nat → Prop) (v u : Value) (kb ko jb jo : Nat) (w : World) (hs : InsS w S v ps kb ko) (ht : InsS w T u qs jb jo) (hb : ps.length ≤ 131072) :
    Calls Tryd.prog 12 #[v, u] w (ISameP ps qs w) := by
  obtain ⟨⟨q, c, rfl, h1, h2, h3⟩, hat⟩ := hs
  obtain ⟨⟨q', c', rfl, h1', h2', h3'⟩, hat'⟩ := ht
  obtain ⟨len, hlen⟩ : ∃ len, len = ps.length := ⟨_, rfl⟩
  obtain ⟨len', hlen'⟩ : ∃ len, len = qs.length := ⟨_, rfl⟩
  rw [← hlen] at h1 hb ⊢
  rw [← hlen'] at h1' ⊢
  have H3 := Lib.hid h3
  have Hat := Lib.hid hat
  have Hlen := Lib.hid hlen
  have H3' := Lib.hid h3'
  have Hat' := Lib.hid hat'
  have Hlen' := Lib.hid hlen'
  unfold maxLen at h2 h2'
  clear h3 hat hlen h3' hat' hlen'
  by_cases hll : (len : Int) = (len' : Int)
  · have hll' : len = len' := by omega
    subst hll'
    clear hll
    go_enter Tryd.func12, Tryd.ntmps12
    go_wp2_with fail
    go_loopw [5, 13] (fun _ i wr => ∃ k : Nat, k ≤ len ∧ i = .int .i64 k ∧ (∀ j (hj : j < ps.length) (hj' : j < qs.length), j < k → ps[j] = qs[j]) ∧ Chg NoB w wr) (fun _ i _ => len - (intOf i).toNat)
    case atStart => exact ⟨0, Nat.zero_le _, rfl, fun j _ _ hj => absurd hj (Nat.not_lt_zero _), Chg.refl _ _⟩
    case round =>
      obtain ⟨k, hk, rfl, hno, hch⟩ := hrel
      have Hno := Lib.hid hno
      have Hch := Lib.hid hch
      clear hno hch
      by_cases hlt : k < len
      · have hp : k < ps.length := by rw [← Hlen.out]; exact hlt
        have hq : k < qs.length := by rw [← Hlen'.out]; exact hlt
        obtain ⟨rfl, -⟩ := H3.out (by rintro rfl; simp at hp)
        obtain ⟨rfl, -⟩ := H3'.out (by rintro rfl; simp at hq)
        obtain ⟨-, c0, c1, c2⟩ := Hat.out k hp
        obtain ⟨-, d0, d1, d2⟩ := Hat'.out k hq
        have c0 := Hch.out.keep c0
        have c1 := Hch.out.keep c1
        have c2 := Hch.out.keep c2
        have d0 := Hch.out.keep d0
        have d1 := Hch.out.keep d1
        have d2 := Hch.out.keep d2
        have Hgo : Hid (ps[k] = qs[k] → ∀ j (hj : j < ps.length) (hj' : j < qs.length), j < k + 1 → ps[j] = qs[j]) := Lib.hid fun h j hj hj' hjk => by
          by_cases e : j = k
          · subst e; exact h
          · exact Hno.out j hj hj' (by omega)
        have Hne : Hid (ps[k] ≠ qs[k] → ps ≠ qs) := Lib.hid fun h e => by subst e; exact h rfl
        generalize ps[k] = x at *
        generalize qs[k] = y at *
        have hA := And.intro c0 (And.intro c1 (And.intro c2 (And.intro d0 (And.intro d1 d2))))
        have hsb := tx_beq x.s y.s
        have hxy : x = y ↔ (x.op == y.op) = true ∧ (x.n == y.n) = true ∧ decide (x.s = y.s) = true := by
          obtain ⟨o1, n1, s1⟩ := x
          obtain ⟨o2, n2, s2⟩ := y
          simp
        have Hxy := Lib.hid hxy
        obtain ⟨b1, hb1⟩ : ∃ b, b = (x.op == y.op) := ⟨_, rfl⟩
        obtain ⟨b2, hb2⟩ : ∃ b, b = (x.n == y.n) := ⟨_, rfl⟩
        obtain ⟨b3, hb3⟩ : ∃ b, b = decide (x.s = y.s) := ⟨_, rfl⟩
        rw [← hb3] at hsb
        rw [← hb1, ← hb2, ← hb3] at Hxy
        replace hb1 := hb1.symm
        replace hb2 := hb2.symm
        clear hxy hb3
        go_upto_region 6 with fail
        cases b1 <;> cases b2 <;> cases b3
        all_goals
          go_region_held3 (fun w' => w'.cell? ⟨kb, ko + k * 3, none⟩ = some (.int .i64 x.op) ∧ w'.cell? ⟨kb, ko + k * 3 + 1, none⟩ = some (.int .i64 x.n) ∧ w'.cell? ⟨kb, ko + k * 3 + 2, none⟩ = some (.string (tx x.s)) ∧ w'.cell? ⟨jb, jo + k * 3, none⟩ = some (.int .i64 y.op) ∧ w'.cell? ⟨jb, jo + k * 3 + 1, none⟩ = some (.int .i64 y.n) ∧ w'.cell? ⟨jb, jo + k * 3 + 2, none⟩ = some (.string (tx y.s)))
            (exact hA)
            (fail)
        all_goals
          first
            | (have Heq := Lib.hid (Hgo.out (Hxy.out.2 ⟨rfl, rfl, rfl⟩))
               clear Hgo Hne Hxy
               go_wp2_with fail
               go_roundw
               case rel => exact ⟨k + 1, by omega, by go_num, Heq.out, Hch.out.drew⟩
               case measure => simp [intOf]; omega)
            | (have hn1 : x ≠ y := fun e => by have := Hxy.out.1 e; simp at this
               have Hpq := Lib.hid (Hne.out hn1)
               clear hn1 Hgo Hne Hxy
               go_wp2_with fail
               go_ret
               exact ⟨⟨false, rfl, by simp [Hpq.out]⟩, Hch.out.drew⟩)
      · obtain rfl : k = len := by omega
        have heq : ps = qs := List.ext_getElem (by rw [← Hlen.out, Hlen'.out]) fun j hj hj' => Hno.out j hj hj' (by rw [Hlen.out]; exact hj)
        have Heq := Lib.hid heq
        clear heq
        go_wp2_with fail
        go_ret
        exact ⟨⟨true, rfl, by simp [Heq.out]⟩, Hch.out⟩
  · have hne : ((len : Int) == (len' : Int)) = false := by rw [beq_eq_false_iff_ne]; exact hll
    have Hpq : Hid (ps ≠ qs) := Lib.hid fun e => hll (by rw [Hlen.out, Hlen'.out, e])
    clear hll
    go_enter Tryd.func12, Tryd.ntmps12
    go_wp2_with fail
    go_ret
    exact ⟨⟨false, rfl, by simp [Hpq.out]⟩, Chg.refl _ _⟩
end Go.Proofs.YtaihgciokfkonaaDoor
