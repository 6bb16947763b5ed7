/- The contract of Check. Condition: the list of words reads as the program's text lays it. -/
import Derived.Test.YtaihgciokfkonaaDoorCdCheck
namespace Go.Proofs.YtaihgciokfkonaaDoor
set_option linter.unusedVariables false
open Go.ChangeShapes Go.WideShapes Go.ChangeAt Go.RowKit
def checkF (ps : List InsL) : Int × Int :=
  if ps.length = 0 ∨ 256 < ps.length then (0, 13)
  else match ps.findIdx? (fun x => !standsF x ps.length) with
    | none => (0, 0)
    | some k => ((k : Int), 30)
def findI : Option Nat → Int
  | none => -1
  | some k => k
theorem find_none {ps : List InsL} {f : InsL → Bool} (h : ∀ i (hi : i < ps.length), f ps[i] = true) : ps.findIdx? (fun x => !f x) = none := by
  rw [List.findIdx?_eq_none_iff]
  intro x hx
  obtain ⟨i, hi, rfl⟩ := List.getElem_of_mem hx
  rw [h i hi]; rfl
theorem find_some {ps : List InsL} {f : InsL → Bool} {k : Nat} (hk : k < ps.length) (h1 : f ps[k] = false) (h : ∀ i (hi : i < k), f (ps[i]'(Nat.lt_trans hi hk)) = true) : ps.findIdx? (fun x => !f x) = some k := by
  rw [List.findIdx?_eq_some_iff_getElem]
  refine ⟨hk, by rw [h1]; rfl, fun j hj => ?_⟩
  rw [h j hj]; simp
set_option maxHeartbeats 1000000 in
theorem check1_any (x : InsL) (hx : x.wf) (q : Option Addr) (len c pb : Nat) (base : Nat) (w : World) (h : Wd base w) (hp : w.cell? ⟨pb, 0, none⟩ = some (.slice q len c)) :
    Calls Tryd.prog 45 #[x.val, .pointer (some ⟨pb, 0, none⟩)] w (SayI (.bool (!standsF x len)) w) := by
  have hal := (Chg.refl NoB w).alloc (.cells #[.int .i64 x.op, .int .i64 x.n, .string (tx x.s)] 38)
  obtain ⟨f0, f1, f2⟩ := var3 (heap_alloc_new w (.cells #[.int .i64 x.op, .int .i64 x.n, .string (tx x.s)] 38))
  have hp1 := hal.keep hp
  have Hs := Lib.hid (stands_any x hx (len : Int) base _ (h.keep hal))
  have Hal := Lib.hid hal
  unfold InsL.val at *
  clear hal hp h
  go_enter Tryd.func45, Tryd.ntmps45
  go_wp2_with fail
  refine Hs.out.mono ?_
  rintro e w1 ⟨rfl, hc⟩
  have Hc := Lib.hid (Hal.out.trans hc)
  clear hc f0 f1 f2 hp1 Hs Hal
  go_wp2_with fail
  go_ret
  exact ⟨rfl, Hc.out⟩
set_option maxHeartbeats 1000000 in
theorem indexIns_any (ps : List InsL) (S : Nat → Prop) (v : Value) (kb ko pb : Nat) (q : Option Addr) (len c : Nat) (base : Nat) (w : World) (h : Wd base w) (hl : ps.length ≤ 131072) (hs : InsS w S v ps kb ko) (hp : w.cell? ⟨pb, 0, none⟩ = some (.slice q len c)) :
    Calls Tryd.prog 44 #[v, .func (.func 45) #[] #[.pointer (some ⟨pb, 0, none⟩)]] w fun e w' =>
      e = .returned (.int .i64 (findI (ps.findIdx? (fun x => !standsF x len)))) ∧ Chg NoB w w' := by
  obtain ⟨r, hr⟩ : ∃ r, r = findI (ps.findIdx? (fun x => !standsF x len)) := ⟨_, rfl⟩
  rw [← hr]
  have Hr := Lib.hid hr
  clear hr
  obtain ⟨⟨a, cap, rfl, h1, h2, h3⟩, hat⟩ := hs
  obtain ⟨pl, hpl⟩ : ∃ pl, pl = ps.length := ⟨_, rfl⟩
  rw [← hpl] at h1 hl ⊢
  have H3 := Lib.hid h3
  have Hat := Lib.hid hat
  have Hpl := Lib.hid hpl
  have H := Lib.hid h
  have Hp := Lib.hid hp
  unfold maxLen at h2
  clear h3 hat hpl h hp
  go_enter Tryd.func44, Tryd.ntmps44
  go_wp2_with fail
  go_loopw [5, 8] (fun _ i wr => ∃ k : Nat, k ≤ pl ∧ i = .int .i64 k ∧ (∀ j (hj : j < ps.length), j < k → standsF ps[j] len = true) ∧ Chg NoB w wr) (fun _ i _ => pl - (intOf i).toNat)
  case atStart => exact ⟨0, Nat.zero_le _, rfl, fun j _ hj => absurd hj (Nat.not_lt_zero _), Chg.refl _ _⟩
  case round =>
    obtain ⟨k, hk, rfl, hno, hch⟩ := hrel
    have Hno := Lib.hid hno
    have Hch := Lib.hid hch
    clear hno hch
    by_cases hlt : k < pl
    · have hlt' : k < ps.length := by rw [← Hpl.out]; exact hlt
      obtain ⟨rfl, -⟩ := H3.out (by rintro rfl; simp at hlt')
      obtain ⟨hwf, c0, c1, c2⟩ := Hat.out k hlt'
      have c0 := Hch.out.keep c0
      have c1 := Hch.out.keep c1
      have c2 := Hch.out.keep c2
      have Hc := Lib.hid (check1_any ps[k] hwf q len c pb base wr (H.out.keep Hch.out) (Hch.out.keep Hp.out))
      have Hyes : Hid (standsF ps[k] len = false → ps.findIdx? (fun x => !standsF x len) = some k) := Lib.hid fun h => find_some hlt' h fun i hi => Hno.out i _ hi
      have Hgo : Hid (standsF ps[k] len = true → ∀ j (hj : j < ps.length), j < k + 1 → standsF ps[j] len = true) := Lib.hid fun h j hj hjk => by
        by_cases e : j = k
        · subst e; exact h
        · exact Hno.out j hj (by omega)
      generalize ps[k] = x at *
      unfold InsL.val at *
      clear hwf
      go_wp2_with fail
      refine Hc.out.mono ?_
      rintro e w1 ⟨rfl, hc1⟩
      have Hc1 := Lib.hid (Hch.out.trans hc1)
      clear hc1 c0 c1 c2 Hc
      cases hst : standsF x len with
      | false =>
        have Hf := Lib.hid (Hyes.out hst)
        clear hst
        go_wp2_with fail
        go_ret
        have hrk : r = (k : Int) := by rw [Hr.out, Hf.out]; rfl
        exact ⟨congrArg (fun x => Ending.returned (Value.int .i64 x)) hrk.symm, Hc1.out⟩
      | true =>
        have Hg := Lib.hid (Hgo.out hst)
        clear hst
        go_wp2_with fail
        go_roundw
        case rel => exact ⟨k + 1, by omega, by go_num, Hg.out, Hc1.out⟩
        case measure => simp [intOf]; omega
    · obtain rfl : k = pl := by omega
      have Hf := Lib.hid (find_none (ps := ps) (f := fun x => standsF x len) fun i hi => Hno.out i hi (by rw [Hpl.out]; exact hi))
      go_wp2_with fail
      go_ret
      have hrk : r = -1 := by rw [Hr.out, Hf.out]; rfl
      exact ⟨congrArg (fun x => Ending.returned (Value.int .i64 x)) hrk.symm, Hch.out⟩
set_option maxHeartbeats 1000000 in
theorem check_any (ps : List InsL) (S : Nat → Prop) (v : Value) (kb ko : Nat) (base : Nat) (w : World) (h : Wd base w) (hl : ps.length ≤ 131072) (hs : InsS w S v ps kb ko) :
    Calls Tryd.prog 24 #[v] w (SayI (.tuple #[.int .i64 (checkF ps).1, .int .i64 (checkF ps).2]) w) := by
  have hs' := hs
  obtain ⟨⟨q, c, rfl, h1, h2, h3⟩, hat⟩ := hs
  obtain ⟨len, hlen⟩ : ∃ len, len = ps.length := ⟨_, rfl⟩
  rw [← hlen] at h1 hs' ⊢
  have hal := (Chg.refl NoB w).alloc (.cells #[.slice q len c] 23)
  have hb0 : (w.alloc (.cells #[.slice q len c] 23)).cell? ⟨w.heap.size, 0, none⟩ = some (.slice q len c) := cell_of_row _ _ 0 _ _ (0, 0) (heap_alloc_new w _)
  have Hx := Lib.hid (indexIns_any ps S _ kb ko w.heap.size q len c base _ (h.keep hal) hl (hs'.keep hal fun _ _ => id) hb0)
  have Hal := Lib.hid hal
  have hck : checkF ps = if ps.length = 0 ∨ 256 < ps.length then ((0 : Int), (13 : Int)) else match ps.findIdx? (fun x => !standsF x ps.length) with | none => ((0 : Int), (0 : Int)) | some k => ((k : Int), (30 : Int)) := rfl
  rw [← hlen] at hck
  have Hck := Lib.hid hck
  have hlb : len ≤ 131072 := by omega
  have hbd : ∀ k, ps.findIdx? (fun x => !standsF x len) = some k → k < len := fun k hk => by
    rw [List.findIdx?_eq_some_iff_getElem] at hk
    rw [hlen]; exact hk.1
  have Hbd := Lib.hid hbd
  unfold maxLen at h2
  clear hal hs' h hat h3 hck hlen hbd
  by_cases hsz : len = 0 ∨ 256 < len
  · rw [if_pos hsz] at Hck
    go_enter Tryd.func24, Tryd.ntmps24
    rcases hsz with h0 | h0
    · subst h0
      go_wp2_with fail
      go_ret2
      refine ⟨?_, Hal.out⟩
      show Ending.returned (.tuple #[.int .i64 0, .int .i64 13]) = _
      rw [Hck.out]
    · have hz : ((len : Int) == 0) = false := by rw [beq_eq_false_iff_ne]; omega
      go_wp2_with fail
      go_ret2
      refine ⟨?_, Hal.out⟩
      show Ending.returned (.tuple #[.int .i64 0, .int .i64 13]) = _
      rw [Hck.out]
  · rw [if_neg hsz] at Hck
    have hz : ((len : Int) == 0) = false := by rw [beq_eq_false_iff_ne]; omega
    go_enter Tryd.func24, Tryd.ntmps24
    cases hf : ps.findIdx? (fun x => !standsF x len) with
    | none =>
      rw [hf] at Hck Hx
      clear hf Hbd
      go_wp2_with fail
      refine Hx.out.mono ?_
      rintro e w1 ⟨rfl, hc⟩
      go_wp2_with fail
      go_ret2
      refine ⟨?_, Hal.out.trans hc⟩
      show Ending.returned (.tuple #[.int .i64 0, .int .i64 0]) = _
      rw [Hck.out]
    | some k =>
      have hkb := Hbd.out k hf
      rw [hf] at Hck Hx
      clear hf Hbd
      go_wp2_with fail
      refine Hx.out.mono ?_
      rintro e w1 ⟨rfl, hc⟩
      go_wp2_with fail
      go_ret2
      refine ⟨?_, Hal.out.trans hc⟩
      show Ending.returned (.tuple #[.int .i64 k, .int .i64 30]) = _
      rw [Hck.out]
end Go.Proofs.YtaihgciokfkonaaDoor
