/- What the statements of this layer ask ahead of all: alive, great. Conditions: the library's variables and the list of words read as listed. -/
import Derived.Test.YtaihgciokfkonaaDoorAmAsmW
import Derived.Test.YtaihgciokfkonaaDoorAmDis

namespace Go.Proofs.YtaihgciokfkonaaDoor
set_option linter.unusedVariables false
open Go.ChangeShapes Go.WideShapes Go.ChangeAt Go.RowKit
def sumF : List InsL → Nat
  | [] => 0
  | x :: r => 1 + x.s.length + sumF r
theorem sumF_app (a b : List InsL) : sumF (a ++ b) = sumF a + sumF b := by
  induction a with
  | nil => rw [sumF]; simp
  | cons k r ih => rw [List.cons_append, sumF, sumF, ih]; omega
theorem sumF_take (ps : List InsL) (k : Nat) (h : k < ps.length) : sumF (ps.take (k + 1)) = sumF (ps.take k) + (1 + ps[k].s.length) := by
  rw [List.take_add_one, List.getElem?_eq_getElem h, sumF_app]
  simp [sumF]
theorem sumF_sub (ps : List InsL) (k : Nat) : sumF (ps.take k) ≤ sumF ps := by
  have : sumF ps = sumF (ps.take k) + sumF (ps.drop k) := by rw [← sumF_app, List.take_append_drop]
  omega
theorem sumF_len (ps : List InsL) : ps.length ≤ sumF ps := by
  induction ps with
  | nil => simp [sumF]
  | cons k r ih => rw [sumF, List.length_cons]; omega
set_option maxHeartbeats 1000000 in
theorem great_any (ps : List InsL) (S : Nat → Prop) (v : Value) (kb ko : Nat) (w : World) (hs : InsS w S v ps kb ko) :
    Calls Tryd.prog 13 #[v] w (SayI (.bool (decide (131072 < sumF ps))) w) := by
  obtain ⟨⟨q, c, rfl, h1, h2, h3⟩, hat⟩ := hs
  obtain ⟨len, hlen⟩ : ∃ len, len = ps.length := ⟨_, rfl⟩
  rw [← hlen] at h1 ⊢
  have H3 := Lib.hid h3
  have Hat := Lib.hid hat
  have Hlen := Lib.hid hlen
  obtain ⟨r, hr⟩ : ∃ r, r = decide (131072 < sumF ps) := ⟨_, rfl⟩
  rw [← hr]
  have Hr := Lib.hid hr
  unfold maxLen at h2
  clear h3 hat hlen hr
  go_enter Tryd.func13, Tryd.ntmps13
  go_wp2_with fail
  go_loopw [3, 8] (fun sv i wr => ∃ k m : Nat, k ≤ len ∧ m = sumF (ps.take k) ∧ m ≤ 131072 ∧ sv = .int .i64 m ∧ i = .int .i64 k ∧ Chg NoB w wr) (fun _ i _ => len - (intOf i).toNat)
  case atStart => exact ⟨0, 0, Nat.zero_le _, rfl, Nat.zero_le _, rfl, rfl, Chg.refl _ _⟩
  case round =>
    obtain ⟨k, m, hk, hm, hmb, rfl, rfl, hch⟩ := hrel
    have Hm := Lib.hid hm
    have Hch := Lib.hid hch
    clear hm hch
    by_cases hlt : k < len
    · have hlt' : k < ps.length := by rw [← Hlen.out]; exact hlt
      obtain ⟨rfl, -⟩ := H3.out (by rintro rfl; simp at hlt')
      obtain ⟨⟨-, -, hsl⟩, c0, c1, c2⟩ := Hat.out k hlt'
      have c0 := Hch.out.keep c0
      have c1 := Hch.out.keep c1
      have c2 := Hch.out.keep c2
      have htk := sumF_take ps k hlt'
      rw [← Hm.out] at htk
      have hsub := sumF_sub ps (k + 1)
      have Htk := Lib.hid htk
      have Hsub := Lib.hid hsub
      generalize ps[k] = x at *
      obtain ⟨sl, hslen⟩ : ∃ sl, sl = x.s.length := ⟨_, rfl⟩
      have hsz : (tx x.s).size = sl := by rw [tx_size, hslen]
      rw [← hslen] at Htk hsl
      have hal := (Chg.refl NoB wr).alloc (.cells #[.int .i64 x.op, .int .i64 x.n, .string (tx x.s)] 38)
      obtain ⟨g0, g1, g2⟩ := var3 (heap_alloc_new wr (.cells #[.int .i64 x.op, .int .i64 x.n, .string (tx x.s)] 38))
      have Hal := Lib.hid (Hch.out.trans hal)
      clear htk hsub hslen hal
      by_cases hbig : 131072 < m + (1 + sl)
      · go_wp2_with fail
        go_ret
        refine ⟨congrArg (fun b => Ending.returned (Value.bool b)) ?_, Hal.out⟩
        rw [Hr.out]
        exact (decide_eq_true (by have := Htk.out; have := Hsub.out; omega)).symm
      · go_wp2_with fail
        go_roundw
        case rel => exact ⟨k + 1, m + (1 + sl), by omega, Htk.out.symm, by omega, by go_num, by go_num, Hal.out⟩
        case measure => simp [intOf]; omega
    · obtain rfl : k = len := by omega
      have hrf : r = false := by
        rw [Hr.out, decide_eq_false]
        have := Hm.out
        rw [Hlen.out, List.take_length] at this
        omega
      subst hrf
      go_wp2_with fail
      go_ret
      exact ⟨rfl, Hch.out⟩
def aliT : List UInt8 := [97, 58, 10, 112, 117, 115, 104, 32, 49, 10, 122, 101, 114, 111, 32, 97, 10, 104, 97, 108, 116]
def aliP : List InsL := [⟨2, 1, []⟩, ⟨18, 0, []⟩, ⟨1, 0, []⟩]
def aliD : List UInt8 := [108, 48, 58, 10, 112, 117, 115, 104, 32, 49, 10, 122, 101, 114, 111, 32, 108, 48, 10, 104, 97, 108, 116, 10]
theorem addF_wf {s s' : SrcL} {t : List UInt8} {no : Int} (h : addF s t no = .ok s') (ht : t.length ≤ 65536) (h1 : ∀ l ∈ s.list, l.ins.wf) : ∀ l ∈ s'.list, l.ins.wf := by
  unfold addF at h
  split at h
  · cases h; exact h1
  · split at h
    · split at h
      · cases h
      · cases h; exact h1
    · cases hi : insF t with
      | none => rw [hi] at h; cases h
      | some x =>
        rw [hi] at h
        cases h
        intro l hl
        rcases List.mem_append.1 hl with hl | hl
        · exact h1 l hl
        · rw [List.mem_singleton.1 hl]
          exact insF_wf hi ht
theorem linesF_inv : ∀ (a : List (List UInt8)) (k : Nat) (s s' : SrcL), linesF a k s = .ok s' → (∀ t ∈ a, t.length ≤ 65536) → (∀ l ∈ s.list, l.ins.wf) ∧ (∀ l ∈ s.list, l.lab.length ≤ 65536) ∧ (∀ x ∈ s.labs, 0 ≤ x.2 ∧ x.2 ≤ (s.list.length : Int)) → (∀ l ∈ s'.list, l.ins.wf) ∧ (∀ l ∈ s'.list, l.lab.length ≤ 65536) ∧ (∀ x ∈ s'.labs, 0 ≤ x.2 ∧ x.2 ≤ (s'.list.length : Int)) := by
  intro a
  induction a with
  | nil => intro k s s' h _ hi; cases h; exact hi
  | cons t r ih =>
    intro k s s' h ht hi
    rw [linesF] at h
    cases ha : addF s t ((k : Int) + 1) with
    | error e => rw [ha] at h; cases h
    | ok s1 =>
      rw [ha] at h
      have h65 := ht t List.mem_cons_self
      exact ih _ _ _ h (fun u hu => ht u (List.mem_cons_of_mem _ hu)) ⟨addF_wf ha h65 hi.1, addF_bd ha h65 hi.2.1 hi.2.2⟩
theorem asmF_wf (t : List UInt8) : ∀ x ∈ (asmF t).1, x.wf := by
  unfold asmF
  split
  · intro x hx; cases hx
  · rename_i hl
    cases hf : linesF (Pth.pcs 10 t) 0 ⟨[], []⟩ with
    | error x => intro x hx; cases hx
    | ok s =>
      simp only
      have hi := linesF_inv _ _ _ _ hf (fun u hu => Nat.le_trans (Pth.pcs_small 10 t u hu) (by omega)) ⟨fun l hl => (List.not_mem_nil hl).elim, fun l hl => (List.not_mem_nil hl).elim, fun l hl => (List.not_mem_nil hl).elim⟩
      have hlen := (linesF_len _ _ _ _ hf).1
      have hpl := Pth.pcs_len 10 t
      simp only [List.length_nil, Nat.zero_add] at hlen
      unfold endF
      cases hff : fillF s.labs s.list with
      | error n => intro x hx; cases hx
      | ok p =>
        simp only
        split
        · intro x hx; cases hx
        · split
          · intro x hx; cases hx
          · exact fill_wf (fun x hx => by have := hi.2.2 x hx; omega) hff hi.1
theorem asmF_len (t : List UInt8) : (asmF t).1.length ≤ 256 := by
  unfold asmF
  split
  · simp
  · cases hf : linesF (Pth.pcs 10 t) 0 ⟨[], []⟩ with
    | error x => simp
    | ok s =>
      simp only
      unfold endF
      cases hff : fillF s.labs s.list with
      | error n => simp
      | ok p =>
        simp only
        split
        · simp
        · split
          · simp
          · rename_i h
            have h0 : (checkF p).2 = 0 := Decidable.by_contra h
            exact (check_ok h0).2.2.1
theorem ali_asm : asmF aliT = (aliP, 0, 0) := by kernel_rfl
theorem ali_dis : disF aliP = (aliD, 0) := by kernel_rfl
set_option maxHeartbeats 1000000 in
set_option maxRecDepth 20000 in
theorem alive_any (base : Nat) (w : World) (hv : Av base w) (hml : 3 < base) : Calls Tryd.prog 9 #[] w (SayB true w) := by
  have HA := Lib.hid (show Calls Tryd.prog 10 #[.string ⟨#[97, 58, 10, 112, 117, 115, 104, 32, 49, 10, 122, 101, 114, 111, 32, 97, 10, 104, 97, 108, 116]⟩] w (ProgP (aliP, 0, 0) w) by
    have := asm_any base aliT w hv hml
    rw [ali_asm] at this
    exact this)
  have Hv := Lib.hid hv
  clear hv
  go_enter Tryd.func9, Tryd.ntmps9
  go_wp2_with fail
  refine HA.out.mono ?_
  rintro e w2 ⟨hc2, v, rfl, hrow⟩
  obtain ⟨q, c, rfl, -, -⟩ := row_shape hrow
  obtain ⟨kb, hins⟩ := InsS.of_row hrow (fun i hi => by
    have := asmF_wf aliT
    rw [ali_asm] at this
    exact this _ (List.getElem_mem hi))
  have HD := Lib.hid (dis_any aliP _ (.slice q aliP.length c) kb 0 base w2 (Hv.out.keep hc2) (fun k h => h.2) (by decide) hins)
  rw [ali_dis] at HD
  have Hc2 := Lib.hid hc2
  clear hc2 hrow hins
  go_wp2_with fail
  refine HD.out.mono ?_
  rintro e w3 ⟨rfl, hc3⟩
  have Hc3 := Lib.hid (Hc2.out.trans hc3)
  have ed : (tx aliD).toList = [108, 48, 58, 10, 112, 117, 115, 104, 32, 49, 10, 122, 101, 114, 111, 32, 108, 48, 10, 104, 97, 108, 116, 10] := txQ aliD
  have el : aliP.length = 3 := rfl
  clear hc3
  go_wp2_with fail
  go_ret
  exact ⟨rfl, Hc3.out⟩
end Go.Proofs.YtaihgciokfkonaaDoor
