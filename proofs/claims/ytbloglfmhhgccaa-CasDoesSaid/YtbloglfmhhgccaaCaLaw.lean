/- What the document tells of stores, as the statements ask ahead of all: it is so. What is more than is played. Conditions: texts as the form reads them. -/
import Derived.Test.YtbloglfmhhgccaaCaOps
import Derived.Laws.EntriesVeiled
import Derived.IntWalk


namespace Go.Proofs.Ytbloglfmhhgccaa
set_option linter.unusedVariables false
open Go.ChangeShapes Go.WideShapes Go.ChangeAt Go.RowKit
theorem cfunc_ne (w1 : World) (b : Nat) : (Sem.run Try.prog (binOp BinOp.eql 40 (Value.func (Fn.func 45) #[] #[Value.pointer (some { block := b, off := 0 })]) Value.nilFunc) w1) = .ok (.bool false) w1 := by
  unfold binOp Op.equal
  obtain ⟨d, hd⟩ : ∃ d, Op.maxDepth = d + 1 := ⟨_, rfl⟩
  rw [hd]
  clear hd
  simp only [Op.equalIn, Sem.run_bind, run_underlying Try.underlying40, Result.andThen_ok, Sem.run_pure]
def cA : List UInt8 := [97]
def cB : List UInt8 := [98]
theorem cA_key : keyL 0 cA = [97, 97, 97, 97, 97, 97, 97, 97, 97, 97, 97, 97, 97] := by kernel_rfl
theorem cA_try : tryF 0 [] cA = 0 := by kernel_rfl
theorem cA_put : putO 0 [] cA = [cA] := by kernel_rfl
theorem cA_try2 : tryF 0 [cA] cA = 0 := by kernel_rfl
theorem cA_put2 : putO 0 [cA] cA = [cA] := by kernel_rfl
theorem cB_try : tryF 0 [cA] cB = 72 := by kernel_rfl
theorem cB_put : putO 0 [cA] cB = [cA] := by kernel_rfl
theorem cA_k : tx (putK 0 [] cA) = ⟨#[97, 97, 97, 97, 97, 97, 97, 97, 97, 97, 97, 97, 97]⟩ := by kernel_rfl
theorem cA_k2 : tx (putK 0 [cA] cA) = ⟨#[97, 97, 97, 97, 97, 97, 97, 97, 97, 97, 97, 97, 97]⟩ := by kernel_rfl
theorem StO.putB {w : World} {lo sb ob : Nat} {W : Int} {ps : List FileL} (h : StO w lo sb ob W ps) {B : Nat} (h1 : B ≤ ob) (h2 : B ≤ lo) : ∀ k, PutB ob w k → B ≤ k := fun k hk => by
  rcases hk with rfl | hk
  · exact h1
  · exact Nat.le_trans h2 (h.rowB hk).1
set_option maxHeartbeats 2000000 in
set_option maxRecDepth 20000 in
theorem calive_any (w : World) : Calls Try.prog 7 #[] w (SayB true w) := by
  have HO := Lib.hid (goes_nil w)
  go_enter Try.func7, Try.ntmps7
  go_wp2_with fail
  refine HO.out.mono ?_
  rintro e w1 ⟨hc1, pb, pv, nb, rfl, -⟩
  have Hc1 := Lib.hid hc1
  have hne := cfunc_ne w1 pb
  have HN := Lib.hid (new_any 0 w1)
  clear hc1 HO
  go_wp2_with fail
  refine HN.out.mono ?_
  rintro e w2 ⟨hc2, sb, ob, rfl, hst, hsb, hob, hz2, -, -⟩
  obtain ⟨lo, hlo⟩ : ∃ lo, lo = w1.heap.size + 2 := ⟨_, rfl⟩
  have hst := (hst w2 lo (Chg.refl _ _) (by omega) (by omega)).1
  have Hc2 := Lib.hid (Hc1.out.trans hc2)
  have Hob := Lib.hid (show w.heap.size ≤ ob ∧ w.heap.size ≤ lo from by have := Hc1.out.size; omega)
  have Hst := Lib.hid hst
  have HP := Lib.hid (put_any [] (by decide) cA (by decide) lo sb ob 0 [] (InvO.nil 0) w2 hst)
  unfold PutC at HP
  rw [cA_try, cA_k, cA_put] at HP
  clear hst hc2 hsb hob hlo hne HN hz2
  go_wp2_with fail
  refine HP.out.mono ?_
  rintro e w3 ⟨rfl, hc3, -, ps3, hi3, hst3⟩
  have Hc3 := Lib.hid (Hc2.out.above hc3 (Hst.out.putB Hob.out.1 Hob.out.2))
  have HP3 := Lib.hid (put_any [cA] (by decide) cA (by decide) lo sb ob 0 ps3 hi3 w3 hst3)
  have Hst3 := Lib.hid hst3
  unfold PutC at HP3
  rw [cA_try2, cA_k2, cA_put2] at HP3
  clear hc3 hi3 hst3 HP
  go_wp2_with fail
  refine HP3.out.mono ?_
  rintro e w4 ⟨rfl, hc4, -, ps4, hi4, hst4⟩
  have Hc4 := Lib.hid (Hc3.out.above hc4 (Hst3.out.putB Hob.out.1 Hob.out.2))
  have HP4 := Lib.hid (put_any [cA] (by decide) cB (by decide) lo sb ob 0 ps4 hi4 w4 hst4)
  have Hst4 := Lib.hid hst4
  unfold PutC at HP4
  rw [cB_try, cB_put] at HP4
  clear hc4 hi4 hst4 HP3
  go_wp2_with fail
  refine HP4.out.mono ?_
  rintro e w5 ⟨rfl, hc5, -, ps5, hi5, hst5⟩
  have Hc5 := Lib.hid (Hc4.out.above hc5 (Hst4.out.putB Hob.out.1 Hob.out.2))
  have HL := Lib.hid (len_any ps5 lo sb ob 0 w5 hst5)
  rw [hi5.len] at HL
  clear hc5 hi5 hst5 HP4
  go_wp2_with fail
  refine HL.out.mono ?_
  rintro e w6 ⟨rfl, rfl⟩
  go_wp2_with fail
  go_ret
  exact ⟨rfl, Hc5.out⟩
def GreatP (ts : List (List UInt8)) (w : World) (e : Ending) (w' : World) : Prop := ∃ g : Bool, e = .returned (.bool g) ∧ (g = false → ts.length ≤ 60 ∧ ∀ t ∈ ts, t.length ≤ 262144) ∧ w = w'
set_option maxHeartbeats 2000000 in
set_option maxRecDepth 20000 in
theorem cgreat_any (ts : List (List UInt8)) (hl : ts.length ≤ 140737488351232) (hb : ∀ t ∈ ts, t.length ≤ 140737488351232) (S : Nat → Prop) (v : Value) (kb ko : Nat) (w : World) (hs : TxtS w S v ts kb ko) :
    Calls Try.prog 8 #[v] w (GreatP ts w) := by
  obtain ⟨⟨q, c, rfl, h1, h2, h3⟩, hat⟩ := hs
  have H3 := Lib.hid h3
  have Hat := Lib.hid hat
  have Hb := Lib.hid hb
  unfold maxLen at h2
  obtain ⟨n, hn⟩ : ∃ n, n = ts.length := ⟨_, rfl⟩
  rw [← hn] at h1 hl ⊢
  have Hn := Lib.hid hn
  clear h3 hat hb hn
  go_enter Try.func8, Try.ntmps8
  go_wp2_with fail
  go_loop [3, 8] (fun s i => ∃ j k : Nat, j ≤ n ∧ i = .int .i64 j ∧ s = .int .i64 k ∧ k ≤ 262144 ∧ ∀ t ∈ ts.take j, t.length ≤ k) (fun _ i => n - (intOf i).toNat)
  case atStart => exact ⟨0, 0, Nat.zero_le _, rfl, rfl, Nat.zero_le _, by rw [List.take_zero]; exact (fun b hb => by cases hb)⟩
  case round =>
    obtain ⟨j, k, hj, rfl, rfl, hk, ha⟩ := hrel
    have Ha := Lib.hid ha
    clear ha
    by_cases hlt : j < n
    · have hlt' : j < ts.length := by rw [← Hn.out]; exact hlt
      obtain ⟨rfl, -⟩ := H3.out (by intro e; rw [e] at hlt'; simp at hlt')
      have c0 := Hat.out j hlt'
      have hbj := Hb.out _ (List.getElem_mem hlt')
      have Htk := Lib.hid (take_at hlt')
      generalize ts[j] = b at *
      obtain ⟨m, hm⟩ : ∃ m, m = b.length := ⟨_, rfl⟩
      have hz : (tx b).size = m := by rw [tx_size, hm]
      rw [← hm] at hbj
      have Hm := Lib.hid hm
      clear hlt' hm
      by_cases hbig : 262144 < k + m
      · go_wp2_with fail
        go_ret
        exact ⟨true, rfl, (fun h => by cases h), rfl⟩
      · go_wp2_with fail
        go_round
        case rel => exact ⟨j + 1, k + m, by omega, by go_num, by go_num, by omega, by rw [Htk.out]; exact fun x hx => (List.mem_append.1 hx).elim (fun h => Nat.le_trans (Ha.out x h) (Nat.le_add_right _ _)) fun h => by rw [List.mem_singleton.1 h, ← Hm.out]; exact Nat.le_add_left _ _⟩
        case measure => simp [intOf]; omega
    · obtain rfl : j = n := by omega
      have hall : ∀ t ∈ ts, t.length ≤ k := by have h := Ha.out; rwa [Hn.out, List.take_of_length_le (Nat.le_refl _)] at h
      have Hall := Lib.hid hall
      clear hall hlt
      have Hj := Lib.hid (show decide (60 < (j : Int)) = false → ts.length ≤ 60 from fun h => by have h2 := of_decide_eq_false h; have := Hn.out; omega)
      go_wp2_with fail
      go_ret
      exact ⟨_, rfl, fun h => ⟨Hj.out h, fun t ht => Nat.le_trans (Hall.out t ht) hk⟩, rfl⟩
end Go.Proofs.Ytbloglfmhhgccaa
