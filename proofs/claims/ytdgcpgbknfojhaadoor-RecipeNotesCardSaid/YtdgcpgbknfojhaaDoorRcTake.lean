/- The contract of take. Conditions: the text is not too long; the library's variable of lengths lies at block 1. -/
import Derived.Test.YtdgcpgbknfojhaaDoorRcRune

namespace Go.Proofs.YtdgcpgbknfojhaaDoor
set_option linter.unusedVariables false
open Go.ChangeShapes Go.WideShapes Go.ChangeAt Go.RowKit
theorem cutQ_suf : ∀ (n : Nat) (s t r : List UInt8), cutQ n s = some (t, r) → r <:+ s ∧ t.length ≤ s.length
  | 0, s, t, r, h => by simp [cutQ] at h
  | n + 1, s, t, r, h => by
    cases s with
    | nil => simp [cutQ] at h
    | cons c l =>
      rw [cutQ] at h
      split at h
      · cases h
        exact ⟨List.suffix_cons c _, by simp⟩
      · split at h
        · cases h
        · rename_i h1 h2
          cases hc : cutQ n ((c :: l).drop (firstF (c :: l)).2) with
          | none => rw [hc] at h; cases h
          | some x =>
            obtain ⟨t', r'⟩ := x
            rw [hc] at h
            cases h
            obtain ⟨g1, g2⟩ := cutQ_suf n _ _ _ hc
            refine ⟨g1.trans (List.drop_suffix _ _), ?_⟩
            simp only [List.length_cons, List.length_drop] at g2 ⊢
            omega
theorem quoCut_suf {s t r : List UInt8} (h : quoCut s = some (t, r)) : r <:+ s ∧ t.length ≤ s.length := by
  cases s with
  | nil => simp [quoCut] at h
  | cons c l =>
    rw [quoCut] at h
    split at h
    · cases h
    · obtain ⟨g1, g2⟩ := cutQ_suf _ _ _ _ h
      exact ⟨g1.trans (List.suffix_cons c l), by rw [List.length_cons]; omega⟩
theorem word_sign {c : UInt8} (h : wordC c = true) : c.toNat ≠ 34 ∧ signC c = false := by
  unfold wordC at h
  simp only [Bool.or_eq_true, decide_eq_true_eq] at h
  refine ⟨by omega, ?_⟩
  unfold signC
  rw [decide_eq_false (by omega), decide_eq_false (by omega), decide_eq_false (by omega), decide_eq_false (by omega)]
  rfl
theorem tok_word {c : UInt8} {r : List UInt8} (h : wordC c = true) : tokF (c :: r) = .ok ⟨1, (c :: r).takeWhile wordC, (c :: r).length, (c :: r).dropWhile wordC⟩ := by
  obtain ⟨h1, h2⟩ := word_sign h
  rw [tokF, if_neg h1, if_neg (by rw [h2]; decide), if_pos h]
theorem tok_sign {c : UInt8} {r : List UInt8} (h : signC c = true) : tokF (c :: r) = .ok ⟨2, [c], (c :: r).length, r⟩ := by
  have h1 : c.toNat ≠ 34 := by
    unfold signC at h
    simp only [Bool.or_eq_true, decide_eq_true_eq] at h
    omega
  rw [tokF, if_neg h1, if_pos h]
theorem tok_else {c : UInt8} {r : List UInt8} (h1 : wordC c = false) (h2 : signC c = false) : tokF (c :: r) = match quoCut (c :: r) with
    | none => .error ((c :: r).length, 50)
    | some (t, b) => .ok ⟨3, t, (c :: r).length, b⟩ := by
  by_cases h : c.toNat = 34
  · rw [tokF, if_pos h]
    cases quoCut (c :: r) <;> rfl
  · rw [tokF, if_neg h, if_neg (by rw [h2]; decide), if_neg (by rw [h1]; decide), show quoCut (c :: r) = none by rw [quoCut, if_pos h]]
theorem set_tok {w : World} {rb : Nat} {src s : List UInt8} {pos kind at' : Nat} (h : w.heap[rb]? = some (.cells (rdV src pos kind at' s) 59 (0, 0))) (k2 a2 : Nat) (s2 : List UInt8) :
    (((w.setCell ⟨rb, 2, none⟩ (.int .i64 k2)).setCell ⟨rb, 3, none⟩ (.string (tx s2))).setCell ⟨rb, 4, none⟩ (.int .i64 a2)).heap[rb]? = some (.cells (rdV src pos k2 a2 s2) 59 (0, 0)) ∧
    Chg (fun k => k = rb) w (((w.setCell ⟨rb, 2, none⟩ (.int .i64 k2)).setCell ⟨rb, 3, none⟩ (.string (tx s2))).setCell ⟨rb, 4, none⟩ (.int .i64 a2)) :=
  ⟨heap_set (heap_set (heap_set h (i := 2) _) (i := 3) _) (i := 4) _, (((Chg.refl (fun k => k = rb) w).setCell (p := ⟨rb, 2, none⟩) (.inl rfl) _).setCell (p := ⟨rb, 3, none⟩) (.inl rfl) _).setCell (p := ⟨rb, 4, none⟩) (.inl rfl) _⟩
theorem takeW_pos {c : UInt8} {r : List UInt8} : 0 < ((c :: r).takeWhile wordC).length ↔ wordC c = true := by
  rw [List.takeWhile_cons]
  cases wordC c <;> simp
theorem cut_ab (l : List UInt8) (a b : Nat) : (tx l).extract a b = tx ((l.take b).drop a) := by
  apply ByteArray.ext
  rw [ByteArray.data_extract]
  show l.toArray.extract a b = ((l.take b).drop a).toArray
  simp [List.drop_take]
theorem takeW_cut (s : List UInt8) : (tx s).extract 0 (s.takeWhile wordC).length = tx (s.takeWhile wordC) := by
  rw [cut_ab, List.drop_zero]
  congr 1
  exact (List.prefix_iff_eq_take.1 (List.takeWhile_prefix _)).symm
def TakeP (rb : Nat) (src : List UInt8) (o : Except FaultL RdL) (w : World) (e : Ending) (w' : World) : Prop := Chg (fun k => k = rb) w w' ∧ match o with
  | .ok st => e = .returned (.tuple #[]) ∧ RdM w' rb src st
  | .error x => e = quitF ((src.length - x.1 : Nat) : Int) x.2
set_option maxHeartbeats 4000000 in
set_option maxRecDepth 20000 in
theorem take_any {w : World} {rb : Nat} {src : List UInt8} {st : RdL} (base : Nat) (h : RdM w rb src st) (hl : src.length ≤ 8192) (hk : Kw base w) (hrb : base ≤ rb) : Calls Tryd.prog 27 #[.pointer (some ⟨rb, 0, none⟩)] w (TakeP rb src (takeF st.rest) w) := by
  have HS := Lib.hid (skip_any base h.row h.suf hl hk)
  unfold SkipP at HS
  have hsuf := (skipF_suffix st.rest false).trans h.suf
  have hto : takeF st.rest = tokF (skipF false st.rest) := rfl
  rw [hto]
  clear hto h
  generalize skipF false st.rest = l at *
  have hz : (tx src).size = src.length := tx_size src
  have hzl : (tx l).size = l.length := tx_size l
  have en := txQ l
  have hll := hsuf.length_le
  have hcut : (tx src).extract (src.length - l.length) src.length = tx l := by rw [cut_from src _ _ rfl (Nat.sub_le _ _), suf_drop hsuf]
  obtain ⟨pos, hpos⟩ : ∃ n, n = src.length - l.length := ⟨_, rfl⟩
  rw [← hpos] at hcut
  have hpl : pos + l.length = src.length := by omega
  rw [← hpos] at HS
  have Hsuf := Lib.hid hsuf
  have Hpos := Lib.hid hpos
  clear hsuf hk hpos
  go_enter Tryd.func27, Tryd.ntmps27
  go_wp2_with fail
  refine HS.out.mono ?_
  rintro e w2 ⟨rfl, hr2, hc2⟩
  obtain ⟨c0, c1, c2, c3, c4⟩ := cell5 hr2
  have hp2 : (pos : Int) ≤ (src.length : Int) := by omega
  go_wp2_with fail
  go_quiet (fail)
  have hcd := (Chg.refl NoB w2).drewN nq
  have hr3 := row_kept hcd hr2 id
  have Hc3 := Lib.hid (hc2.drewN nq)
  clear c0 c1 c2 c3 c4 hr2 hc2 hcd
  generalize w2.drewN nq = w3 at *
  obtain ⟨c0, c1, c2, c3, c4⟩ := cell5 hr3
  have fr := row_free hr3
  obtain ⟨hr4, hc4⟩ := set_tok hr3 0 pos []
  have Hr4 := Lib.hid hr4
  have Hc4 := Lib.hid (Hc3.out.trans hc4)
  clear hr4 hc4 hr3
  go_upto_region 8 with fail
  replace Hr4 : Hid ((((w3.setCell ⟨rb, 2, none⟩ (.int .i64 0)).setCell ⟨rb, 3, none⟩ (.string ⟨#[]⟩)).setCell ⟨rb, 4, none⟩ (.int .i64 pos)).heap[rb]? = some (.cells (rdV src pos 0 pos []) 59 (0, 0))) := Hr4
  replace Hc4 : Hid (Chg (fun k => k = rb) w (((w3.setCell ⟨rb, 2, none⟩ (.int .i64 0)).setCell ⟨rb, 3, none⟩ (.string ⟨#[]⟩)).setCell ⟨rb, 4, none⟩ (.int .i64 pos))) := Hc4
  clear c0 c1 c2 c3 c4 fr
  generalize ((w3.setCell ⟨rb, 2, none⟩ (.int .i64 0)).setCell ⟨rb, 3, none⟩ (.string ⟨#[]⟩)).setCell ⟨rb, 4, none⟩ (.int .i64 pos) = w4 at *
  rcases l with _ | ⟨c, r⟩
  · have e0 : pos = src.length := by simpa using hpl
    go_wp2_with fail
    go_end0
    exact ⟨Hc4.out, rfl, ⟨by rw [e0] at Hr4; exact Hr4.out, List.nil_suffix, Nat.zero_le _, Nat.zero_le _⟩⟩
  · obtain ⟨l, hle⟩ : ∃ l, l = c :: r := ⟨_, rfl⟩
    have h0 : 0 < (tx (c :: r)).size := by rw [tx_size]; exact Nat.succ_pos _
    have hb0 : (tx (c :: r))[0]'h0 = c := rfl
    have hne : ((c :: r : List UInt8) == []) = false := rfl
    have HW := Lib.hid (wsize_any (c :: r))
    have Hpos0 := Lib.hid (takeW_pos (c := c) (r := r))
    have hk2 := takeW_len (c :: r)
    have Hcw := Lib.hid (takeW_cut (c :: r))
    have Htl := Lib.hid (List.takeWhile_append_dropWhile (p := wordC) (l := c :: r))
    have HQ := Lib.hid (fun w => qcut_any (c :: r) w (by omega))
    have Hq2 := Lib.hid (fun t b => quoCut_suf (s := c :: r) (t := t) (r := b))
    have HT1 := Lib.hid (tok_word (c := c) (r := r))
    have HT2 := Lib.hid (tok_sign (c := c) (r := r))
    have HT3 := Lib.hid (tok_else (c := c) (r := r))
    have HR := Lib.hid (signs_any c)
    have hl1 : (c :: r).length = r.length + 1 := rfl
    have Hc1 := Lib.hid (show (tx (c :: r)).extract 0 1 = tx [c] by rw [cut_ab]; rfl)
    have Hsr := Lib.hid (show r <:+ c :: r from List.suffix_cons c r)
    clear hle
    generalize hl0 : c :: r = l at *
    clear hl0
    by_cases hw : wordC c = true
    · have Htok := Lib.hid (HT1.out hw)
      have hk0 := Hpos0.out.2 hw
      clear HT1 HT2 HT3 HQ Hq2 HR Hpos0 hw
      generalize l.takeWhile wordC = tw at *
      generalize l.dropWhile wordC = dw at *
      obtain ⟨k, hk⟩ : ∃ k, k = tw.length := ⟨_, rfl⟩
      rw [← hk] at HW hk0 hk2 Hcw
      have Hk := Lib.hid hk
      clear hk
      have hcw := Hcw.out
      go_wp2_with fail
      refine (HW.out _).mono ?_
      rintro e w5 ⟨rfl, hc5⟩
      have Hr5 := Lib.hid (row_kept hc5 Hr4.out id)
      have Hc5 := Lib.hid (Hc4.out.trans (hc5.mono fun _ _ h => h.elim))
      clear hc5
      obtain ⟨c0, c1, c2, c3, c4⟩ := cell5 Hr5.out
      have fr := row_free Hr5.out
      go_upto_region 10 with fail
      have hcd := (Chg.refl NoB w5).drew
      go_region_with ((go_at_call 22; refine (HW.out w5.drew).mono ?_; rintro e w6 ⟨rfl, hc6'⟩; have hc6 : Chg NoB w5 w6 := hcd.trans hc6'; have hr6 := row_kept hc6 Hr5.out id; obtain ⟨d0, d1, d2, d3, d4⟩ := cell5 hr6; have fr6 := row_free hr6))
      · skip
        have hs7 := heap_set (heap_set hr6 (i := 2) (.int .i64 1)) (i := 3) (.string (tx tw))
        have hc7 := ((Chg.refl (fun k => k = rb) w6).setCell (p := ⟨rb, 2, none⟩) (.inl rfl) (.int .i64 1)).setCell (p := ⟨rb, 3, none⟩) (.inl rfl) (.string (tx tw))
        have Hc7 := Lib.hid ((Hc5.out.trans (hc6.mono fun _ _ h => h.elim)).trans hc7)
        have hztw : (tx tw).size = k := by rw [tx_size, Hk.out]
        clear hc7 hc6 hc6' hr6 d0 d1 d2 d3 d4 fr6 hcd c0 c1 c2 c3 c4 fr
        generalize (w6.setCell ⟨rb, 2, none⟩ (.int .i64 1)).setCell ⟨rb, 3, none⟩ (.string (tx tw)) = w7 at *
        replace hs7 : w7.heap[rb]? = some (.cells (rdV src pos 1 pos tw) 59 (0, 0)) := hs7
        obtain ⟨c0, c1, c2, c3, c4⟩ := cell5 hs7
        go_wp2_with fail
        go_still_tail 11, (by kernel_rfl)
        change wpList _ _ _ _ _ w7.drew
        have hr8 := row_kept ((Chg.refl NoB w7).drew) hs7 id
        have Hc8 := Lib.hid (Hc7.out.trans (Chg.refl (fun k => k = rb) w7).drew)
        clear hs7 c0 c1 c2 c3 c4
        generalize w7.drew = w8 at *
        obtain ⟨c0, c1, c2, c3, c4⟩ := cell5 hr8
        have fr := row_free hr8
        have hs9 := Lib.hid (heap_set hr8 (i := 1) (.int .i64 ((pos : Int) + (k : Int))))
        have Hc9 := Lib.hid (Hc8.out.setCell (p := ⟨rb, 1, none⟩) (.inl rfl) (.int .i64 ((pos : Int) + (k : Int))))
        clear hr8
        go_wp2_with fail
        go_end0
        have e1 : ((src.length - dw.length : Nat) : Int) = (pos : Int) + (k : Int) := by
          have := congrArg List.length Htl.out
          rw [List.length_append, ← Hk.out] at this
          omega
        refine ⟨Hc9.out, ?_⟩
        rw [Htok.out]
        refine ⟨rfl, ⟨?_, (List.suffix_append tw dw).trans (by rw [Htl.out]; exact Hsuf.out), hll, by show tw.length ≤ _; rw [← Hk.out]; omega⟩⟩
        unfold rdV
        simp only
        rw [e1, ← Hpos.out]
        exact hs9.out
      · skip
        have hs7 := heap_set (heap_set hr6 (i := 2) (.int .i64 1)) (i := 3) (.string (tx tw))
        have hc7 := ((Chg.refl (fun k => k = rb) w6).setCell (p := ⟨rb, 2, none⟩) (.inl rfl) (.int .i64 1)).setCell (p := ⟨rb, 3, none⟩) (.inl rfl) (.string (tx tw))
        have Hc7 := Lib.hid ((Hc5.out.trans (hc6.mono fun _ _ h => h.elim)).trans hc7)
        have hztw : (tx tw).size = k := by rw [tx_size, Hk.out]
        clear hc7 hc6 hc6' hr6 d0 d1 d2 d3 d4 fr6 hcd c0 c1 c2 c3 c4 fr
        generalize (w6.setCell ⟨rb, 2, none⟩ (.int .i64 1)).setCell ⟨rb, 3, none⟩ (.string (tx tw)) = w7 at *
        replace hs7 : w7.heap[rb]? = some (.cells (rdV src pos 1 pos tw) 59 (0, 0)) := hs7
        obtain ⟨c0, c1, c2, c3, c4⟩ := cell5 hs7
        go_wp2_with fail
        go_still_tail 11, (by kernel_rfl)
        change wpList _ _ _ _ _ w7.drew
        have hr8 := row_kept ((Chg.refl NoB w7).drew) hs7 id
        have Hc8 := Lib.hid (Hc7.out.trans (Chg.refl (fun k => k = rb) w7).drew)
        clear hs7 c0 c1 c2 c3 c4
        generalize w7.drew = w8 at *
        obtain ⟨c0, c1, c2, c3, c4⟩ := cell5 hr8
        have fr := row_free hr8
        have hs9 := Lib.hid (heap_set hr8 (i := 1) (.int .i64 ((pos : Int) + (k : Int))))
        have Hc9 := Lib.hid (Hc8.out.setCell (p := ⟨rb, 1, none⟩) (.inl rfl) (.int .i64 ((pos : Int) + (k : Int))))
        clear hr8
        go_wp2_with fail
        go_end0
        have e1 : ((src.length - dw.length : Nat) : Int) = (pos : Int) + (k : Int) := by
          have := congrArg List.length Htl.out
          rw [List.length_append, ← Hk.out] at this
          omega
        refine ⟨Hc9.out, ?_⟩
        rw [Htok.out]
        refine ⟨rfl, ⟨?_, (List.suffix_append tw dw).trans (by rw [Htl.out]; exact Hsuf.out), hll, by show tw.length ≤ _; rw [← Hk.out]; omega⟩⟩
        unfold rdV
        simp only
        rw [e1, ← Hpos.out]
        exact hs9.out
    · have hwf : wordC c = false := by simpa using hw
      have hk0 : (l.takeWhile wordC).length = 0 := by
        rcases Nat.eq_zero_or_pos (l.takeWhile wordC).length with h | h
        · exact h
        · exact absurd (Hpos0.out.1 h) hw
      rw [hk0] at HW
      have hw32 : wrap32 (c.toNat : Int) = (c.toNat : Int) := by have := c.toNat_lt; unfold wrap32; omega
      clear HT1 Hpos0 hk0 hk2 Hcw Htl hw
      go_wp2_with fail
      refine (HW.out _).mono ?_
      rintro e w5 ⟨rfl, hc5⟩
      have Hr5 := Lib.hid (row_kept hc5 Hr4.out id)
      have Hc5 := Lib.hid (Hc4.out.trans (hc5.mono fun _ _ h => h.elim))
      clear hc5
      go_wp2_with fail
      refine (HR.out _).mono ?_
      rintro e w6 ⟨rfl, hc6⟩
      have Hr6 := Lib.hid (row_kept hc6 Hr5.out id)
      have Hc6 := Lib.hid (Hc5.out.trans (hc6.mono fun _ _ h => h.elim))
      clear hc6 Hr5 Hc5 HR HW
      cases hs : signC c with
      | true =>
        have Htok := Lib.hid (HT2.out hs)
        obtain ⟨d0, d1, d2, d3, d4⟩ := cell5 Hr6.out
        have fr6 := row_free Hr6.out
        have hcc := Hc1.out
        clear HT2 HT3 HQ Hq2 hs
        go_upto_region 13 with fail
        go_region_with (fail)
        · skip
          have hs7 := heap_set (heap_set Hr6.out (i := 2) (.int .i64 2)) (i := 3) (.string (tx [c]))
          have hc7 := ((Chg.refl (fun k => k = rb) w6).setCell (p := ⟨rb, 2, none⟩) (.inl rfl) (.int .i64 2)).setCell (p := ⟨rb, 3, none⟩) (.inl rfl) (.string (tx [c]))
          have Hc7 := Lib.hid ((Hc6.out.trans hc7).drew)
          have hs8 := row_kept (Chg.refl NoB ((w6.setCell ⟨rb, 2, none⟩ (.int .i64 2)).setCell ⟨rb, 3, none⟩ (.string (tx [c])))).drew hs7 id
          clear hc7 hs7 d0 d1 d2 d3 d4 fr6
          generalize ((w6.setCell ⟨rb, 2, none⟩ (.int .i64 2)).setCell ⟨rb, 3, none⟩ (.string (tx [c]))).drew = w7 at *
          replace hs8 : w7.heap[rb]? = some (.cells (rdV src pos 2 pos [c]) 59 (0, 0)) := hs8
          obtain ⟨c0, c1, c2, c3, c4⟩ := cell5 hs8
          have fr := row_free hs8
          have hs9 := Lib.hid (heap_set hs8 (i := 1) (.int .i64 ((pos : Int) + 1)))
          have Hc9 := Lib.hid (Hc7.out.setCell (p := ⟨rb, 1, none⟩) (.inl rfl) (.int .i64 ((pos : Int) + 1)))
          clear hs8
          go_wp2_with fail
          go_end0
          have e1 : ((src.length - r.length : Nat) : Int) = (pos : Int) + 1 := by omega
          refine ⟨Hc9.out, ?_⟩
          rw [Htok.out]
          refine ⟨rfl, ⟨?_, Hsr.out.trans Hsuf.out, hll, by show 1 ≤ _; omega⟩⟩
          unfold rdV
          simp only
          rw [e1, ← Hpos.out]
          exact hs9.out
        · skip
          have hs7 := heap_set (heap_set Hr6.out (i := 2) (.int .i64 2)) (i := 3) (.string (tx [c]))
          have hc7 := ((Chg.refl (fun k => k = rb) w6).setCell (p := ⟨rb, 2, none⟩) (.inl rfl) (.int .i64 2)).setCell (p := ⟨rb, 3, none⟩) (.inl rfl) (.string (tx [c]))
          have Hc7 := Lib.hid ((Hc6.out.trans hc7).drew)
          have hs8 := row_kept (Chg.refl NoB ((w6.setCell ⟨rb, 2, none⟩ (.int .i64 2)).setCell ⟨rb, 3, none⟩ (.string (tx [c])))).drew hs7 id
          clear hc7 hs7 d0 d1 d2 d3 d4 fr6
          generalize ((w6.setCell ⟨rb, 2, none⟩ (.int .i64 2)).setCell ⟨rb, 3, none⟩ (.string (tx [c]))).drew = w7 at *
          replace hs8 : w7.heap[rb]? = some (.cells (rdV src pos 2 pos [c]) 59 (0, 0)) := hs8
          obtain ⟨c0, c1, c2, c3, c4⟩ := cell5 hs8
          have fr := row_free hs8
          have hs9 := Lib.hid (heap_set hs8 (i := 1) (.int .i64 ((pos : Int) + 1)))
          have Hc9 := Lib.hid (Hc7.out.setCell (p := ⟨rb, 1, none⟩) (.inl rfl) (.int .i64 ((pos : Int) + 1)))
          clear hs8
          go_wp2_with fail
          go_end0
          have e1 : ((src.length - r.length : Nat) : Int) = (pos : Int) + 1 := by omega
          refine ⟨Hc9.out, ?_⟩
          rw [Htok.out]
          refine ⟨rfl, ⟨?_, Hsr.out.trans Hsuf.out, hll, by show 1 ≤ _; omega⟩⟩
          unfold rdV
          simp only
          rw [e1, ← Hpos.out]
          exact hs9.out
      | false => 
        have Htok := Lib.hid (HT3.out hwf hs)
        clear HT2 HT3 hs hwf
        cases hq : quoCut l with
        | none =>
          rw [hq] at HQ Htok
          clear hq Hq2
          go_wp2_with fail
          refine (HQ.out _).mono ?_
          rintro e w7 ⟨he, hc7⟩
          obtain rfl : e = .returned (.tuple #[.string ⟨#[]⟩, .string ⟨#[]⟩, .bool false]) := he
          have Hr7 := Lib.hid (row_kept hc7 Hr6.out id)
          have Hc7 := Lib.hid (Hc6.out.trans (hc7.mono fun _ _ h => h.elim))
          have HF := Lib.hid (fail_at (cell5 Hr7.out).2.2.2.2 50)
          clear hc7 Hr6 Hc6 HQ Hr7
          go_wp2_with fail
          refine HF.out.mono ?_
          rintro e w8 ⟨rfl, rfl⟩
          unfold quitF
          go_wp2_with fail
          refine ⟨rfl, Hc7.out, ?_⟩
          rw [Htok.out]
          show _ = quitF _ _
          rw [← Hpos.out]
          rfl
        | some x =>
          obtain ⟨tt, b⟩ := x
          rw [hq] at HQ Htok
          obtain ⟨hbs, htt⟩ := Hq2.out tt b hq
          have hbl := hbs.length_le
          have Hbs := Lib.hid (hbs.trans Hsuf.out)
          have hzb : (tx b).size = b.length := tx_size b
          clear hq hbs Hq2
          go_wp2_with fail
          refine (HQ.out _).mono ?_
          rintro e w7 ⟨he, hc7⟩
          obtain rfl : e = .returned (.tuple #[.string (tx tt), .string (tx b), .bool true]) := he
          have Hr7 := Lib.hid (row_kept hc7 Hr6.out id)
          have Hc7 := Lib.hid (Hc6.out.trans (hc7.mono fun _ _ h => h.elim))
          clear hc7 Hr6 Hc6 HQ
          obtain ⟨c0, c1, c2, c3, c4⟩ := cell5 Hr7.out
          have fr := row_free Hr7.out
          have hs8 := Lib.hid (heap_set (heap_set (heap_set Hr7.out (i := 2) (.int .i64 3)) (i := 3) (.string (tx tt))) (i := 1) (.int .i64 ((src.length : Int) - (b.length : Int))))
          have Hc8 := Lib.hid (((Hc7.out.setCell (p := ⟨rb, 2, none⟩) (.inl rfl) (.int .i64 3)).setCell (p := ⟨rb, 3, none⟩) (.inl rfl) (.string (tx tt))).setCell (p := ⟨rb, 1, none⟩) (.inl rfl) (.int .i64 ((src.length : Int) - (b.length : Int))))
          clear Hr7
          go_wp2_with fail
          go_end0
          have e1 : ((src.length - b.length : Nat) : Int) = (src.length : Int) - (b.length : Int) := by omega
          refine ⟨Hc8.out, ?_⟩
          rw [Htok.out]
          refine ⟨rfl, ⟨?_, Hbs.out, hll, by show tt.length ≤ _; omega⟩⟩
          unfold rdV
          simp only
          rw [e1, ← Hpos.out]
          exact hs8.out
end Go.Proofs.YtdgcpgbknfojhaaDoor
