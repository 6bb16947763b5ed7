/- The contract of the document's Next (under way). Condition: the text is not too long. -/
import Derived.Test.YtdgcpgbknfojhaaDoorRcRText

namespace Go.Proofs.YtdgcpgbknfojhaaDoor
set_option linter.unusedVariables false
open Go.ChangeShapes Go.WideShapes Go.ChangeAt Go.RowKit
def RNextP (L : Nat) (o : Except FaultL RdL) (w : World) (e : Ending) (w' : World) : Prop := Chg NoB w w' ∧ match o with
  | .ok st => e = .returned (.tuple #[tokV st.kind st.s (L - st.rem) (L - st.rest.length), .bool true])
  | .error x => ∃ k t b, t.length ≤ L ∧ e = .returned (.tuple #[tokV k t (L - x.1) b, .bool false])
theorem skip_go {s : List UInt8} {i : Nat} {n : Bool} (hi : i < s.length) (h : n = true ∨ s[i].toNat = 32 ∨ s[i].toNat = 10 ∨ s[i].toNat = 9 ∨ s[i].toNat = 35) : skipF n (s.drop i) = skipF (decide (s[i].toNat = 35) || (n && decide (s[i].toNat ≠ 10))) (s.drop (i + 1)) := by
  rw [List.drop_eq_getElem_cons hi, skipF, if_pos h]
theorem skip_at {s : List UInt8} {i : Nat} (hi : i < s.length) (h : ¬ (s[i].toNat = 32 ∨ s[i].toNat = 10 ∨ s[i].toNat = 9 ∨ s[i].toNat = 35)) : skipF false (s.drop i) = s.drop i := by
  rw [List.drop_eq_getElem_cons hi, skipF, if_neg (by rintro (e | e); cases e; exact h e)]
theorem takeW_at {s : List UInt8} {i k : Nat} (hik : i ≤ k) (hk : k ≤ s.length) (hall : ∀ j (hj : j < s.length), i ≤ j → j < k → wordC s[j] = true) (hend : ∀ (h : k < s.length), wordC s[k] = false) : (s.drop i).takeWhile wordC = (s.take k).drop i ∧ (s.drop i).dropWhile wordC = s.drop k := by
  have e : s.drop i = (s.take k).drop i ++ s.drop k := by
    conv => lhs; rw [← List.take_append_drop k s]
    rw [List.drop_append_of_le_length (by rw [List.length_take]; omega)]
  have h1 : ∀ a ∈ (s.take k).drop i, wordC a = true := by
    intro a ha
    obtain ⟨j, hj, rfl⟩ := List.getElem_of_mem ha
    rw [List.length_drop, List.length_take] at hj
    rw [List.getElem_drop, List.getElem_take]
    exact hall _ _ (by omega) (by omega)
  have h2 : (s.drop k).takeWhile wordC = [] ∧ (s.drop k).dropWhile wordC = s.drop k := by
    by_cases h : k < s.length
    · rw [List.drop_eq_getElem_cons h, List.takeWhile_cons, List.dropWhile_cons, hend h]
      exact ⟨rfl, rfl⟩
    · rw [List.drop_of_length_le (by omega)]
      exact ⟨rfl, rfl⟩
  rw [e, List.takeWhile_append_of_pos h1, List.dropWhile_append_of_pos h1, h2.1, h2.2, List.append_nil]
  exact ⟨rfl, rfl⟩
set_option maxHeartbeats 8000000 in
set_option maxRecDepth 20000 in
theorem rnext_any (s : List UInt8) (p : Nat) (w : World) (hp : p ≤ s.length) (hs : s.length ≤ 8192) : Calls Tryd.prog 20 #[.string (tx s), .int .i64 (p : Int)] w (RNextP s.length (takeF (s.drop p)) w) := by
  have hz : (tx s).size = s.length := tx_size s
  obtain ⟨L, hL⟩ : ∃ L, L = s.length := ⟨_, rfl⟩
  rw [← hL]
  have HLn := Lib.hid hL
  rw [← hL] at hz hp hs
  clear hL
  have Htk := Lib.hid (show takeF (s.drop p) = tokF (skipF false (s.drop p)) from rfl)
  rw [Htk.out]
  generalize hl : skipF false (s.drop p) = l at *
  have Hl := Lib.hid hl
  clear Htk hl
  have hal_ := (Chg.refl NoB w).alloc (.cells #[.int .i64 0, .string ⟨#[]⟩, .int .i64 0, .int .i64 0] 42)
  have hb_ := heap_alloc_new w (.cells #[.int .i64 0, .string ⟨#[]⟩, .int .i64 0, .int .i64 0] 42)
  obtain ⟨b4, hxb_⟩ : ∃ b, b = w.heap.size := ⟨_, rfl⟩
  obtain ⟨w1, hw_⟩ : ∃ w_, w.alloc (.cells #[.int .i64 0, .string ⟨#[]⟩, .int .i64 0, .int .i64 0] 42) = w_ := ⟨_, rfl⟩
  have hz_ : w1.heap.size = b4 + 1 := by rw [← hw_, hxb_]; exact alloc_size _ _
  rw [hw_] at hal_ hb_
  rw [← hxb_] at hb_
  have Hw4 := Lib.hid hw_
  have Hx4 := Lib.hid hxb_
  have Ha4 := Lib.hid hal_
  have Hb4 := Lib.hid hb_
  have Hz4 := Lib.hid hz_
  clear hal_ hb_ hxb_ hw_ hz_
  go_enter Tryd.func20, Tryd.ntmps20
  go_upto_region 1 with fail
  rw [Hw4.out, ← Hx4.out]
  go_wp2_with fail
  go_loopw [1, 6] (fun iv nv wr => ∃ (i : Nat) (n : Bool), iv = .int .i64 (i : Nat) ∧ i ≤ L ∧ nv = .bool n ∧ skipF n (s.drop i) = l ∧ wr.heap[b4]? = some (.cells #[.int .i64 0, .string ⟨#[]⟩, .int .i64 0, .int .i64 0] 42 (0, 0)) ∧ w1 = wr) (fun iv _ _ => L - (intOf iv).toNat)
  case atStart => exact ⟨p, false, rfl, hp, rfl, Hl.out, Hb4.out, rfl⟩
  case round =>
    obtain ⟨i, n, rfl, hil, rfl, hsk, hb4, rfl⟩ := hrel
    have Hsk := Lib.hid hsk
    have Hb4r := Lib.hid hb4
    clear hsk hb4
    by_cases hlt : i < L
    · have hls : i < s.length := by rw [← HLn.out]; exact hlt
      have hkk : i < (tx s).size := by omega
      obtain ⟨b, hb⟩ : ∃ b, (tx s)[i] = b := ⟨_, rfl⟩
      have hmi : s[i] = b := hb
      have Hgo := Lib.hid (show (n = true ∨ b.toNat = 32 ∨ b.toNat = 10 ∨ b.toNat = 9 ∨ b.toNat = 35) → skipF n (s.drop i) = skipF (decide (b.toNat = 35) || (n && decide (b.toNat ≠ 10))) (s.drop (i + 1)) from by
        subst hmi; exact fun h => skip_go hls h)
      have Hat := Lib.hid (show ¬ (b.toNat = 32 ∨ b.toNat = 10 ∨ b.toNat = 9 ∨ b.toNat = 35) → skipF false (s.drop i) = s.drop i from by
        subst hmi; exact fun h => skip_at hls h)
      clear hmi
      have w32 : b.toNat = 32 ∨ b.toNat ≠ 32 := Classical.em _
      by_cases h35 : b.toNat = 35
      · have g35 : ((b.toNat : Int) == 35) = true := by simp [h35]
        have g32 : ((b.toNat : Int) == 32) = false := by simp [h35]
        have g10 : ((b.toNat : Int) == 10) = false := by simp [h35]
        have g9 : ((b.toNat : Int) == 9) = false := by simp [h35]
        have Hn2 := Lib.hid (show skipF true (s.drop (i + 1)) = l by
          rw [← Hsk.out, Hgo.out (.inr (.inr (.inr (.inr h35)))), decide_eq_true h35]; rfl)
        clear h35 w32
        cases n with
        | true =>
          go_wp2_with fail
          go_roundw
          case rel => exact ⟨i + 1, true, by go_num, by omega, rfl, Hn2.out, Hb4r.out, by simp⟩
          case measure => simp [intOf]; omega
        | false =>
          go_wp2_with fail
          go_roundw
          case rel => exact ⟨i + 1, true, by go_num, by omega, rfl, Hn2.out, Hb4r.out, by simp⟩
          case measure => simp [intOf]; omega
      · have g35 : ((b.toNat : Int) == 35) = false := by rw [beq_eq_false_iff_ne]; omega
        cases n with
        | true =>
          by_cases h10 : b.toNat = 10
          · have g10 : ((b.toNat : Int) != 10) = false := by simp [h10]
            have Hn2 := Lib.hid (show skipF false (s.drop (i + 1)) = l by
              rw [← Hsk.out, Hgo.out (.inl rfl), decide_eq_false h35, h10]; rfl)
            clear h35 w32 h10
            go_wp2_with fail
            go_roundw
            case rel => exact ⟨i + 1, false, by go_num, by omega, rfl, Hn2.out, Hb4r.out, by simp⟩
            case measure => simp [intOf]; omega
          · have g10 : ((b.toNat : Int) != 10) = true := by rw [bne_iff_ne]; omega
            have Hn2 := Lib.hid (show skipF true (s.drop (i + 1)) = l by
              rw [← Hsk.out, Hgo.out (.inl rfl), decide_eq_false h35, decide_eq_true h10]; rfl)
            clear h35 w32 h10
            go_wp2_with fail
            go_roundw
            case rel => exact ⟨i + 1, true, by go_num, by omega, rfl, Hn2.out, Hb4r.out, by simp⟩
            case measure => simp [intOf]; omega
        | false =>
          by_cases hbl : b.toNat = 32 ∨ b.toNat = 10 ∨ b.toNat = 9
          · have Hn2 := Lib.hid (show skipF false (s.drop (i + 1)) = l by
              rw [← Hsk.out, Hgo.out (.inr (by omega)), decide_eq_false h35]; rfl)
            by_cases h32 : b.toNat = 32
            · have g32 : ((b.toNat : Int) == 32) = true := by simp [h32]
              clear h35 w32 h32 hbl
              go_wp2_with fail
              go_roundw
              case rel => exact ⟨i + 1, false, by go_num, by omega, rfl, Hn2.out, Hb4r.out, by simp⟩
              case measure => simp [intOf]; omega
            · have g32 : ((b.toNat : Int) == 32) = false := by rw [beq_eq_false_iff_ne]; omega
              by_cases h10 : b.toNat = 10
              · have g10 : ((b.toNat : Int) == 10) = true := by simp [h10]
                clear h35 w32 h32 hbl h10
                go_wp2_with fail
                go_roundw
                case rel => exact ⟨i + 1, false, by go_num, by omega, rfl, Hn2.out, Hb4r.out, by simp⟩
                case measure => simp [intOf]; omega
              · have g10 : ((b.toNat : Int) == 10) = false := by rw [beq_eq_false_iff_ne]; omega
                have g9 : ((b.toNat : Int) == 9) = true := by rw [beq_iff_eq]; omega
                clear h35 w32 h32 hbl h10
                go_wp2_with fail
                go_roundw
                case rel => exact ⟨i + 1, false, by go_num, by omega, rfl, Hn2.out, Hb4r.out, by simp⟩
                case measure => simp [intOf]; omega
          · have g32 : ((b.toNat : Int) == 32) = false := by rw [beq_eq_false_iff_ne]; omega
            have g10 : ((b.toNat : Int) == 10) = false := by rw [beq_eq_false_iff_ne]; omega
            have g9 : ((b.toNat : Int) == 9) = false := by rw [beq_eq_false_iff_ne]; omega
            have Hl2 := Lib.hid (show l = s.drop i from by rw [← Hsk.out]; exact Hat.out (by omega))
            have hie : ((i : Int) == (L : Int)) = false := by rw [beq_eq_false_iff_ne]; omega
            have Hlc := Lib.hid (show l = b :: s.drop (i + 1) from by rw [Hl2.out, List.drop_eq_getElem_cons hls]; rw [show s[i] = b from hb])
            have hle : ¬ (L : Int) ≤ (i : Int) := by omega
            clear h35 w32 hbl Hgo Hat
            by_cases h34 : b.toNat = 34
            · have g34 : ((b.toNat : Int) == 34) = true := by rw [beq_iff_eq]; omega
              have HT := Lib.hid (fun w => rtext_any s i w hls (by rw [← HLn.out]; exact hs))
              have Htok := Lib.hid (show tokF l = match cutR (s.drop (i + 1)) with | none => .error (l.length, 50) | some (t, b) => .ok ⟨3, t, l.length, b⟩ from by
                rw [Hlc.out, tokF, if_pos h34, quoCut_cons, if_neg (by simp [h34])]
                cases cutR (s.drop (i + 1)) <;> rfl)
              clear h34
              cases hD : cutR (s.drop (i + 1)) with
              | none =>
                rw [hD] at HT Htok
                clear hD
                go_wp2_with fail
                refine (HT.out _).mono ?_
                rintro e w2 ⟨hc2, he⟩
                obtain rfl : e = .returned (.tuple #[.agg #[.int .i64 0, .string ⟨#[]⟩, .int .i64 (i : Nat), .int .i64 0], .bool false]) := he
                have Hb5 := Lib.hid (row_kept hc2 Hb4r.out id)
                have HS := set4 Hb5.out
                obtain ⟨v0, v1, v2, v3⟩ := var4 Hb5.out
                have fr := row_free Hb5.out
                have Hc2 := Lib.hid (Ha4.out.trans hc2)
                clear hc2
                go_wp2_with fail
                refine bodyPost_ret (results_4T rfl _ rfl (run_loadVar_row _ _ _ _ _ _ _ (HS _ _ _ _).1 (Tryd.underlying42) rfl rfl)) rfl ⟨Hc2.out.above (HS _ _ _ _).2 fun k e => by have := Hx4.out; omega, ?_⟩
                rw [Htok.out]
                show ∃ k t b, t.length ≤ _ ∧ _ = Ending.returned (.tuple #[tokV k t (L - l.length) b, .bool false])
                rw [Hl2.out, List.length_drop, ← HLn.out, show L - (L - i) = i by omega]
                exact ⟨0, [], 0, Nat.zero_le _, rfl⟩
              | some x =>
                obtain ⟨t, b'⟩ := x
                rw [hD] at HT Htok
                clear hD
                go_wp2_with fail
                refine (HT.out _).mono ?_
                rintro e w2 ⟨hc2, he⟩
                obtain rfl : e = .returned (.tuple #[.agg #[.int .i64 3, .string (tx t), .int .i64 (i : Nat), .int .i64 ((s.length - b'.length : Nat) : Int)], .bool true]) := he
                have Hb5 := Lib.hid (row_kept hc2 Hb4r.out id)
                have HS := set4 Hb5.out
                obtain ⟨v0, v1, v2, v3⟩ := var4 Hb5.out
                have fr := row_free Hb5.out
                have Hc2 := Lib.hid (Ha4.out.trans hc2)
                clear hc2
                go_wp2_with fail
                refine bodyPost_ret (results_4T rfl _ rfl (run_loadVar_row _ _ _ _ _ _ _ (HS _ _ _ _).1 (Tryd.underlying42) rfl rfl)) rfl ⟨Hc2.out.above (HS _ _ _ _).2 fun k e => by have := Hx4.out; omega, ?_⟩
                rw [Htok.out]
                show _ = Ending.returned (.tuple #[tokV 3 t (L - l.length) (L - b'.length), .bool true])
                rw [Hl2.out, List.length_drop, ← HLn.out, show L - (L - i) = i by omega]
                rfl
            · by_cases hsg : signC b = true
              · have Htok := Lib.hid (show tokF l = .ok ⟨2, [b], l.length, s.drop (i + 1)⟩ from by rw [Hlc.out]; exact tok_sign hsg)
                have hcut : (tx s).extract i (i + 1) = tx [b] := by
                  rw [cut_ab, List.drop_take, show i + 1 - i = 1 by omega, List.drop_eq_getElem_cons hls, show s[i] = b from hb]
                  rfl
                unfold signC at hsg
                by_cases h40 : b.toNat = 40
                · have g40 : ((b.toNat : Int) == 40) = true := by rw [beq_iff_eq]; omega
                  clear hsg h40
                  have g34 : ((b.toNat : Int) == 34) = false := by rw [beq_eq_false_iff_ne]; omega
                  have s0 : (i : Int) ≤ (i : Int) + 1 := by omega
                  have s1 : (i : Int) + 1 ≤ (L : Int) := by omega
                  have s2 : (0 : Int) ≤ (i : Int) + 1 := by omega
                  have s3 : ((i : Int) + 1).toNat = i + 1 := by omega
                  clear h34
                  obtain ⟨v0, v1, v2, v3⟩ := var4 Hb4r.out
                  have HS := set4 Hb4r.out
                  have fr := row_free Hb4r.out
                  go_wp2_with fail
                  refine bodyPost_ret (results_4T rfl _ rfl (run_loadVar_row _ _ _ _ _ _ _ (HS _ _ _ _).1 (Tryd.underlying42) rfl rfl)) rfl ⟨Ha4.out.above (HS _ _ _ _).2 fun k e => by have := Hx4.out; omega, ?_⟩
                  rw [Htok.out]
                  show _ = Ending.returned (.tuple #[tokV 2 [b] (L - l.length) (L - (s.drop (i + 1)).length), .bool true])
                  rw [Hl2.out, List.length_drop, List.length_drop, ← HLn.out, show L - (L - i) = i by omega, show L - (L - (i + 1)) = i + 1 by omega]
                  rfl
                · have g40 : ((b.toNat : Int) == 40) = false := by rw [beq_eq_false_iff_ne]; omega
                  by_cases h41 : b.toNat = 41
                  · have g41 : ((b.toNat : Int) == 41) = true := by rw [beq_iff_eq]; omega
                    clear hsg h40 h41
                    have g34 : ((b.toNat : Int) == 34) = false := by rw [beq_eq_false_iff_ne]; omega
                    have s0 : (i : Int) ≤ (i : Int) + 1 := by omega
                    have s1 : (i : Int) + 1 ≤ (L : Int) := by omega
                    have s2 : (0 : Int) ≤ (i : Int) + 1 := by omega
                    have s3 : ((i : Int) + 1).toNat = i + 1 := by omega
                    clear h34
                    obtain ⟨v0, v1, v2, v3⟩ := var4 Hb4r.out
                    have HS := set4 Hb4r.out
                    have fr := row_free Hb4r.out
                    go_wp2_with fail
                    refine bodyPost_ret (results_4T rfl _ rfl (run_loadVar_row _ _ _ _ _ _ _ (HS _ _ _ _).1 (Tryd.underlying42) rfl rfl)) rfl ⟨Ha4.out.above (HS _ _ _ _).2 fun k e => by have := Hx4.out; omega, ?_⟩
                    rw [Htok.out]
                    show _ = Ending.returned (.tuple #[tokV 2 [b] (L - l.length) (L - (s.drop (i + 1)).length), .bool true])
                    rw [Hl2.out, List.length_drop, List.length_drop, ← HLn.out, show L - (L - i) = i by omega, show L - (L - (i + 1)) = i + 1 by omega]
                    rfl
                  · have g41 : ((b.toNat : Int) == 41) = false := by rw [beq_eq_false_iff_ne]; omega
                    by_cases h43 : b.toNat = 43
                    · have g43 : ((b.toNat : Int) == 43) = true := by rw [beq_iff_eq]; omega
                      clear hsg h40 h41 h43
                      have g34 : ((b.toNat : Int) == 34) = false := by rw [beq_eq_false_iff_ne]; omega
                      have s0 : (i : Int) ≤ (i : Int) + 1 := by omega
                      have s1 : (i : Int) + 1 ≤ (L : Int) := by omega
                      have s2 : (0 : Int) ≤ (i : Int) + 1 := by omega
                      have s3 : ((i : Int) + 1).toNat = i + 1 := by omega
                      clear h34
                      obtain ⟨v0, v1, v2, v3⟩ := var4 Hb4r.out
                      have HS := set4 Hb4r.out
                      have fr := row_free Hb4r.out
                      go_wp2_with fail
                      refine bodyPost_ret (results_4T rfl _ rfl (run_loadVar_row _ _ _ _ _ _ _ (HS _ _ _ _).1 (Tryd.underlying42) rfl rfl)) rfl ⟨Ha4.out.above (HS _ _ _ _).2 fun k e => by have := Hx4.out; omega, ?_⟩
                      rw [Htok.out]
                      show _ = Ending.returned (.tuple #[tokV 2 [b] (L - l.length) (L - (s.drop (i + 1)).length), .bool true])
                      rw [Hl2.out, List.length_drop, List.length_drop, ← HLn.out, show L - (L - i) = i by omega, show L - (L - (i + 1)) = i + 1 by omega]
                      rfl
                    · have g43 : ((b.toNat : Int) == 43) = false := by rw [beq_eq_false_iff_ne]; omega
                      have g61 : ((b.toNat : Int) == 61) = true := by
                        simp only [Bool.or_eq_true, decide_eq_true_eq] at hsg
                        rw [beq_iff_eq]; omega
                      clear hsg h40 h41 h43
                      have g34 : ((b.toNat : Int) == 34) = false := by rw [beq_eq_false_iff_ne]; omega
                      have s0 : (i : Int) ≤ (i : Int) + 1 := by omega
                      have s1 : (i : Int) + 1 ≤ (L : Int) := by omega
                      have s2 : (0 : Int) ≤ (i : Int) + 1 := by omega
                      have s3 : ((i : Int) + 1).toNat = i + 1 := by omega
                      clear h34
                      obtain ⟨v0, v1, v2, v3⟩ := var4 Hb4r.out
                      have HS := set4 Hb4r.out
                      have fr := row_free Hb4r.out
                      go_wp2_with fail
                      refine bodyPost_ret (results_4T rfl _ rfl (run_loadVar_row _ _ _ _ _ _ _ (HS _ _ _ _).1 (Tryd.underlying42) rfl rfl)) rfl ⟨Ha4.out.above (HS _ _ _ _).2 fun k e => by have := Hx4.out; omega, ?_⟩
                      rw [Htok.out]
                      show _ = Ending.returned (.tuple #[tokV 2 [b] (L - l.length) (L - (s.drop (i + 1)).length), .bool true])
                      rw [Hl2.out, List.length_drop, List.length_drop, ← HLn.out, show L - (L - i) = i by omega, show L - (L - (i + 1)) = i + 1 by omega]
                      rfl
              · have g34 : ((b.toNat : Int) == 34) = false := by rw [beq_eq_false_iff_ne]; omega
                have hsf : signC b = false := by simpa using hsg
                have Hwd := Lib.hid (tok_word (c := b) (r := s.drop (i + 1)))
                have Hel := Lib.hid (tok_else (c := b) (r := s.drop (i + 1)))
                have hsg2 := hsf
                unfold signC at hsg2
                simp only [Bool.or_eq_false_iff, decide_eq_false_iff_not] at hsg2
                have g40 : ((b.toNat : Int) == 40) = false := by rw [beq_eq_false_iff_ne]; omega
                have g41 : ((b.toNat : Int) == 41) = false := by rw [beq_eq_false_iff_ne]; omega
                have g43 : ((b.toNat : Int) == 43) = false := by rw [beq_eq_false_iff_ne]; omega
                have g61 : ((b.toNat : Int) == 61) = false := by rw [beq_eq_false_iff_ne]; omega
                have Hsf := Lib.hid hsf
                have H34 := Lib.hid h34
                have HR := Lib.hid rletter_any
                clear hsg hsg2 hsf h34
                go_wp2_with fail
                go_loopw [8] (fun kv wr => ∃ k : Nat, kv = .int .i64 (k : Nat) ∧ i ≤ k ∧ k ≤ L ∧ (∀ j (hj : j < s.length), i ≤ j → j < k → wordC s[j] = true) ∧ w1 = wr) (fun kv _ => L - (intOf kv).toNat)
                case atStart => exact ⟨i, rfl, Nat.le_refl _, by omega, fun j _ h1 h2 => absurd h2 (by omega), rfl⟩
                case round =>
                  obtain ⟨k, rfl, hik, hkl, hall, rfl⟩ := hrel
                  have Hall := Lib.hid hall
                  clear hall
                  have s0 : (i : Int) ≤ (k : Int) := by omega
                  have s1 : (k : Int) ≤ (L : Int) := by omega
                  by_cases hlt : k < L
                  · have hks : k < s.length := by rw [← HLn.out]; exact hlt
                    have hkt : k < (tx s).size := by omega
                    obtain ⟨c, hc⟩ : ∃ c, (tx s)[k] = c := ⟨_, rfl⟩
                    have Hcs := Lib.hid (show s[k] = c from hc)
                    have HRc := Lib.hid (HR.out c w1)
                    cases hw : wordC c with
                    | true =>
                      have Hnx := Lib.hid (show ∀ j (hj : j < s.length), i ≤ j → j < k + 1 → wordC s[j] = true from fun j hj h1 h2 => by
                        by_cases e : j = k
                        · subst e; exact (congrArg wordC Hcs.out).trans hw
                        · exact Hall.out j hj h1 (by omega))
                      rw [hw] at HRc
                      clear hw
                      go_wp2_with fail
                      refine HRc.out.mono ?_
                      rintro e w2 ⟨rfl, rfl⟩
                      go_wp2_with fail
                      go_roundw
                      case rel => exact ⟨k + 1, by go_num, by omega, by omega, Hnx.out, by simp⟩
                      case measure => simp [intOf]; omega
                    | false =>
                      have Hend := Lib.hid (show ∀ (h : k < s.length), wordC s[k] = false from fun h => (congrArg wordC Hcs.out).trans hw)
                      rw [hw] at HRc
                      clear hw
                      go_wp2_with fail
                      refine HRc.out.mono ?_
                      rintro e w2 ⟨rfl, rfl⟩
                      have Hcut := Lib.hid (show (tx s).extract i k = tx ((s.take k).drop i) from cut_ab s i k)
                      have hcut := Hcut.out
                      obtain ⟨v0, v1, v2, v3⟩ := var4 Hb4r.out
                      have HS := set4 Hb4r.out
                      have fr := row_free Hb4r.out
                      have Htw := Lib.hid (takeW_at hik (by rw [← HLn.out]; exact hkl) Hall.out Hend.out)
                      by_cases hki : i < k
                      · skip
                        have Htok := Lib.hid (show tokF l = .ok ⟨1, (s.take k).drop i, l.length, s.drop k⟩ from by
                          have hwb : wordC b = true := by rw [← show s[i] = b from hb]; exact Hall.out i hls (Nat.le_refl _) hki
                          have := Hwd.out hwb
                          rw [← Hlc.out, Hl2.out, Htw.out.1, Htw.out.2, ← Hl2.out] at this
                          exact this)
                        have hgt2 : decide (i < k) = true := decide_eq_true hki
                        have hgt : decide ((i : Int) < (k : Int)) = true := decide_eq_true (by omega)
                        go_wp2_with fail
                        refine bodyPost_ret (results_4T rfl _ rfl (run_loadVar_row _ _ _ _ _ _ _ (HS _ _ _ _).1 (Tryd.underlying42) rfl rfl)) rfl ⟨Ha4.out.above (HS _ _ _ _).2 fun k e => by have := Hx4.out; omega, ?_⟩
                        rw [Htok.out]
                        show _ = Ending.returned (.tuple #[tokV 1 ((s.take k).drop i) (L - l.length) (L - (s.drop k).length), .bool true])
                        rw [Hl2.out, List.length_drop, List.length_drop, ← HLn.out, show L - (L - i) = i by omega, show L - (L - k) = k by omega]
                        rfl
                      · skip
                        have hki2 : k = i := by omega
                        have Htok := Lib.hid (show tokF l = .error (l.length, 50) from by
                          have hwb : wordC b = false := by rw [← show s[i] = b from hb]; have := Hend.out (by omega); simp only [hki2] at this; exact this
                          have := Hel.out hwb Hsf.out
                          rw [quoCut_cons, if_pos H34.out, ← Hlc.out] at this
                          exact this)
                        have hgt2 : decide (i < k) = false := decide_eq_false hki
                        have hgt : decide ((i : Int) < (k : Int)) = false := decide_eq_false (by omega)
                        clear hki2 hki s0
                        have s0 : (i : Int) ≤ (k : Int) := by omega
                        go_wp2_with fail
                        refine bodyPost_ret (results_4T rfl _ rfl (run_loadVar_row _ _ _ _ _ _ _ (HS _ _ _ _).1 (Tryd.underlying42) rfl rfl)) rfl ⟨Ha4.out.above (HS _ _ _ _).2 fun k e => by have := Hx4.out; omega, ?_⟩
                        rw [Htok.out]
                        show ∃ k t b, t.length ≤ _ ∧ _ = Ending.returned (.tuple #[tokV k t (L - l.length) b, .bool false])
                        rw [Hl2.out, List.length_drop, ← HLn.out, show L - (L - i) = i by omega]
                        exact ⟨1, (s.take k).drop i, k, by rw [List.length_drop, List.length_take]; omega, rfl⟩
                  · obtain rfl : k = L := by omega
                    have Hend := Lib.hid (show ∀ (h : k < s.length), wordC s[k] = false from fun h => absurd h (by rw [← HLn.out]; omega))
                    have Hcut := Lib.hid (show (tx s).extract i k = tx ((s.take k).drop i) from cut_ab s i k)
                    have hcut := Hcut.out
                    obtain ⟨v0, v1, v2, v3⟩ := var4 Hb4r.out
                    have HS := set4 Hb4r.out
                    have fr := row_free Hb4r.out
                    have Htw := Lib.hid (takeW_at hik (by rw [← HLn.out]; exact hkl) Hall.out Hend.out)
                    have hki : i < k := by omega
                    have Htok := Lib.hid (show tokF l = .ok ⟨1, (s.take k).drop i, l.length, s.drop k⟩ from by
                      have hwb : wordC b = true := by rw [← show s[i] = b from hb]; exact Hall.out i hls (Nat.le_refl _) hki
                      have := Hwd.out hwb
                      rw [← Hlc.out, Hl2.out, Htw.out.1, Htw.out.2, ← Hl2.out] at this
                      exact this)
                    have hgt2 : decide (i < k) = true := decide_eq_true hki
                    have hgt : decide ((i : Int) < (k : Int)) = true := decide_eq_true (by omega)
                    go_wp2_with fail
                    refine bodyPost_ret (results_4T rfl _ rfl (run_loadVar_row _ _ _ _ _ _ _ (HS _ _ _ _).1 (Tryd.underlying42) rfl rfl)) rfl ⟨Ha4.out.above (HS _ _ _ _).2 fun k e => by have := Hx4.out; omega, ?_⟩
                    rw [Htok.out]
                    show _ = Ending.returned (.tuple #[tokV 1 ((s.take k).drop i) (k - l.length) (k - (s.drop k).length), .bool true])
                    rw [Hl2.out, List.length_drop, List.length_drop, ← HLn.out, show k - (k - i) = i by omega, show k - (k - k) = k by omega]
                    rfl
    · obtain rfl : i = L := by omega
      have Hl2 := Lib.hid (show tokF l = .ok ⟨0, [], 0, []⟩ from by
        rw [← Hsk.out, HLn.out, List.drop_length]
        cases n <;> rfl)
      have hie : ((i : Int) == (i : Int)) = true := by simp
      obtain ⟨v0, v1, v2, v3⟩ := var4 Hb4r.out
      have HS := set4 Hb4r.out
      have fr := row_free Hb4r.out
      go_wp2_with fail
      refine bodyPost_ret (results_4T rfl _ rfl (run_loadVar_row _ _ _ _ _ _ _ (HS _ _ _ _).1 (Tryd.underlying42) rfl rfl)) rfl ⟨Ha4.out.above (HS _ _ _ _).2 fun k e => by have := Hx4.out; omega, ?_⟩
      rw [Hl2.out]
      show _ = Ending.returned (.tuple #[tokV 0 [] (i - 0) (i - 0), .bool true])
      rfl
end Go.Proofs.YtdgcpgbknfojhaaDoor
