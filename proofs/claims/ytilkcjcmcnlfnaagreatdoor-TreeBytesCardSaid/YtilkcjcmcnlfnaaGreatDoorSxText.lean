/- The contract of the document's text. Condition: at most 2^16 bytes. -/
import Derived.Test.YtilkcjcmcnlfnaaGreatDoorSxTextMath
namespace Go.Proofs.YtilkcjcmcnlfnaaGreatDoor
set_option linter.unusedVariables false
open Go.ChangeShapes Go.WideShapes Go.ChangeAt Go.RowKit
theorem bget (S : ByteArray) (k : Nat) (h : k < S.size) : S.data.toList[k]'(by simpa using h) = S[k] := by
  rw [Array.getElem_toList]
  rfl
theorem take_more (s : ByteArray) (k : Nat) (h : k < s.size) : s.data.toList.take (k + 1) = s.data.toList.take k ++ [s[k]] := by
  rw [List.take_add_one, List.getElem?_eq_getElem (by simpa using h), bget s k h]
  rfl
theorem z48 {S : ByteArray} {h : 0 < S.size} (hz : ((S[0]).toNat : Int) = 48) : S.data.toList[0]'(by simpa using h) = 48 := by
  rw [bget S 0 h]
  exact UInt8.toNat_inj.1 (by rw [show (48 : UInt8).toNat = 48 from rfl]; omega)
/- what the document's reading answers, of so many bytes -/
def TextP (r : Except Int (Nd × List UInt8)) (L : Nat) (w : World) (e : Ending) (w' : World) : Prop := Chg NoB w w' ∧ match r with
  | .error y => e = .returned (.tuple #[nodeZ, .int .i64 0, .int .i64 y])
  | .ok (n, rest) => ∃ v, e = .returned (.tuple #[v, .int .i64 ((L - rest.length : Nat) : Int), .int .i64 0]) ∧ NdV w' (NewZ w w') v n ∧ rest.length ≤ L
set_option maxHeartbeats 8000000 in
set_option maxRecDepth 20000 in
theorem text_any (S : ByteArray) (hsz : S.size ≤ 65536) (w : World) :
    Calls Tryz.prog 109 #[.string S] w (TextP (atR S.data.toList) S.size w) := by
  have hsl : S.data.toList.length = S.size := by simp
  have Hsl := Lib.hid hsl
  have hal := (Chg.refl NoB w).alloc (.cells #[.bool false, .string ⟨#[]⟩, .slice none 0 0] 71)
  have hblk := heap_alloc_new w (.cells #[.bool false, .string ⟨#[]⟩, .slice none 0 0] 71)
  obtain ⟨vb, hvb⟩ : ∃ vb, vb = w.heap.size := ⟨_, rfl⟩
  rw [← hvb] at hblk
  have Hvb := Lib.hid hvb
  have Hal := Lib.hid hal
  have Hblk := Lib.hid hblk
  have hb0 : w.heap.size ≤ vb := by omega
  have Hb0 := Lib.hid hb0
  obtain ⟨d0, d1, d2⟩ := var3 hblk
  have df := row_free hblk
  clear hal hblk hvb hb0 hsl
  go_enter Tryz.func109, Tryz.ntmps109
  go_upto_region 1 with fail
  rw [← Hvb.out]
  generalize w.alloc (.cells #[.bool false, .string ⟨#[]⟩, .slice none 0 0] 71) = w1 at *
  go_wp2_with fail
  go_loop [5, 6] (fun n i => ∃ k : Nat, k ≤ S.size ∧ k ≤ 5 ∧ i = .int .i64 k ∧ n = .int .i64 (val (S.data.toList.take k) : Nat) ∧ AllD (S.data.toList.take k)) (fun _ i => S.size - (intOf i).toNat)
  case atStart => exact ⟨0, by omega, by omega, rfl, rfl, by intro b hb; simp at hb⟩
  case round =>
    obtain ⟨k, hk, hk5, rfl, rfl, hd⟩ := hrel
    have hvl := val_lt _ hd
    have hlk : (S.data.toList.take k).length = k := by rw [List.length_take, Hsl.out]; omega
    rw [hlk] at hvl
    have Hd := Lib.hid hd
    obtain ⟨v, hv⟩ : ∃ v, v = val (S.data.toList.take k) := ⟨_, rfl⟩
    have Hv := Lib.hid hv.symm
    rw [← hv] at hvl ⊢
    have hv5 : v < 100000 := Nat.lt_of_lt_of_le hvl (show 10 ^ k ≤ 10 ^ 5 from Nat.pow_le_pow_right (by omega) hk5)
    clear hd hvl hlk hv
    by_cases hlt : k < S.size
    · have hS0 : 0 < S.size := by omega
      have hkl : k < S.data.toList.length := by rw [Hsl.out]; exact hlt
      have hkI : (k : Int) < (S.size : Int) := by omega
      by_cases hk5' : (k : Int) < 5
      · by_cases hlo : (48 : Int) ≤ ((S[k]).toNat : Int)
        · by_cases hhi : ((S[k]).toNat : Int) ≤ 57
          · have hmore := Lib.hid (take_more S k hlt)
            have hw8 : IntKind.u8.wrap (((S[k]).toNat : Int) - 48) = ((S[k]).toNat : Int) - 48 := by rw [IntKind.wrap_u8]; omega
            go_wp2_with fail
            go_round
            case rel =>
              refine ⟨k + 1, by omega, by omega, by go_num, ?_, ?_⟩
              · rw [hmore.out, val_snoc, Hv.out]
                go_num
              · rw [hmore.out]
                intro b hb
                rcases List.mem_append.1 hb with hb | hb
                · exact Hd.out b hb
                · simp at hb; subst hb; exact ⟨by omega, by omega⟩
            case measure => simp [intOf]; omega
          · by_cases hk00 : k = 0
            · subst hk00
              have nd0 : ¬ DigB S.data.toList[0] := fun hd => by rw [bget S 0 hlt] at hd; have := hd.1; have := hd.2; omega
              have Hres := Lib.hid (show atR S.data.toList = .error 5 from bad_first (by rw [Hsl.out]; exact hS0) (nd0))
              go_wp2_with fail
              all_goals
                obtain ⟨e0, e1, e2⟩ := var3 (box3 Hblk.out (.bool false) (.string ⟨#[]⟩) (.slice none 0 0))
                have hfin := box3_chg (b := vb) Hal.out Hb0.out (.bool false) (.string ⟨#[]⟩) (.slice none 0 0)
                generalize ((w1.setCell ⟨vb, 0, none⟩ (.bool false)).setCell ⟨vb, 1, none⟩ (.string ⟨#[]⟩)).setCell ⟨vb, 2, none⟩ (.slice none 0 0) = wf at *
                refine bodyPost_ret (v := .tuple #[nodeZ, .int .i64 0, .int .i64 5]) (by simp [results, Tryz.results109, go_sem, e0, e1, e2, nodeZ]) rfl ⟨hfin, ?_⟩
                rw [Hres.out]
            · have hk0 : 0 < k := by omega
              have hkz : ((k : Int) == 0) = false := by rw [beq_eq_false_iff_ne]; omega
              rcases Classical.em (((S[0]).toNat : Int) = 48) with hz | hz
              · by_cases hk1 : (1 : Int) < (k : Int)
                · have Hres := Lib.hid (show atR S.data.toList = .error 5 from bad_zero (by rw [Hsl.out]; omega) (z48 hz) (take_mem Hd.out (by omega) (by rw [Hsl.out]; omega)))
                  go_wp2_with fail
                  all_goals
                    obtain ⟨e0, e1, e2⟩ := var3 (box3 Hblk.out (.bool false) (.string ⟨#[]⟩) (.slice none 0 0))
                    have hfin := box3_chg (b := vb) Hal.out Hb0.out (.bool false) (.string ⟨#[]⟩) (.slice none 0 0)
                    generalize ((w1.setCell ⟨vb, 0, none⟩ (.bool false)).setCell ⟨vb, 1, none⟩ (.string ⟨#[]⟩)).setCell ⟨vb, 2, none⟩ (.slice none 0 0) = wf at *
                    refine bodyPost_ret (v := .tuple #[nodeZ, .int .i64 0, .int .i64 5]) (by simp [results, Tryz.results109, go_sem, e0, e1, e2, nodeZ]) rfl ⟨hfin, ?_⟩
                    rw [Hres.out]
                · have hz58 : S.data.toList[0] = 48 → k = 1 := fun _ => by omega
                  by_cases h58 : ((S[k]).toNat : Int) = 58
                  · have h58l : S.data.toList[k] = 58 := by rw [bget S k hlt]; exact UInt8.toNat_inj.1 (by rw [show (58 : UInt8).toNat = 58 from rfl]; omega)
                    by_cases hsh : (S.size : Int) - (k : Int) - 1 < (v : Int)
                    · have Hres := Lib.hid (show atR S.data.toList = .error 5 from bad_short hkl Hd.out h58l (by rw [Hv.out, Hsl.out]; omega))
                      go_wp2_with fail
                      all_goals
                        obtain ⟨e0, e1, e2⟩ := var3 (box3 Hblk.out (.bool false) (.string ⟨#[]⟩) (.slice none 0 0))
                        have hfin := box3_chg (b := vb) Hal.out Hb0.out (.bool false) (.string ⟨#[]⟩) (.slice none 0 0)
                        generalize ((w1.setCell ⟨vb, 0, none⟩ (.bool false)).setCell ⟨vb, 1, none⟩ (.string ⟨#[]⟩)).setCell ⟨vb, 2, none⟩ (.slice none 0 0) = wf at *
                        refine bodyPost_ret (v := .tuple #[nodeZ, .int .i64 0, .int .i64 5]) (by simp [results, Tryz.results109, go_sem, e0, e1, e2, nodeZ]) rfl ⟨hfin, ?_⟩
                        rw [Hres.out]
                    · have Hres := Lib.hid (good_text hkl hk0 Hd.out hz58 h58l (by rw [Hv.out, Hsl.out]; omega))
                      have hmid : S.extract (k + 1) (k + 1 + v) = tx ((S.data.toList.drop (k + 1)).take v) := by
                        rw [Lib.extract_eq]
                        show tx _ = tx _
                        congr 2
                        omega
                      have hb1 : (k : Int) + 1 ≤ (k : Int) + 1 + (v : Int) := by omega
                      have hb2 : (k : Int) + 1 + (v : Int) ≤ (S.size : Int) := by omega
                      have hl1 : ((S.data.toList.drop (k + 1)).take v).length ≤ maxLen := by rw [List.length_take]; unfold maxLen; omega
                      have Hl1 := Lib.hid hl1
                      have hused : ((S.size - ((S.data.toList.drop (k + 1)).drop v).length : Nat) : Int) = (k : Int) + 1 + (v : Int) := by
                        rw [List.length_drop, List.length_drop, Hsl.out]
                        omega
                      have Hused := Lib.hid hused
                      have hrl : ((S.data.toList.drop (k + 1)).drop v).length ≤ S.size := by rw [List.length_drop, List.length_drop, Hsl.out]; omega
                      have Hrl := Lib.hid hrl
                      rw [Hv.out] at Hres
                      obtain ⟨tt, htt⟩ : ∃ tt, tt = (S.data.toList.drop (k + 1)).take v := ⟨_, rfl⟩
                      obtain ⟨rr, hrr⟩ : ∃ rr, rr = (S.data.toList.drop (k + 1)).drop v := ⟨_, rfl⟩
                      rw [← htt] at hmid Hl1 Hres
                      rw [← hrr] at Hused Hrl Hres
                      clear hl1 hused hrl htt hrr
                      go_wp2_with fail
                      all_goals
                        obtain ⟨e0, e1, e2⟩ := var3 (box3 Hblk.out (.bool true) (.string (tx tt)) (.slice none 0 0))
                        have hfin := box3_chg (b := vb) Hal.out Hb0.out (.bool true) (.string (tx tt)) (.slice none 0 0)
                        generalize ((w1.setCell ⟨vb, 0, none⟩ (.bool true)).setCell ⟨vb, 1, none⟩ (.string (tx tt))).setCell ⟨vb, 2, none⟩ (.slice none 0 0) = wf at *
                        refine bodyPost_ret (v := .tuple #[.agg #[.bool true, .string (tx tt), .slice none 0 0], .int .i64 ((k : Int) + 1 + (v : Int)), .int .i64 0]) (by simp [results, Tryz.results109, go_sem, e0, e1, e2]) rfl ⟨hfin, ?_⟩
                        rw [Hres.out]
                        refine ⟨_, ?_, atomNew _ _ Hl1.out _, Hrl.out⟩
                        rw [Hused.out]
                  · have Hres := Lib.hid (show atR S.data.toList = .error 5 from bad_next hkl (by rw [Hsl.out]; exact hsz) Hd.out (fun e => h58 (by rw [← bget S k hlt, e]; rfl)) (.inr fun hd => by rw [bget S k hlt] at hd; have := hd.1; have := hd.2; omega))
                    go_wp2_with fail
                    all_goals
                      obtain ⟨e0, e1, e2⟩ := var3 (box3 Hblk.out (.bool false) (.string ⟨#[]⟩) (.slice none 0 0))
                      have hfin := box3_chg (b := vb) Hal.out Hb0.out (.bool false) (.string ⟨#[]⟩) (.slice none 0 0)
                      generalize ((w1.setCell ⟨vb, 0, none⟩ (.bool false)).setCell ⟨vb, 1, none⟩ (.string ⟨#[]⟩)).setCell ⟨vb, 2, none⟩ (.slice none 0 0) = wf at *
                      refine bodyPost_ret (v := .tuple #[nodeZ, .int .i64 0, .int .i64 5]) (by simp [results, Tryz.results109, go_sem, e0, e1, e2, nodeZ]) rfl ⟨hfin, ?_⟩
                      rw [Hres.out]
              · have hz58 : S.data.toList[0] = 48 → k = 1 := fun e => absurd (by rw [← bget S 0 hS0, e]; rfl) hz
                by_cases h58 : ((S[k]).toNat : Int) = 58
                · have h58l : S.data.toList[k] = 58 := by rw [bget S k hlt]; exact UInt8.toNat_inj.1 (by rw [show (58 : UInt8).toNat = 58 from rfl]; omega)
                  by_cases hsh : (S.size : Int) - (k : Int) - 1 < (v : Int)
                  · have Hres := Lib.hid (show atR S.data.toList = .error 5 from bad_short hkl Hd.out h58l (by rw [Hv.out, Hsl.out]; omega))
                    go_wp2_with fail
                    all_goals
                      obtain ⟨e0, e1, e2⟩ := var3 (box3 Hblk.out (.bool false) (.string ⟨#[]⟩) (.slice none 0 0))
                      have hfin := box3_chg (b := vb) Hal.out Hb0.out (.bool false) (.string ⟨#[]⟩) (.slice none 0 0)
                      generalize ((w1.setCell ⟨vb, 0, none⟩ (.bool false)).setCell ⟨vb, 1, none⟩ (.string ⟨#[]⟩)).setCell ⟨vb, 2, none⟩ (.slice none 0 0) = wf at *
                      refine bodyPost_ret (v := .tuple #[nodeZ, .int .i64 0, .int .i64 5]) (by simp [results, Tryz.results109, go_sem, e0, e1, e2, nodeZ]) rfl ⟨hfin, ?_⟩
                      rw [Hres.out]
                  · have Hres := Lib.hid (good_text hkl hk0 Hd.out hz58 h58l (by rw [Hv.out, Hsl.out]; omega))
                    have hmid : S.extract (k + 1) (k + 1 + v) = tx ((S.data.toList.drop (k + 1)).take v) := by
                      rw [Lib.extract_eq]
                      show tx _ = tx _
                      congr 2
                      omega
                    have hb1 : (k : Int) + 1 ≤ (k : Int) + 1 + (v : Int) := by omega
                    have hb2 : (k : Int) + 1 + (v : Int) ≤ (S.size : Int) := by omega
                    have hl1 : ((S.data.toList.drop (k + 1)).take v).length ≤ maxLen := by rw [List.length_take]; unfold maxLen; omega
                    have Hl1 := Lib.hid hl1
                    have hused : ((S.size - ((S.data.toList.drop (k + 1)).drop v).length : Nat) : Int) = (k : Int) + 1 + (v : Int) := by
                      rw [List.length_drop, List.length_drop, Hsl.out]
                      omega
                    have Hused := Lib.hid hused
                    have hrl : ((S.data.toList.drop (k + 1)).drop v).length ≤ S.size := by rw [List.length_drop, List.length_drop, Hsl.out]; omega
                    have Hrl := Lib.hid hrl
                    rw [Hv.out] at Hres
                    obtain ⟨tt, htt⟩ : ∃ tt, tt = (S.data.toList.drop (k + 1)).take v := ⟨_, rfl⟩
                    obtain ⟨rr, hrr⟩ : ∃ rr, rr = (S.data.toList.drop (k + 1)).drop v := ⟨_, rfl⟩
                    rw [← htt] at hmid Hl1 Hres
                    rw [← hrr] at Hused Hrl Hres
                    clear hl1 hused hrl htt hrr
                    go_wp2_with fail
                    all_goals
                      obtain ⟨e0, e1, e2⟩ := var3 (box3 Hblk.out (.bool true) (.string (tx tt)) (.slice none 0 0))
                      have hfin := box3_chg (b := vb) Hal.out Hb0.out (.bool true) (.string (tx tt)) (.slice none 0 0)
                      generalize ((w1.setCell ⟨vb, 0, none⟩ (.bool true)).setCell ⟨vb, 1, none⟩ (.string (tx tt))).setCell ⟨vb, 2, none⟩ (.slice none 0 0) = wf at *
                      refine bodyPost_ret (v := .tuple #[.agg #[.bool true, .string (tx tt), .slice none 0 0], .int .i64 ((k : Int) + 1 + (v : Int)), .int .i64 0]) (by simp [results, Tryz.results109, go_sem, e0, e1, e2]) rfl ⟨hfin, ?_⟩
                      rw [Hres.out]
                      refine ⟨_, ?_, atomNew _ _ Hl1.out _, Hrl.out⟩
                      rw [Hused.out]
                · have Hres := Lib.hid (show atR S.data.toList = .error 5 from bad_next hkl (by rw [Hsl.out]; exact hsz) Hd.out (fun e => h58 (by rw [← bget S k hlt, e]; rfl)) (.inr fun hd => by rw [bget S k hlt] at hd; have := hd.1; have := hd.2; omega))
                  go_wp2_with fail
                  all_goals
                    obtain ⟨e0, e1, e2⟩ := var3 (box3 Hblk.out (.bool false) (.string ⟨#[]⟩) (.slice none 0 0))
                    have hfin := box3_chg (b := vb) Hal.out Hb0.out (.bool false) (.string ⟨#[]⟩) (.slice none 0 0)
                    generalize ((w1.setCell ⟨vb, 0, none⟩ (.bool false)).setCell ⟨vb, 1, none⟩ (.string ⟨#[]⟩)).setCell ⟨vb, 2, none⟩ (.slice none 0 0) = wf at *
                    refine bodyPost_ret (v := .tuple #[nodeZ, .int .i64 0, .int .i64 5]) (by simp [results, Tryz.results109, go_sem, e0, e1, e2, nodeZ]) rfl ⟨hfin, ?_⟩
                    rw [Hres.out]
        · by_cases hk00 : k = 0
          · subst hk00
            have nd0 : ¬ DigB S.data.toList[0] := fun hd => by rw [bget S 0 hlt] at hd; have := hd.1; have := hd.2; omega
            have Hres := Lib.hid (show atR S.data.toList = .error 5 from bad_first (by rw [Hsl.out]; exact hS0) (nd0))
            go_wp2_with fail
            all_goals
              obtain ⟨e0, e1, e2⟩ := var3 (box3 Hblk.out (.bool false) (.string ⟨#[]⟩) (.slice none 0 0))
              have hfin := box3_chg (b := vb) Hal.out Hb0.out (.bool false) (.string ⟨#[]⟩) (.slice none 0 0)
              generalize ((w1.setCell ⟨vb, 0, none⟩ (.bool false)).setCell ⟨vb, 1, none⟩ (.string ⟨#[]⟩)).setCell ⟨vb, 2, none⟩ (.slice none 0 0) = wf at *
              refine bodyPost_ret (v := .tuple #[nodeZ, .int .i64 0, .int .i64 5]) (by simp [results, Tryz.results109, go_sem, e0, e1, e2, nodeZ]) rfl ⟨hfin, ?_⟩
              rw [Hres.out]
          · have hk0 : 0 < k := by omega
            have hkz : ((k : Int) == 0) = false := by rw [beq_eq_false_iff_ne]; omega
            rcases Classical.em (((S[0]).toNat : Int) = 48) with hz | hz
            · by_cases hk1 : (1 : Int) < (k : Int)
              · have Hres := Lib.hid (show atR S.data.toList = .error 5 from bad_zero (by rw [Hsl.out]; omega) (z48 hz) (take_mem Hd.out (by omega) (by rw [Hsl.out]; omega)))
                go_wp2_with fail
                all_goals
                  obtain ⟨e0, e1, e2⟩ := var3 (box3 Hblk.out (.bool false) (.string ⟨#[]⟩) (.slice none 0 0))
                  have hfin := box3_chg (b := vb) Hal.out Hb0.out (.bool false) (.string ⟨#[]⟩) (.slice none 0 0)
                  generalize ((w1.setCell ⟨vb, 0, none⟩ (.bool false)).setCell ⟨vb, 1, none⟩ (.string ⟨#[]⟩)).setCell ⟨vb, 2, none⟩ (.slice none 0 0) = wf at *
                  refine bodyPost_ret (v := .tuple #[nodeZ, .int .i64 0, .int .i64 5]) (by simp [results, Tryz.results109, go_sem, e0, e1, e2, nodeZ]) rfl ⟨hfin, ?_⟩
                  rw [Hres.out]
              · have hz58 : S.data.toList[0] = 48 → k = 1 := fun _ => by omega
                have h58 : ¬ ((S[k]).toNat : Int) = 58 := by omega
                have Hres := Lib.hid (show atR S.data.toList = .error 5 from bad_next hkl (by rw [Hsl.out]; exact hsz) Hd.out (fun e => h58 (by rw [← bget S k hlt, e]; rfl)) (.inr fun hd => by rw [bget S k hlt] at hd; have := hd.1; have := hd.2; omega))
                go_wp2_with fail
                all_goals
                  obtain ⟨e0, e1, e2⟩ := var3 (box3 Hblk.out (.bool false) (.string ⟨#[]⟩) (.slice none 0 0))
                  have hfin := box3_chg (b := vb) Hal.out Hb0.out (.bool false) (.string ⟨#[]⟩) (.slice none 0 0)
                  generalize ((w1.setCell ⟨vb, 0, none⟩ (.bool false)).setCell ⟨vb, 1, none⟩ (.string ⟨#[]⟩)).setCell ⟨vb, 2, none⟩ (.slice none 0 0) = wf at *
                  refine bodyPost_ret (v := .tuple #[nodeZ, .int .i64 0, .int .i64 5]) (by simp [results, Tryz.results109, go_sem, e0, e1, e2, nodeZ]) rfl ⟨hfin, ?_⟩
                  rw [Hres.out]
            · have hz58 : S.data.toList[0] = 48 → k = 1 := fun e => absurd (by rw [← bget S 0 hS0, e]; rfl) hz
              have h58 : ¬ ((S[k]).toNat : Int) = 58 := by omega
              have Hres := Lib.hid (show atR S.data.toList = .error 5 from bad_next hkl (by rw [Hsl.out]; exact hsz) Hd.out (fun e => h58 (by rw [← bget S k hlt, e]; rfl)) (.inr fun hd => by rw [bget S k hlt] at hd; have := hd.1; have := hd.2; omega))
              go_wp2_with fail
              all_goals
                obtain ⟨e0, e1, e2⟩ := var3 (box3 Hblk.out (.bool false) (.string ⟨#[]⟩) (.slice none 0 0))
                have hfin := box3_chg (b := vb) Hal.out Hb0.out (.bool false) (.string ⟨#[]⟩) (.slice none 0 0)
                generalize ((w1.setCell ⟨vb, 0, none⟩ (.bool false)).setCell ⟨vb, 1, none⟩ (.string ⟨#[]⟩)).setCell ⟨vb, 2, none⟩ (.slice none 0 0) = wf at *
                refine bodyPost_ret (v := .tuple #[nodeZ, .int .i64 0, .int .i64 5]) (by simp [results, Tryz.results109, go_sem, e0, e1, e2, nodeZ]) rfl ⟨hfin, ?_⟩
                rw [Hres.out]
      · have hk5e : k = 5 := by omega
        have Hk5 := Lib.hid hk5e
        have hk0 : 0 < k := by omega
        clear hk5e
        have hkz : ((k : Int) == 0) = false := by rw [beq_eq_false_iff_ne]; omega
        rcases Classical.em (((S[0]).toNat : Int) = 48) with hz | hz
        · by_cases hk1 : (1 : Int) < (k : Int)
          · have Hres := Lib.hid (show atR S.data.toList = .error 5 from bad_zero (by rw [Hsl.out]; omega) (z48 hz) (take_mem Hd.out (by omega) (by rw [Hsl.out]; omega)))
            go_wp2_with fail
            all_goals
              obtain ⟨e0, e1, e2⟩ := var3 (box3 Hblk.out (.bool false) (.string ⟨#[]⟩) (.slice none 0 0))
              have hfin := box3_chg (b := vb) Hal.out Hb0.out (.bool false) (.string ⟨#[]⟩) (.slice none 0 0)
              generalize ((w1.setCell ⟨vb, 0, none⟩ (.bool false)).setCell ⟨vb, 1, none⟩ (.string ⟨#[]⟩)).setCell ⟨vb, 2, none⟩ (.slice none 0 0) = wf at *
              refine bodyPost_ret (v := .tuple #[nodeZ, .int .i64 0, .int .i64 5]) (by simp [results, Tryz.results109, go_sem, e0, e1, e2, nodeZ]) rfl ⟨hfin, ?_⟩
              rw [Hres.out]
          · have hz58 : S.data.toList[0] = 48 → k = 1 := fun _ => by omega
            by_cases h58 : ((S[k]).toNat : Int) = 58
            · have h58l : S.data.toList[k] = 58 := by rw [bget S k hlt]; exact UInt8.toNat_inj.1 (by rw [show (58 : UInt8).toNat = 58 from rfl]; omega)
              by_cases hsh : (S.size : Int) - (k : Int) - 1 < (v : Int)
              · have Hres := Lib.hid (show atR S.data.toList = .error 5 from bad_short hkl Hd.out h58l (by rw [Hv.out, Hsl.out]; omega))
                go_wp2_with fail
                all_goals
                  obtain ⟨e0, e1, e2⟩ := var3 (box3 Hblk.out (.bool false) (.string ⟨#[]⟩) (.slice none 0 0))
                  have hfin := box3_chg (b := vb) Hal.out Hb0.out (.bool false) (.string ⟨#[]⟩) (.slice none 0 0)
                  generalize ((w1.setCell ⟨vb, 0, none⟩ (.bool false)).setCell ⟨vb, 1, none⟩ (.string ⟨#[]⟩)).setCell ⟨vb, 2, none⟩ (.slice none 0 0) = wf at *
                  refine bodyPost_ret (v := .tuple #[nodeZ, .int .i64 0, .int .i64 5]) (by simp [results, Tryz.results109, go_sem, e0, e1, e2, nodeZ]) rfl ⟨hfin, ?_⟩
                  rw [Hres.out]
              · have Hres := Lib.hid (good_text hkl hk0 Hd.out hz58 h58l (by rw [Hv.out, Hsl.out]; omega))
                have hmid : S.extract (k + 1) (k + 1 + v) = tx ((S.data.toList.drop (k + 1)).take v) := by
                  rw [Lib.extract_eq]
                  show tx _ = tx _
                  congr 2
                  omega
                have hb1 : (k : Int) + 1 ≤ (k : Int) + 1 + (v : Int) := by omega
                have hb2 : (k : Int) + 1 + (v : Int) ≤ (S.size : Int) := by omega
                have hl1 : ((S.data.toList.drop (k + 1)).take v).length ≤ maxLen := by rw [List.length_take]; unfold maxLen; omega
                have Hl1 := Lib.hid hl1
                have hused : ((S.size - ((S.data.toList.drop (k + 1)).drop v).length : Nat) : Int) = (k : Int) + 1 + (v : Int) := by
                  rw [List.length_drop, List.length_drop, Hsl.out]
                  omega
                have Hused := Lib.hid hused
                have hrl : ((S.data.toList.drop (k + 1)).drop v).length ≤ S.size := by rw [List.length_drop, List.length_drop, Hsl.out]; omega
                have Hrl := Lib.hid hrl
                rw [Hv.out] at Hres
                obtain ⟨tt, htt⟩ : ∃ tt, tt = (S.data.toList.drop (k + 1)).take v := ⟨_, rfl⟩
                obtain ⟨rr, hrr⟩ : ∃ rr, rr = (S.data.toList.drop (k + 1)).drop v := ⟨_, rfl⟩
                rw [← htt] at hmid Hl1 Hres
                rw [← hrr] at Hused Hrl Hres
                clear hl1 hused hrl htt hrr
                go_wp2_with fail
                all_goals
                  obtain ⟨e0, e1, e2⟩ := var3 (box3 Hblk.out (.bool true) (.string (tx tt)) (.slice none 0 0))
                  have hfin := box3_chg (b := vb) Hal.out Hb0.out (.bool true) (.string (tx tt)) (.slice none 0 0)
                  generalize ((w1.setCell ⟨vb, 0, none⟩ (.bool true)).setCell ⟨vb, 1, none⟩ (.string (tx tt))).setCell ⟨vb, 2, none⟩ (.slice none 0 0) = wf at *
                  refine bodyPost_ret (v := .tuple #[.agg #[.bool true, .string (tx tt), .slice none 0 0], .int .i64 ((k : Int) + 1 + (v : Int)), .int .i64 0]) (by simp [results, Tryz.results109, go_sem, e0, e1, e2]) rfl ⟨hfin, ?_⟩
                  rw [Hres.out]
                  refine ⟨_, ?_, atomNew _ _ Hl1.out _, Hrl.out⟩
                  rw [Hused.out]
            · have Hres := Lib.hid (show atR S.data.toList = .error 5 from bad_next hkl (by rw [Hsl.out]; exact hsz) Hd.out (fun e => h58 (by rw [← bget S k hlt, e]; rfl)) (.inl Hk5.out))
              go_wp2_with fail
              all_goals
                obtain ⟨e0, e1, e2⟩ := var3 (box3 Hblk.out (.bool false) (.string ⟨#[]⟩) (.slice none 0 0))
                have hfin := box3_chg (b := vb) Hal.out Hb0.out (.bool false) (.string ⟨#[]⟩) (.slice none 0 0)
                generalize ((w1.setCell ⟨vb, 0, none⟩ (.bool false)).setCell ⟨vb, 1, none⟩ (.string ⟨#[]⟩)).setCell ⟨vb, 2, none⟩ (.slice none 0 0) = wf at *
                refine bodyPost_ret (v := .tuple #[nodeZ, .int .i64 0, .int .i64 5]) (by simp [results, Tryz.results109, go_sem, e0, e1, e2, nodeZ]) rfl ⟨hfin, ?_⟩
                rw [Hres.out]
        · have hz58 : S.data.toList[0] = 48 → k = 1 := fun e => absurd (by rw [← bget S 0 hS0, e]; rfl) hz
          by_cases h58 : ((S[k]).toNat : Int) = 58
          · have h58l : S.data.toList[k] = 58 := by rw [bget S k hlt]; exact UInt8.toNat_inj.1 (by rw [show (58 : UInt8).toNat = 58 from rfl]; omega)
            by_cases hsh : (S.size : Int) - (k : Int) - 1 < (v : Int)
            · have Hres := Lib.hid (show atR S.data.toList = .error 5 from bad_short hkl Hd.out h58l (by rw [Hv.out, Hsl.out]; omega))
              go_wp2_with fail
              all_goals
                obtain ⟨e0, e1, e2⟩ := var3 (box3 Hblk.out (.bool false) (.string ⟨#[]⟩) (.slice none 0 0))
                have hfin := box3_chg (b := vb) Hal.out Hb0.out (.bool false) (.string ⟨#[]⟩) (.slice none 0 0)
                generalize ((w1.setCell ⟨vb, 0, none⟩ (.bool false)).setCell ⟨vb, 1, none⟩ (.string ⟨#[]⟩)).setCell ⟨vb, 2, none⟩ (.slice none 0 0) = wf at *
                refine bodyPost_ret (v := .tuple #[nodeZ, .int .i64 0, .int .i64 5]) (by simp [results, Tryz.results109, go_sem, e0, e1, e2, nodeZ]) rfl ⟨hfin, ?_⟩
                rw [Hres.out]
            · have Hres := Lib.hid (good_text hkl hk0 Hd.out hz58 h58l (by rw [Hv.out, Hsl.out]; omega))
              have hmid : S.extract (k + 1) (k + 1 + v) = tx ((S.data.toList.drop (k + 1)).take v) := by
                rw [Lib.extract_eq]
                show tx _ = tx _
                congr 2
                omega
              have hb1 : (k : Int) + 1 ≤ (k : Int) + 1 + (v : Int) := by omega
              have hb2 : (k : Int) + 1 + (v : Int) ≤ (S.size : Int) := by omega
              have hl1 : ((S.data.toList.drop (k + 1)).take v).length ≤ maxLen := by rw [List.length_take]; unfold maxLen; omega
              have Hl1 := Lib.hid hl1
              have hused : ((S.size - ((S.data.toList.drop (k + 1)).drop v).length : Nat) : Int) = (k : Int) + 1 + (v : Int) := by
                rw [List.length_drop, List.length_drop, Hsl.out]
                omega
              have Hused := Lib.hid hused
              have hrl : ((S.data.toList.drop (k + 1)).drop v).length ≤ S.size := by rw [List.length_drop, List.length_drop, Hsl.out]; omega
              have Hrl := Lib.hid hrl
              rw [Hv.out] at Hres
              obtain ⟨tt, htt⟩ : ∃ tt, tt = (S.data.toList.drop (k + 1)).take v := ⟨_, rfl⟩
              obtain ⟨rr, hrr⟩ : ∃ rr, rr = (S.data.toList.drop (k + 1)).drop v := ⟨_, rfl⟩
              rw [← htt] at hmid Hl1 Hres
              rw [← hrr] at Hused Hrl Hres
              clear hl1 hused hrl htt hrr
              go_wp2_with fail
              all_goals
                obtain ⟨e0, e1, e2⟩ := var3 (box3 Hblk.out (.bool true) (.string (tx tt)) (.slice none 0 0))
                have hfin := box3_chg (b := vb) Hal.out Hb0.out (.bool true) (.string (tx tt)) (.slice none 0 0)
                generalize ((w1.setCell ⟨vb, 0, none⟩ (.bool true)).setCell ⟨vb, 1, none⟩ (.string (tx tt))).setCell ⟨vb, 2, none⟩ (.slice none 0 0) = wf at *
                refine bodyPost_ret (v := .tuple #[.agg #[.bool true, .string (tx tt), .slice none 0 0], .int .i64 ((k : Int) + 1 + (v : Int)), .int .i64 0]) (by simp [results, Tryz.results109, go_sem, e0, e1, e2]) rfl ⟨hfin, ?_⟩
                rw [Hres.out]
                refine ⟨_, ?_, atomNew _ _ Hl1.out _, Hrl.out⟩
                rw [Hused.out]
          · have Hres := Lib.hid (show atR S.data.toList = .error 5 from bad_next hkl (by rw [Hsl.out]; exact hsz) Hd.out (fun e => h58 (by rw [← bget S k hlt, e]; rfl)) (.inl Hk5.out))
            go_wp2_with fail
            all_goals
              obtain ⟨e0, e1, e2⟩ := var3 (box3 Hblk.out (.bool false) (.string ⟨#[]⟩) (.slice none 0 0))
              have hfin := box3_chg (b := vb) Hal.out Hb0.out (.bool false) (.string ⟨#[]⟩) (.slice none 0 0)
              generalize ((w1.setCell ⟨vb, 0, none⟩ (.bool false)).setCell ⟨vb, 1, none⟩ (.string ⟨#[]⟩)).setCell ⟨vb, 2, none⟩ (.slice none 0 0) = wf at *
              refine bodyPost_ret (v := .tuple #[nodeZ, .int .i64 0, .int .i64 5]) (by simp [results, Tryz.results109, go_sem, e0, e1, e2, nodeZ]) rfl ⟨hfin, ?_⟩
              rw [Hres.out]
    · obtain rfl : k = S.size := by omega
      by_cases hk00 : S.size = 0
      · have hnil : S.data.toList = [] := List.eq_nil_of_length_eq_zero (by rw [Hsl.out]; exact hk00)
        have hkz : (((S.size : Nat) : Int) == 0) = true := by rw [beq_iff_eq]; omega
        have Hres := Lib.hid (show atR S.data.toList = .error 5 from by rw [hnil]; exact bad_empty)
        clear hnil
        go_wp2_with fail
        all_goals
          obtain ⟨e0, e1, e2⟩ := var3 (box3 Hblk.out (.bool false) (.string ⟨#[]⟩) (.slice none 0 0))
          have hfin := box3_chg (b := vb) Hal.out Hb0.out (.bool false) (.string ⟨#[]⟩) (.slice none 0 0)
          generalize ((w1.setCell ⟨vb, 0, none⟩ (.bool false)).setCell ⟨vb, 1, none⟩ (.string ⟨#[]⟩)).setCell ⟨vb, 2, none⟩ (.slice none 0 0) = wf at *
          refine bodyPost_ret (v := .tuple #[nodeZ, .int .i64 0, .int .i64 5]) (by simp [results, Tryz.results109, go_sem, e0, e1, e2, nodeZ]) rfl ⟨hfin, ?_⟩
          rw [Hres.out]
      · have hkz : (((S.size : Nat) : Int) == 0) = false := by rw [beq_eq_false_iff_ne]; omega
        have hS0 : 0 < S.size := by omega
        have hall : AllD S.data.toList := by have := Hd.out; rwa [List.take_of_length_le (by rw [Hsl.out]; exact Nat.le_refl _)] at this
        rcases Classical.em (((S[0]).toNat : Int) = 48) with hz | hz
        · by_cases hk1 : (1 : Int) < ((S.size : Nat) : Int)
          · have Hres := Lib.hid (show atR S.data.toList = .error 5 from bad_all hall)
            go_wp2_with fail
            all_goals
              obtain ⟨e0, e1, e2⟩ := var3 (box3 Hblk.out (.bool false) (.string ⟨#[]⟩) (.slice none 0 0))
              have hfin := box3_chg (b := vb) Hal.out Hb0.out (.bool false) (.string ⟨#[]⟩) (.slice none 0 0)
              generalize ((w1.setCell ⟨vb, 0, none⟩ (.bool false)).setCell ⟨vb, 1, none⟩ (.string ⟨#[]⟩)).setCell ⟨vb, 2, none⟩ (.slice none 0 0) = wf at *
              refine bodyPost_ret (v := .tuple #[nodeZ, .int .i64 0, .int .i64 5]) (by simp [results, Tryz.results109, go_sem, e0, e1, e2, nodeZ]) rfl ⟨hfin, ?_⟩
              rw [Hres.out]
          · have Hres := Lib.hid (show atR S.data.toList = .error 5 from bad_all hall)
            go_wp2_with fail
            all_goals
              obtain ⟨e0, e1, e2⟩ := var3 (box3 Hblk.out (.bool false) (.string ⟨#[]⟩) (.slice none 0 0))
              have hfin := box3_chg (b := vb) Hal.out Hb0.out (.bool false) (.string ⟨#[]⟩) (.slice none 0 0)
              generalize ((w1.setCell ⟨vb, 0, none⟩ (.bool false)).setCell ⟨vb, 1, none⟩ (.string ⟨#[]⟩)).setCell ⟨vb, 2, none⟩ (.slice none 0 0) = wf at *
              refine bodyPost_ret (v := .tuple #[nodeZ, .int .i64 0, .int .i64 5]) (by simp [results, Tryz.results109, go_sem, e0, e1, e2, nodeZ]) rfl ⟨hfin, ?_⟩
              rw [Hres.out]
        · have Hres := Lib.hid (show atR S.data.toList = .error 5 from bad_all hall)
          go_wp2_with fail
          all_goals
            obtain ⟨e0, e1, e2⟩ := var3 (box3 Hblk.out (.bool false) (.string ⟨#[]⟩) (.slice none 0 0))
            have hfin := box3_chg (b := vb) Hal.out Hb0.out (.bool false) (.string ⟨#[]⟩) (.slice none 0 0)
            generalize ((w1.setCell ⟨vb, 0, none⟩ (.bool false)).setCell ⟨vb, 1, none⟩ (.string ⟨#[]⟩)).setCell ⟨vb, 2, none⟩ (.slice none 0 0) = wf at *
            refine bodyPost_ret (v := .tuple #[nodeZ, .int .i64 0, .int .i64 5]) (by simp [results, Tryz.results109, go_sem, e0, e1, e2, nodeZ]) rfl ⟨hfin, ?_⟩
            rw [Hres.out]
end Go.Proofs.YtilkcjcmcnlfnaaGreatDoor
