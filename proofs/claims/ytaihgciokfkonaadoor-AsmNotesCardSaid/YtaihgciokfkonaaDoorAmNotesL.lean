/- A note behind the mark ';', or an empty line, put among the lines changes neither the program nor the error, only the error's place: true for every input. Conditions: the library's variables and the list of words read as listed, as the card says. -/
import Derived.Test.YtaihgciokfkonaaDoorAmInsL
import Derived.Test.YtaihgciokfkonaaDoorAmNotesM
import Derived.Test.YtaihgciokfkonaaDoorAmFeeds
import Derived.Test.YtaihgciokfkonaaDoorCards
import Derived.ChangeMaps
import Derived.Test.YtaihgciokfkonaaDoorTie

namespace Go.Proofs.YtaihgciokfkonaaDoor
set_option linter.unusedVariables false
open Go.ChangeShapes Go.WideShapes Go.ChangeAt Go.RowKit
open Go.ChangeMaps (open_string shut_string)
theorem glue (a b : List UInt8) : ∃ c, c = a ++ b ∧ tx a ++ tx b = tx c ∧ (tx c).size = c.length ∧ c.length = a.length + b.length := ⟨_, rfl, txCat a b, tx_size _, List.length_append⟩
set_option maxHeartbeats 8000000 in
set_option maxRecDepth 20000 in
theorem asmNotes_all (ls : List (List UInt8)) (va : Value) (ka oa : Nat) (at' : Int) (note0 : ByteArray) (W : World) (hp : TxtS W (OldB W) va ls ka oa) (hr : ls.length ≤ 140737488351232 ∧ ∀ t ∈ ls, t.length ≤ 140737488351232) (hle : (Lit.int .i64 at').wf = true) (hno : note0.size ≤ maxLen) (hlb : Lb W.heap.size W) (hwd : Wd W.heap.size W) (hml : 3 < W.heap.size) : Calls Tryd.prog 5 #[va, .int .i64 at', .string note0] W (SayB true W) := by
  obtain ⟨note, rfl⟩ : ∃ note, note0 = tx note := ⟨_, (tx_back note0).symm⟩
  have Hav := Lib.hid (show Av W.heap.size W from ⟨hlb, hwd⟩)
  have HAL := Lib.hid (alive_any W.heap.size W Hav.out hml)
  have Hml := Lib.hid hml
  obtain ⟨⟨qa, ca, rfl, a1, a2, a3⟩, pat⟩ := hp
  obtain ⟨la, hla⟩ : ∃ n, n = ls.length := ⟨_, rfl⟩
  have Hat := Lib.hid pat
  have Ha3 := Lib.hid a3
  have Hla := Lib.hid hla
  have Htb := Lib.hid hr.2
  have hlab : la ≤ 140737488351232 := by rw [hla]; exact hr.1
  have hzn : (tx note).size = note.length := tx_size note
  rw [← hla] at a1 ⊢
  clear pat a3 hlb hwd hml hla hle hr hno
  go_enter Tryd.func5, Tryd.ntmps5
  go_wp2_with fail
  refine HAL.out.mono ?_
  rintro e w2 ⟨rfl, hc2⟩
  have Hc2 := Lib.hid hc2
  clear hc2 HAL
  by_cases g1 : at' < 0
  · go_wp2_with fail
    go_ret
    exact ⟨rfl, Hc2.out⟩
  obtain ⟨a, rfl⟩ := Int.eq_ofNat_of_zero_le (show 0 ≤ at' by omega)
  by_cases g2 : (la : Int) < (a : Int)
  · go_wp2_with fail
    go_ret
    exact ⟨rfl, Hc2.out⟩
  by_cases g3 : (300 : Int) < (la : Int)
  · go_wp2_with fail
    go_ret
    exact ⟨rfl, Hc2.out⟩
  by_cases g4 : (1000 : Int) < (note.length : Int)
  · go_wp2_with fail
    go_ret
    exact ⟨rfl, Hc2.out⟩
  go_wp2_with fail
  go_loopw [7] (fun o wr => ∃ k : Nat, k ≤ note.length ∧ o = .int .i64 k ∧ (10 : UInt8) ∉ note.take k ∧ w2 = wr) (fun o _ => note.length - (intOf o).toNat)
  case atStart => exact ⟨0, Nat.zero_le _, rfl, by simp, rfl⟩
  case round =>
    obtain ⟨k, hk, rfl, hnk, rfl⟩ := hrel
    by_cases hlt : k < note.length
    · have hkk : k < (tx note).size := by omega
      obtain ⟨b, hb⟩ : ∃ b, (tx note)[k] = b := ⟨_, rfl⟩
      have htk : note.take (k + 1) = note.take k ++ [b] := by rw [← hb]; exact take_at hlt
      by_cases hb0 : b = 10
      · have hbb : ((b.toNat : Int) == 10) = true := by rw [hb0]; rfl
        clear hb0 htk hnk
        go_wp2_with fail
        go_ret
        exact ⟨rfl, Hc2.out⟩
      · have hbb : ((b.toNat : Int) == 10) = false := by
          rw [beq_eq_false_iff_ne]; intro e; apply hb0; exact UInt8.toNat_inj.1 (by have : (10 : UInt8).toNat = 10 := rfl; omega)
        have Hnk := Lib.hid (show (10 : UInt8) ∉ note.take (k + 1) by rw [htk]; simp only [List.mem_append, List.mem_singleton, not_or]; exact ⟨hnk, fun e => hb0 e.symm⟩)
        clear hb0 htk hnk
        go_wp2_with fail
        go_roundw
        case rel => exact ⟨k + 1, by omega, by go_num, Hnk.out, by simp⟩
        case measure => simp [intOf]; omega
    · obtain rfl : k = note.length := by omega
      rw [List.take_length] at hnk
      have Hnn := Lib.hid hnk
      clear hnk hlt
      go_wp2_with fail
      go_loopw [8, 9, 51] (fun o p i wr => ∃ (k : Nat) (S T : List UInt8), k ≤ la ∧ i = .int .i64 k ∧ o = .string (tx S) ∧ p = .string (tx T) ∧ NoteT ls a note k S T ∧ w2 = wr) (fun _ _ i _ => la - (intOf i).toNat)
      case atStart => exact ⟨0, [], [], Nat.zero_le _, rfl, rfl, rfl, NoteT.zero _ _ _, rfl⟩
      case round =>
        obtain ⟨k, S, T, hk, rfl, rfl, rfl, hnt, rfl⟩ := hrel
        have hzS : (tx S).size = S.length := tx_size S
        have hzT : (tx T).size = T.length := tx_size T
        have hSl := hnt.sl
        have hTl : T.length ≤ 20000 := by have := hnt.tl; split at this <;> omega
        have HNT := Lib.hid hnt
        clear hnt
        by_cases hlt : k < la
        · have hkl : k < ls.length := by rw [← Hla.out]; exact hlt
          obtain ⟨rfl, -⟩ := Ha3.out (by rintro rfl; simp at hkl)
          have hc0 := Hc2.out.keep (Hat.out k hkl)
          have htl := Htb.out _ (List.getElem_mem hkl)
          have Htake := Lib.hid (take_at hkl)
          generalize ls[k] = t at *
          have hzt : (tx t).size = t.length := tx_size t
          go_wp2_with fail
          go_loopw [12] (fun o wr => ∃ j : Nat, j ≤ t.length ∧ o = .int .i64 j ∧ (10 : UInt8) ∉ t.take j ∧ w2 = wr) (fun o _ => t.length - (intOf o).toNat)
          case atStart => exact ⟨0, Nat.zero_le _, rfl, by simp, rfl⟩
          case round =>
            obtain ⟨j, hj, rfl, hnk, rfl⟩ := hrel
            by_cases hjt : j < t.length
            · have hkk : j < (tx t).size := by omega
              obtain ⟨b, hb⟩ : ∃ b, (tx t)[j] = b := ⟨_, rfl⟩
              have htk : t.take (j + 1) = t.take j ++ [b] := by rw [← hb]; exact take_at hjt
              by_cases hb0 : b = 10
              · have hbb : ((b.toNat : Int) == 10) = true := by rw [hb0]; rfl
                clear hb0 htk hnk
                go_wp2_with fail
                go_ret
                exact ⟨rfl, Hc2.out⟩
              · have hbb : ((b.toNat : Int) == 10) = false := by
                  rw [beq_eq_false_iff_ne]; intro e; apply hb0; exact UInt8.toNat_inj.1 (by have : (10 : UInt8).toNat = 10 := rfl; omega)
                have Hnk := Lib.hid (show (10 : UInt8) ∉ t.take (j + 1) by rw [htk]; simp only [List.mem_append, List.mem_singleton, not_or]; exact ⟨hnk, fun e => hb0 e.symm⟩)
                clear hb0 htk hnk
                go_wp2_with fail
                go_roundw
                case rel => exact ⟨j + 1, by omega, by go_num, Hnk.out, by simp⟩
                case measure => simp [intOf]; omega
            · obtain rfl : j = t.length := by omega
              rw [List.take_length] at hnk
              have Hfr := Lib.hid hnk
              clear hnk hjt
              by_cases h16 : (16384 : Int) < (S.length : Int) + (t.length : Int)
              · go_wp2_with fail
                go_ret
                exact ⟨rfl, Hc2.out⟩
              have hsum : S.length + t.length ≤ 16384 := by omega
              have qL : IntKind.i64.wrap ((la : Int) - 1) = (la : Int) - 1 := by rw [IntKind.wrap_i64]; omega
              by_cases k0 : 0 < k
              · skip
                have k0' : (0 : Int) < (k : Int) := by omega
                by_cases ke : k = a
                · skip
                  obtain rfl : a = k := ke.symm
                  clear ke
                  by_cases kl : a + 1 < la
                  · skip
                    have kl' : (a : Int) < (la : Int) - 1 := by omega
                    obtain ⟨S1, eS1, cS1, zS1, lS1⟩ := glue S [10]
                    replace cS1 : tx S ++ ⟨#[10]⟩ = tx S1 := cS1
                    replace lS1 : S1.length = S.length + 1 := lS1
                    have ES1 := Lib.hid eS1
                    clear eS1
                    obtain ⟨S2, eS2, cS2, zS2, lS2⟩ := glue S1 t
                    have ES2 := Lib.hid eS2
                    clear eS2
                    obtain ⟨T1, eT1, cT1, zT1, lT1⟩ := glue T [59]
                    replace cT1 : tx T ++ ⟨#[59]⟩ = tx T1 := cT1
                    replace lT1 : T1.length = T.length + 1 := lT1
                    have ET1 := Lib.hid eT1
                    clear eT1
                    obtain ⟨T2, eT2, cT2, zT2, lT2⟩ := glue T1 note
                    have ET2 := Lib.hid eT2
                    clear eT2
                    obtain ⟨T3, eT3, cT3, zT3, lT3⟩ := glue T2 [10, 10]
                    replace cT3 : tx T2 ++ ⟨#[10, 10]⟩ = tx T3 := cT3
                    replace lT3 : T3.length = T2.length + 2 := lT3
                    have ET3 := Lib.hid eT3
                    clear eT3
                    obtain ⟨T4, eT4, cT4, zT4, lT4⟩ := glue T3 t
                    have ET4 := Lib.hid eT4
                    clear eT4
                    obtain ⟨T5, eT5, cT5, zT5, lT5⟩ := glue T4 [10]
                    replace cT5 : tx T4 ++ ⟨#[10]⟩ = tx T5 := cT5
                    replace lT5 : T5.length = T4.length + 1 := lT5
                    have ET5 := Lib.hid eT5
                    clear eT5
                    have HN2 := Lib.hid (show NoteT ls a note (a + 1) (S2) (T5) from by
                      have := HNT.out.step (by rw [← Hla.out]; exact hlt) t Htake.out Hfr.out hsum
                      rw [← Hla.out] at this
                      have e1 : S2 = (if 0 < a then S ++ [10] else S) ++ t := by
                        (first | rw [if_pos k0] | rw [if_neg k0])
                        rw [ES2.out, ES1.out]
                      have e2 : (T5) = (if a = a then T ++ [59] ++ note ++ [10, 10] else T) ++ t ++ (if a + 1 < la then [10] else []) := by
                        (first | rw [if_pos rfl] | rw [if_neg ke])
                        (first | rw [if_pos kl] | rw [if_neg kl, List.append_nil])
                        rw [ET5.out, ET4.out, ET3.out, ET2.out, ET1.out]
                      rw [e1, e2]
                      exact this)
                    go_wp2_with fail
                    refine ⟨⟨_, .string (tx S2), .string (tx T5), _, _, _, .int .i64 (((a : Nat) : Int) + 1), ⟨a + 1, by omega, by go_num, _, rfl, _, rfl, HN2.out⟩, rfl, rfl, rfl, rfl, rfl, rfl, rfl⟩, ?_⟩
                    simp [intOf]; omega
                  · skip
                    have kl' : ¬ ((a : Int) < (la : Int) - 1) := by omega
                    obtain ⟨S1, eS1, cS1, zS1, lS1⟩ := glue S [10]
                    replace cS1 : tx S ++ ⟨#[10]⟩ = tx S1 := cS1
                    replace lS1 : S1.length = S.length + 1 := lS1
                    have ES1 := Lib.hid eS1
                    clear eS1
                    obtain ⟨S2, eS2, cS2, zS2, lS2⟩ := glue S1 t
                    have ES2 := Lib.hid eS2
                    clear eS2
                    obtain ⟨T1, eT1, cT1, zT1, lT1⟩ := glue T [59]
                    replace cT1 : tx T ++ ⟨#[59]⟩ = tx T1 := cT1
                    replace lT1 : T1.length = T.length + 1 := lT1
                    have ET1 := Lib.hid eT1
                    clear eT1
                    obtain ⟨T2, eT2, cT2, zT2, lT2⟩ := glue T1 note
                    have ET2 := Lib.hid eT2
                    clear eT2
                    obtain ⟨T3, eT3, cT3, zT3, lT3⟩ := glue T2 [10, 10]
                    replace cT3 : tx T2 ++ ⟨#[10, 10]⟩ = tx T3 := cT3
                    replace lT3 : T3.length = T2.length + 2 := lT3
                    have ET3 := Lib.hid eT3
                    clear eT3
                    obtain ⟨T4, eT4, cT4, zT4, lT4⟩ := glue T3 t
                    have ET4 := Lib.hid eT4
                    clear eT4
                    have HN2 := Lib.hid (show NoteT ls a note (a + 1) (S2) (T4) from by
                      have := HNT.out.step (by rw [← Hla.out]; exact hlt) t Htake.out Hfr.out hsum
                      rw [← Hla.out] at this
                      have e1 : S2 = (if 0 < a then S ++ [10] else S) ++ t := by
                        (first | rw [if_pos k0] | rw [if_neg k0])
                        rw [ES2.out, ES1.out]
                      have e2 : (T4) = (if a = a then T ++ [59] ++ note ++ [10, 10] else T) ++ t ++ (if a + 1 < la then [10] else []) := by
                        (first | rw [if_pos rfl] | rw [if_neg ke])
                        (first | rw [if_pos kl] | rw [if_neg kl, List.append_nil])
                        rw [ET4.out, ET3.out, ET2.out, ET1.out]
                      rw [e1, e2]
                      exact this)
                    go_wp2_with fail
                    refine ⟨⟨_, .string (tx S2), .string (tx T4), _, _, _, .int .i64 (((a : Nat) : Int) + 1), ⟨a + 1, by omega, by go_num, _, rfl, _, rfl, HN2.out⟩, rfl, rfl, rfl, rfl, rfl, rfl, rfl⟩, ?_⟩
                    simp [intOf]; omega
                · skip
                  have ke' : ((k : Int) == (a : Int)) = false := by simp; omega
                  by_cases kl : k + 1 < la
                  · skip
                    have kl' : (k : Int) < (la : Int) - 1 := by omega
                    obtain ⟨S1, eS1, cS1, zS1, lS1⟩ := glue S [10]
                    replace cS1 : tx S ++ ⟨#[10]⟩ = tx S1 := cS1
                    replace lS1 : S1.length = S.length + 1 := lS1
                    have ES1 := Lib.hid eS1
                    clear eS1
                    obtain ⟨S2, eS2, cS2, zS2, lS2⟩ := glue S1 t
                    have ES2 := Lib.hid eS2
                    clear eS2
                    obtain ⟨T4, eT4, cT4, zT4, lT4⟩ := glue T t
                    have ET4 := Lib.hid eT4
                    clear eT4
                    obtain ⟨T5, eT5, cT5, zT5, lT5⟩ := glue T4 [10]
                    replace cT5 : tx T4 ++ ⟨#[10]⟩ = tx T5 := cT5
                    replace lT5 : T5.length = T4.length + 1 := lT5
                    have ET5 := Lib.hid eT5
                    clear eT5
                    have HN2 := Lib.hid (show NoteT ls a note (k + 1) (S2) (T5) from by
                      have := HNT.out.step (by rw [← Hla.out]; exact hlt) t Htake.out Hfr.out hsum
                      rw [← Hla.out] at this
                      have e1 : S2 = (if 0 < k then S ++ [10] else S) ++ t := by
                        (first | rw [if_pos k0] | rw [if_neg k0])
                        rw [ES2.out, ES1.out]
                      have e2 : (T5) = (if k = a then T ++ [59] ++ note ++ [10, 10] else T) ++ t ++ (if k + 1 < la then [10] else []) := by
                        (first | rw [if_pos rfl] | rw [if_neg ke])
                        (first | rw [if_pos kl] | rw [if_neg kl, List.append_nil])
                        rw [ET5.out, ET4.out]
                      rw [e1, e2]
                      exact this)
                    go_wp2_with fail
                    refine ⟨⟨_, .string (tx S2), .string (tx T5), _, _, _, .int .i64 (((k : Nat) : Int) + 1), ⟨k + 1, by omega, by go_num, _, rfl, _, rfl, HN2.out⟩, rfl, rfl, rfl, rfl, rfl, rfl, rfl⟩, ?_⟩
                    simp [intOf]; omega
                  · skip
                    have kl' : ¬ ((k : Int) < (la : Int) - 1) := by omega
                    obtain ⟨S1, eS1, cS1, zS1, lS1⟩ := glue S [10]
                    replace cS1 : tx S ++ ⟨#[10]⟩ = tx S1 := cS1
                    replace lS1 : S1.length = S.length + 1 := lS1
                    have ES1 := Lib.hid eS1
                    clear eS1
                    obtain ⟨S2, eS2, cS2, zS2, lS2⟩ := glue S1 t
                    have ES2 := Lib.hid eS2
                    clear eS2
                    obtain ⟨T4, eT4, cT4, zT4, lT4⟩ := glue T t
                    have ET4 := Lib.hid eT4
                    clear eT4
                    have HN2 := Lib.hid (show NoteT ls a note (k + 1) (S2) (T4) from by
                      have := HNT.out.step (by rw [← Hla.out]; exact hlt) t Htake.out Hfr.out hsum
                      rw [← Hla.out] at this
                      have e1 : S2 = (if 0 < k then S ++ [10] else S) ++ t := by
                        (first | rw [if_pos k0] | rw [if_neg k0])
                        rw [ES2.out, ES1.out]
                      have e2 : (T4) = (if k = a then T ++ [59] ++ note ++ [10, 10] else T) ++ t ++ (if k + 1 < la then [10] else []) := by
                        (first | rw [if_pos rfl] | rw [if_neg ke])
                        (first | rw [if_pos kl] | rw [if_neg kl, List.append_nil])
                        rw [ET4.out]
                      rw [e1, e2]
                      exact this)
                    go_wp2_with fail
                    refine ⟨⟨_, .string (tx S2), .string (tx T4), _, _, _, .int .i64 (((k : Nat) : Int) + 1), ⟨k + 1, by omega, by go_num, _, rfl, _, rfl, HN2.out⟩, rfl, rfl, rfl, rfl, rfl, rfl, rfl⟩, ?_⟩
                    simp [intOf]; omega
              · skip
                have k0' : ¬ ((0 : Int) < (k : Int)) := by omega
                by_cases ke : k = a
                · skip
                  obtain rfl : a = k := ke.symm
                  clear ke
                  by_cases kl : a + 1 < la
                  · skip
                    have kl' : (a : Int) < (la : Int) - 1 := by omega
                    obtain ⟨S2, eS2, cS2, zS2, lS2⟩ := glue S t
                    have ES2 := Lib.hid eS2
                    clear eS2
                    obtain ⟨T1, eT1, cT1, zT1, lT1⟩ := glue T [59]
                    replace cT1 : tx T ++ ⟨#[59]⟩ = tx T1 := cT1
                    replace lT1 : T1.length = T.length + 1 := lT1
                    have ET1 := Lib.hid eT1
                    clear eT1
                    obtain ⟨T2, eT2, cT2, zT2, lT2⟩ := glue T1 note
                    have ET2 := Lib.hid eT2
                    clear eT2
                    obtain ⟨T3, eT3, cT3, zT3, lT3⟩ := glue T2 [10, 10]
                    replace cT3 : tx T2 ++ ⟨#[10, 10]⟩ = tx T3 := cT3
                    replace lT3 : T3.length = T2.length + 2 := lT3
                    have ET3 := Lib.hid eT3
                    clear eT3
                    obtain ⟨T4, eT4, cT4, zT4, lT4⟩ := glue T3 t
                    have ET4 := Lib.hid eT4
                    clear eT4
                    obtain ⟨T5, eT5, cT5, zT5, lT5⟩ := glue T4 [10]
                    replace cT5 : tx T4 ++ ⟨#[10]⟩ = tx T5 := cT5
                    replace lT5 : T5.length = T4.length + 1 := lT5
                    have ET5 := Lib.hid eT5
                    clear eT5
                    have HN2 := Lib.hid (show NoteT ls a note (a + 1) (S2) (T5) from by
                      have := HNT.out.step (by rw [← Hla.out]; exact hlt) t Htake.out Hfr.out hsum
                      rw [← Hla.out] at this
                      have e1 : S2 = (if 0 < a then S ++ [10] else S) ++ t := by
                        (first | rw [if_pos k0] | rw [if_neg k0])
                        rw [ES2.out]
                      have e2 : (T5) = (if a = a then T ++ [59] ++ note ++ [10, 10] else T) ++ t ++ (if a + 1 < la then [10] else []) := by
                        (first | rw [if_pos rfl] | rw [if_neg ke])
                        (first | rw [if_pos kl] | rw [if_neg kl, List.append_nil])
                        rw [ET5.out, ET4.out, ET3.out, ET2.out, ET1.out]
                      rw [e1, e2]
                      exact this)
                    go_wp2_with fail
                    refine ⟨⟨_, .string (tx S2), .string (tx T5), _, _, _, .int .i64 (((a : Nat) : Int) + 1), ⟨a + 1, by omega, by go_num, _, rfl, _, rfl, HN2.out⟩, rfl, rfl, rfl, rfl, rfl, rfl, rfl⟩, ?_⟩
                    simp [intOf]; omega
                  · skip
                    have kl' : ¬ ((a : Int) < (la : Int) - 1) := by omega
                    obtain ⟨S2, eS2, cS2, zS2, lS2⟩ := glue S t
                    have ES2 := Lib.hid eS2
                    clear eS2
                    obtain ⟨T1, eT1, cT1, zT1, lT1⟩ := glue T [59]
                    replace cT1 : tx T ++ ⟨#[59]⟩ = tx T1 := cT1
                    replace lT1 : T1.length = T.length + 1 := lT1
                    have ET1 := Lib.hid eT1
                    clear eT1
                    obtain ⟨T2, eT2, cT2, zT2, lT2⟩ := glue T1 note
                    have ET2 := Lib.hid eT2
                    clear eT2
                    obtain ⟨T3, eT3, cT3, zT3, lT3⟩ := glue T2 [10, 10]
                    replace cT3 : tx T2 ++ ⟨#[10, 10]⟩ = tx T3 := cT3
                    replace lT3 : T3.length = T2.length + 2 := lT3
                    have ET3 := Lib.hid eT3
                    clear eT3
                    obtain ⟨T4, eT4, cT4, zT4, lT4⟩ := glue T3 t
                    have ET4 := Lib.hid eT4
                    clear eT4
                    have HN2 := Lib.hid (show NoteT ls a note (a + 1) (S2) (T4) from by
                      have := HNT.out.step (by rw [← Hla.out]; exact hlt) t Htake.out Hfr.out hsum
                      rw [← Hla.out] at this
                      have e1 : S2 = (if 0 < a then S ++ [10] else S) ++ t := by
                        (first | rw [if_pos k0] | rw [if_neg k0])
                        rw [ES2.out]
                      have e2 : (T4) = (if a = a then T ++ [59] ++ note ++ [10, 10] else T) ++ t ++ (if a + 1 < la then [10] else []) := by
                        (first | rw [if_pos rfl] | rw [if_neg ke])
                        (first | rw [if_pos kl] | rw [if_neg kl, List.append_nil])
                        rw [ET4.out, ET3.out, ET2.out, ET1.out]
                      rw [e1, e2]
                      exact this)
                    go_wp2_with fail
                    refine ⟨⟨_, .string (tx S2), .string (tx T4), _, _, _, .int .i64 (((a : Nat) : Int) + 1), ⟨a + 1, by omega, by go_num, _, rfl, _, rfl, HN2.out⟩, rfl, rfl, rfl, rfl, rfl, rfl, rfl⟩, ?_⟩
                    simp [intOf]; omega
                · skip
                  have ke' : ((k : Int) == (a : Int)) = false := by simp; omega
                  by_cases kl : k + 1 < la
                  · skip
                    have kl' : (k : Int) < (la : Int) - 1 := by omega
                    obtain ⟨S2, eS2, cS2, zS2, lS2⟩ := glue S t
                    have ES2 := Lib.hid eS2
                    clear eS2
                    obtain ⟨T4, eT4, cT4, zT4, lT4⟩ := glue T t
                    have ET4 := Lib.hid eT4
                    clear eT4
                    obtain ⟨T5, eT5, cT5, zT5, lT5⟩ := glue T4 [10]
                    replace cT5 : tx T4 ++ ⟨#[10]⟩ = tx T5 := cT5
                    replace lT5 : T5.length = T4.length + 1 := lT5
                    have ET5 := Lib.hid eT5
                    clear eT5
                    have HN2 := Lib.hid (show NoteT ls a note (k + 1) (S2) (T5) from by
                      have := HNT.out.step (by rw [← Hla.out]; exact hlt) t Htake.out Hfr.out hsum
                      rw [← Hla.out] at this
                      have e1 : S2 = (if 0 < k then S ++ [10] else S) ++ t := by
                        (first | rw [if_pos k0] | rw [if_neg k0])
                        rw [ES2.out]
                      have e2 : (T5) = (if k = a then T ++ [59] ++ note ++ [10, 10] else T) ++ t ++ (if k + 1 < la then [10] else []) := by
                        (first | rw [if_pos rfl] | rw [if_neg ke])
                        (first | rw [if_pos kl] | rw [if_neg kl, List.append_nil])
                        rw [ET5.out, ET4.out]
                      rw [e1, e2]
                      exact this)
                    go_wp2_with fail
                    refine ⟨⟨_, .string (tx S2), .string (tx T5), _, _, _, .int .i64 (((k : Nat) : Int) + 1), ⟨k + 1, by omega, by go_num, _, rfl, _, rfl, HN2.out⟩, rfl, rfl, rfl, rfl, rfl, rfl, rfl⟩, ?_⟩
                    simp [intOf]; omega
                  · skip
                    have kl' : ¬ ((k : Int) < (la : Int) - 1) := by omega
                    obtain ⟨S2, eS2, cS2, zS2, lS2⟩ := glue S t
                    have ES2 := Lib.hid eS2
                    clear eS2
                    obtain ⟨T4, eT4, cT4, zT4, lT4⟩ := glue T t
                    have ET4 := Lib.hid eT4
                    clear eT4
                    have HN2 := Lib.hid (show NoteT ls a note (k + 1) (S2) (T4) from by
                      have := HNT.out.step (by rw [← Hla.out]; exact hlt) t Htake.out Hfr.out hsum
                      rw [← Hla.out] at this
                      have e1 : S2 = (if 0 < k then S ++ [10] else S) ++ t := by
                        (first | rw [if_pos k0] | rw [if_neg k0])
                        rw [ES2.out]
                      have e2 : (T4) = (if k = a then T ++ [59] ++ note ++ [10, 10] else T) ++ t ++ (if k + 1 < la then [10] else []) := by
                        (first | rw [if_pos rfl] | rw [if_neg ke])
                        (first | rw [if_pos kl] | rw [if_neg kl, List.append_nil])
                        rw [ET4.out]
                      rw [e1, e2]
                      exact this)
                    go_wp2_with fail
                    refine ⟨⟨_, .string (tx S2), .string (tx T4), _, _, _, .int .i64 (((k : Nat) : Int) + 1), ⟨k + 1, by omega, by go_num, _, rfl, _, rfl, HN2.out⟩, rfl, rfl, rfl, rfl, rfl, rfl, rfl⟩, ?_⟩
                    simp [intOf]; omega
        · obtain rfl : la = k := by omega
          have HB := Lib.hid (show asmF T = ((asmF S).1, if a < la then laterN a (asmF S).2.1 else (asmF S).2.1, (asmF S).2.2) by
            have := HNT.out
            rw [Hla.out] at this ⊢
            exact this.both (by rw [← Hla.out]; omega) Hnn.out (by omega))
          have HA := Lib.hid (fun t w (h : Chg NoB W w) => asm_any W.heap.size t w (Hav.out.keep h) Hml.out)
          have hpl := asmF_place S
          have Hal := Lib.hid (asmF_len S)
          have Haw := Lib.hid (asmF_wf S)
          clear HNT Hnn hlt
          go_wp2_with fail
          refine (HA.out S _ Hc2.out).mono ?_
          rintro e w8 ⟨hc8, v8, rfl, hrow8⟩
          have Hc8 := Lib.hid (Hc2.out.trans hc8)
          obtain ⟨q8, c8, rfl, -, -⟩ := row_shape hrow8
          have Hrow8 := Lib.hid hrow8
          clear hc8 hrow8
          go_wp2_with fail
          refine (HA.out T _ Hc8.out).mono ?_
          rintro e w9 ⟨hc9, v9, rfl, hrow9⟩
          have Hc9 := Lib.hid (Hc8.out.trans hc9)
          obtain ⟨q9, c9, rfl, -, -⟩ := row_shape hrow9
          have Hrow9 := Lib.hid hrow9
          have Hrow8' := Lib.hid (ownsRow_chg Hrow8.out hc9 fun _ _ => id)
          clear hc9 hrow9 HA
          rw [HB.out] at Hrow9 ⊢
          simp only at Hrow9 ⊢
          clear HB
          generalize asmF S = r1 at *
          obtain ⟨ps, x, er⟩ := r1
          simp only at hpl Hal Haw Hrow8 Hrow8' Hrow9 ⊢
          obtain ⟨lp, hlp⟩ : ∃ n, n = ps.length := ⟨_, rfl⟩
          have hwf : ∀ i (hi : i < ps.length), ps[i].wf := fun i hi => Haw.out _ (List.getElem_mem hi)
          obtain ⟨kx, hx⟩ := InsS.of_row Hrow8'.out hwf
          obtain ⟨ky, hy⟩ := InsS.of_row Hrow9.out hwf
          have HSm := Lib.hid (isame_any ps ps _ _ _ _ kx 0 ky 0 w9 hx hy (by have := Hal.out; omega))
          rw [← hlp] at HSm ⊢
          clear hwf hx hy hlp
          by_cases k1 : (a : Int) < x
          · by_cases k2 : a < la
            · have k2' : (a : Int) < (la : Int) := by omega
              have e1 : (if a < la then laterN a x else x) = x + 2 := by rw [if_pos k2]; unfold laterN; rw [if_pos k1]
              rw [e1]
              clear e1
              go_wp2_with fail
              refine HSm.out.mono ?_
              rintro e wD ⟨⟨bb, rfl, hbb⟩, hcD⟩
              have hbt : bb = true := hbb.2 rfl
              rw [hbt]
              have HcD := Lib.hid (Hc9.out.trans hcD)
              clear hcD hbb hbt
              go_wp2_with fail
              go_ret
              exact ⟨rfl, HcD.out⟩
            · have k2' : ¬ ((a : Int) < (la : Int)) := by omega
              have e1 : (if a < la then laterN a x else x) = x := by rw [if_neg k2]
              rw [e1]
              clear e1
              go_wp2_with fail
              refine HSm.out.mono ?_
              rintro e wD ⟨⟨bb, rfl, hbb⟩, hcD⟩
              have hbt : bb = true := hbb.2 rfl
              rw [hbt]
              have HcD := Lib.hid (Hc9.out.trans hcD)
              clear hcD hbb hbt
              go_wp2_with fail
              go_ret
              exact ⟨rfl, HcD.out⟩
          · have e1 : (if a < la then laterN a x else x) = x := by unfold laterN; rw [if_neg k1]; split <;> rfl
            rw [e1]
            clear e1
            go_wp2_with fail
            refine HSm.out.mono ?_
            rintro e wD ⟨⟨bb, rfl, hbb⟩, hcD⟩
            have hbt : bb = true := hbb.2 rfl
            rw [hbt]
            have HcD := Lib.hid (Hc9.out.trans hcD)
            clear hcD hbb hbt
            go_wp2_with fail
            go_ret
            exact ⟨rfl, HcD.out⟩
/-FRAME-/
set_option maxRecDepth 100000 in
theorem asmNotes_lifted (os : Os) (started : os.Started) (H : Type) (enc : TypeId × Value → H) :
    ReturnsInHanded {} Tryd.checked os 5 .any (fun w args => (Rows.asmNotesSpec.pre enc Tryd.prog Tryd.f5 [] false w args ∧ laidMetH Tryd.prog Rows.asmNotesRow.laid w) ∧ sizedMet enc Tryd.prog Tryd.f5 (OpenSpec.ofChange Rows.asmNotesSpec) false w args)
      (Rows.asmNotesSpec.post enc Tryd.prog Tryd.f5 false true false false) := by
  refine returns_both (C := Tryd.checked) (X := fun w _ => laidMetH Tryd.prog Rows.asmNotesRow.laid w) (fun _ _ _ hh h => h.of_heap hh) Tryd.own started (by kernel_rfl) Tryd.func5
    (ChangeSpec.witness_shaped (enc := enc) (C := Tryd.checked) (os := os) (X := fun w _ => laidMetH Tryd.prog Rows.asmNotesRow.laid w) false (World.laidAll Tryd.prog os Rows.asmNotesRow.laid) #[.slice none 0 0, .int .i64 0, .string ByteArray.empty] 8 (World.laidAll_os _ _ _)
      (World.shaped_of_ZipB (by kernel_rfl) (by kernel_rfl)) (by kernel_rfl) (by kernel_rfl) (by kernel_rfl)
      (by rw [MakeChecks.laidMetH_plain _ _ _ (by kernel_rfl)]; exact laidMet_laidAll _ (by kernel_rfl) (by kernel_rfl))) ?_
  intro W base args ds gs before hval0 hW _ hsz hL hsh _
  have hval : ∀ (j : Nat) t v, Tryd.f5.params[j]? = some t → args[j]? = some v → Value.okWide Tryd.prog W .any base t v := hval0
  have hW' := hW
  obtain ⟨p, q, hA0, hV, rfl, _, _⟩ := hW
  have hA : DataW.TrodAll enc Tryd.prog W 0 (fun _ => true) true Tryd.f5.params.toList args.toList ds p := hA0
  have hsz1 : (DataW.weightsEach Tryd.prog (Tryd.f5.params.toList ++ Rows.asmNotesSpec.plain.varTypes Tryd.prog) (ds ++ gs)).all (· ≤ reachBytes) = true := hsz
  rw [Tryd.params5] at hA hval hsz1
  obtain ⟨v0, v1, v2, d0, d1, d2, p0, p1, p2, rfl, rfl, rfl, h0, h1, h2⟩ := trodAll_three hA
  obtain ⟨rfl, rfl⟩ := trodVars_none hV
  obtain ⟨l0, kb0, ko0, hn0, hr0⟩ := open_texts (hval 0 32 v0 rfl rfl) h0 (fun m hm => of_decide_eq_true (List.all_eq_true.1 hsz1 m (DataW.weights_mem_each (j := 0) (t := 32) (d := d0) rfl rfl m hm)))
  obtain ⟨x1, rfl, rfl, rfl, wx1⟩ := open_int Tryd.underlying3 (hval 1 3 v1 rfl rfl) h1
  obtain ⟨x2, rfl, rfl, rfl, wx2⟩ := open_string Tryd.underlying9 (hval 2 9 v2 rfl rfl) h2
  simp only [List.append_nil] at hW'
  rw [MakeChecks.laidMetH_plain _ _ _ (by kernel_rfl)] at hL
  obtain ⟨hlb, hwd⟩ := lb8_of hL hsh
  have hml := ml_lt hsh
  clear hA0 hval0
  refine (asmNotes_all l0 _ kb0 ko0 x1 x2 W hn0 hr0 wx1 wx2 hlb hwd hml).mono fun e W' ⟨he, hb⟩ => ?_
  subst he
  exact ⟨_, rfl, _, _, _, [], _, [], hW', trodAll_mk1 (shut_bool Tryd.underlying4 _), (trodAll_cons_mk (texts_stay h0 hb.below) (trodAll_cons_mk (shut_int Tryd.underlying3 wx1) (trodAll_cons_mk (shut_string Tryd.underlying9 wx2) trodAll_mk0))), rfl, hb.below.frame _, fun h => by cases h⟩
theorem asmNotes_holds : Rows.AsmNotesSaid :=
  OpenClaim.holds_of_wide 5 Tryd.f5 rfl rfl rfl rfl rfl rfl rfl ⟨rfl, rfl, rfl, rfl, rfl⟩ rfl rfl rfl rfl rfl (by kernel_rfl) Tryd.func5 (by kernel_rfl)
    (of_decide_eq_true (by kernel_rfl)) (by unfold Func.isWrapper; first | (rw [if_pos (by decide +kernel)]; kernel_rfl) | (rw [if_neg (by decide +kernel)]; exact ⟨rfl, rfl⟩))
    (fun os started H enc _ => asmNotes_lifted os started H enc)
theorem asmNotes_card : Rows.AsmNotesCardSaid :=
  Claim7.holds_tied_plain_at .later [] [.data, .data, .data, .data, .sentinel, .sentinel, .widerDeep, .pinned] true (true, "aa88663d2f6238ae8a16603652b38a6635f2e0c3772bf95b981f2b479d7df801") true asmNotes_holds (fun _ h => by cases h) (by kernel_rfl) (fun _ h => by cases h) asmNotes_row_tie rfl ⟨rfl, rfl⟩ (by kernel_rfl) rfl
    (fun f fn hf hfn => by
      obtain rfl : f = 5 := Option.some.inj ((show Tryd.prog.funcNamed "sapling/saplinglaw09.AsmNotes" = some 5 by kernel_rfl).symm.trans hf) |>.symm
      obtain rfl : fn = Tryd.f5 := (Option.some.inj (Tryd.func5.symm.trans hfn)).symm
      exact ⟨by kernel_rfl, fun j t ht => by
        rw [Tryd.params5] at ht
        have hm : t ∈ [32, 3, 9] := by simpa using Array.mem_of_getElem? ht
        have hall : ([32, 3, 9].all fun u => !Tryd.prog.wantsStandIn u) = true := by kernel_rfl
        exact (show Tryd.prog.wantsStandIn t = false by simpa using List.all_eq_true.1 hall t hm)⟩)
    (by kernel_rfl)
#print axioms asmNotes_card
end Go.Proofs.YtaihgciokfkonaaDoor
