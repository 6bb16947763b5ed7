/- The contracts of Parse, of the program and of the document. Condition: a string's length fits an int. -/
import Derived.Test.YtnipiphhkcafhaaDoorMixParseMath
namespace Go.Proofs.YtnipiphhkcafhaaDoor.Mix
set_option linter.unusedVariables false
open Go.ChangeShapes Go.WideShapes Go.ChangeAt Go.RowKit

theorem run_ibs (s : ByteArray) (c : Int) (w : World) :
    (callFunc 83 #[.string s, .int .u8 c]).run Tryd.prog w = .ok (.value (.int .i64 (Lib.indexByte s.data.toList c.toNat.toUInt8))) w := by
  rw [run_callFunc_extern Tryd.func83 (by kernel_rfl) (by kernel_rfl) (by kernel_rfl) (e := Extern.BytealgIndexByte.indexByte) (by kernel_rfl), Lib.run_indexByteString]
  rfl
set_option maxHeartbeats 400000 in
theorem sl_any (s : ByteArray) (c : Int) (w : World) :
    Calls Tryd.prog 73 #[.string s, .int .u8 c] w fun e w' => e = .returned (.int .i64 (Lib.indexByte s.data.toList c.toNat.toUInt8)) ∧ w = w' := by
  have hx := fun w => run_ibs s c w
  go_enter Tryd.func73, Tryd.ntmps73
  go_wp2
  go_ret
  exact ⟨rfl, rfl⟩
set_option maxHeartbeats 400000 in
theorem index_any (s : ByteArray) (c : Int) (w : World) :
    Calls Tryd.prog 62 #[.string s, .int .u8 c] w fun e w' => e = .returned (.int .i64 (Lib.indexByte s.data.toList c.toNat.toUInt8)) ∧ w = w' := by
  go_enter Tryd.func62, Tryd.ntmps62
  go_wp2_with fail
  refine (sl_any _ _ _).mono ?_
  rintro e w' ⟨rfl, rfl⟩
  go_wp2_with fail
  go_ret
  exact ⟨rfl, rfl⟩
theorem ret_i64 {a b : Int} (h : a = b) : Ending.returned (.int .i64 a) = .returned (.int .i64 b) := by rw [h]
theorem index_yes (c : UInt8) (w : World) (hc : digitN c < 32) :
    Calls Tryd.prog 62 #[.string { data := #[97, 98, 99, 100, 101, 102, 103, 104, 105, 106, 107, 108, 109, 110, 111, 112, 113, 114, 115, 116, 117, 118, 119, 120, 121, 122, 50, 51, 52, 53, 54, 55] }, .int .u8 (c.toNat : Int)] w fun e w' => e = .returned (.int .i64 (digitN c)) ∧ w = w' := by
  refine (index_any _ _ w).mono ?_
  rintro e w' ⟨rfl, rfl⟩
  have := index_digit c
  rw [if_pos hc] at this
  exact ⟨ret_i64 (by simpa [lettersL] using this), rfl⟩
theorem index_no (c : UInt8) (w : World) (hc : ¬ digitN c < 32) :
    Calls Tryd.prog 62 #[.string { data := #[97, 98, 99, 100, 101, 102, 103, 104, 105, 106, 107, 108, 109, 110, 111, 112, 113, 114, 115, 116, 117, 118, 119, 120, 121, 122, 50, 51, 52, 53, 54, 55] }, .int .u8 (c.toNat : Int)] w fun e w' => e = .returned (.int .i64 (-1)) ∧ w = w' := by
  refine (index_any _ _ w).mono ?_
  rintro e w' ⟨rfl, rfl⟩
  have := index_digit c
  rw [if_neg hc] at this
  exact ⟨ret_i64 (by simpa [lettersL] using this), rfl⟩
set_option maxHeartbeats 400000 in
theorem digit_any (c : UInt8) (w : World) :
    Calls Tryd.prog 63 #[.int .u8 (c.toNat : Int)] w fun e w' => e = .returned (.int .u64 (digitN c)) ∧ w = w' := by
  have hc := c.toNat_lt
  go_enter Tryd.func63, Tryd.ntmps63
  go_wp2
  all_goals go_ret
  all_goals refine ⟨ret_u64 ?_, rfl⟩
  all_goals unfold digitN
  · rw [if_pos ⟨by omega, by omega⟩]; omega
  · rw [if_neg (by omega), if_neg (by omega)]; rfl
  · rw [if_neg (by omega), if_pos ⟨by omega, by omega⟩]; omega
  · rw [if_neg (by omega), if_neg (by omega)]; rfl
  · rw [if_neg (by omega), if_neg (by omega)]; rfl
theorem text_nat (n : Int) (k : Nat) (w : World) (hn : n = (k : Int)) (hk : k < 18446744073709551616) :
    Calls Tryd.prog 21 #[.int .u64 n] w fun e w' => e = .returned (.string ⟨(textL k).toArray⟩) ∧ Grown w w' := by
  subst hn
  have h := text_any (BitVec.ofNat 64 k) w
  rw [BitVec.toNat_ofNat, Nat.mod_eq_of_lt (by omega)] at h
  exact h
theorem parse_bad (l : List UInt8) (h : ¬ goodL l) : parseV l = 0 ∧ parseB l = false := by
  unfold parseV parseB; rw [if_neg h]; exact ⟨rfl, by simpa using h⟩
theorem parse_good (l : List UInt8) (h : goodL l) : parseV l = valN l ∧ parseB l = true := by
  unfold parseV parseB; rw [if_pos h]; exact ⟨rfl, by simpa using h⟩
theorem ret_parse {a b : Int} {c d : Bool} (h : a = b) (g : c = d) : Ending.returned (.tuple #[.int .u64 a, .bool c]) = .returned (.tuple #[.int .u64 b, .bool d]) := by rw [h, g]
def DoneP (l : List UInt8) (w : World) (e : Ending) (w' : World) : Prop := e = .returned (.tuple #[.int .u64 (parseV l), .bool (parseB l)]) ∧ Grown w w'
theorem getElem_mem (s : ByteArray) (k : Nat) (h : k < s.size) : s[k] ∈ s.data.toList := by
  have : s[k] = s.data.toList[k]'(by rw [data_len]; exact h) := rfl
  rw [this]; exact List.getElem_mem _
theorem good_snoc (s : ByteArray) (k : Nat) (h : k < s.size) (hg : ∀ c ∈ s.data.toList.take k, digitN c < 32) (hd : digitN s[k] < 32) : ∀ c ∈ s.data.toList.take (k + 1), digitN c < 32 := by
  intro c hc
  rw [take_snoc s k h, List.mem_append] at hc
  rcases hc with hc | hc
  · exact hg c hc
  · rw [List.mem_singleton.1 hc]; exact hd
def valM (l : List UInt8) : Nat := valN l % 18446744073709551616
theorem valM_lt (l : List UInt8) : valM l < 18446744073709551616 := Nat.mod_lt _ (by omega)
set_option maxHeartbeats 1000000 in
theorem parse_any (s : ByteArray) (w : World) (hs : s.size ≤ maxLen) :
    Calls Tryd.prog 50 #[.string s] w (DoneP s.data.toList w) := by
  have hdl := data_len s
  have Hdl := Lib.hid hdl
  clear hdl
  unfold maxLen at hs
  by_cases h13 : s.size = 13
  · have H13 := Lib.hid h13
    have hb : ((s.size : Int) != 13) = false := by simp [h13]
    have hu : s.size ≤ 13 := by omega
    have hl : 13 ≤ s.size := by omega
    clear h13
    go_enter Tryd.func50, Tryd.ntmps50
    go_wp2
    go_loop [4, 5, 6, 10] (fun g i n j => ∃ k : Nat, k ≤ 13 ∧ j = .int .i64 k ∧ g = .int .u64 (valM (s.data.toList.take k)) ∧ ∀ c ∈ s.data.toList.take k, digitN c < 32) (fun _ _ _ j => 13 - (intOf j).toNat)
    case atStart => exact ⟨0, by omega, rfl, rfl, by simp⟩
    case round =>
      obtain ⟨k, hk, rfl, rfl, hg⟩ := hrel
      have Hg := Lib.hid hg
      clear hg
      by_cases hlt : k < 13
      · have hks : k < s.size := by omega
        by_cases hd : digitN s[k] < 32
        · go_wp2_with fail
          refine (index_yes _ _ hd).mono ?_
          rintro e w' ⟨rfl, rfl⟩
          go_wp2_with fail
          go_round
          case rel =>
            refine ⟨k + 1, by omega, by go_num, ?_, ?_⟩
            · rw [valM, or_val _ _ hd, valM, take_snoc s k hks, valN_snoc]
            · exact good_snoc s k hks Hg.out hd
          case measure => simp [intOf]; omega
        · go_wp2_with fail
          refine (index_no _ _ hd).mono ?_
          rintro e w' ⟨rfl, rfl⟩
          go_wp2_with fail
          go_ret2
          obtain ⟨p, q⟩ := parse_bad s.data.toList (fun h => hd (h.2.1 _ (getElem_mem s k hks)))
          exact ⟨ret_parse (by rw [p]; rfl) (by rw [q]), Grown.refl _⟩
      · obtain rfl : k = 13 := by omega
        have ht : s.data.toList.take 13 = s.data.toList := List.take_of_length_le (by rw [Hdl.out]; exact hu)
        have hiff := text_eq_iff s.data.toList (by rw [Hdl.out, H13.out]) (by rw [← ht]; exact Hg.out)
        have Ht := Lib.hid ht
        clear ht
        by_cases hgood : goodL s.data.toList
        · have hx : (!textL (valM (s.data.toList.take 13)) == s.toList) = false := by
            rw [Lib.toList_data, Ht.out, valM, hiff.2 hgood]; simp
          obtain ⟨p, q⟩ := parse_good s.data.toList hgood
          have hv : valM (s.data.toList.take 13) = parseV s.data.toList := by
            rw [Ht.out, p, valM, Nat.mod_eq_of_lt (good_bound _ hgood)]
          have Hv := Lib.hid hv
          have Hp := Lib.hid p
          have Hq := Lib.hid q
          clear hv p q hiff
          go_wp2_with fail
          refine (text_nat _ _ _ rfl (valM_lt _)).mono ?_
          rintro e w' ⟨rfl, hg⟩
          go_wp2_with fail
          go_ret2
          exact ⟨ret_parse (by rw [Hv.out]) (by rw [Hq.out]), hg⟩
        · have hx : (!textL (valM (s.data.toList.take 13)) == s.toList) = true := by
            rw [Lib.toList_data, Ht.out, valM]
            have : ¬ textL (valN s.data.toList % 18446744073709551616) = s.data.toList := fun h => hgood (hiff.1 h)
            simp [this]
          obtain ⟨p, q⟩ := parse_bad s.data.toList hgood
          have Hp := Lib.hid p
          have Hq := Lib.hid q
          clear p q hiff
          go_wp2_with fail
          refine (text_nat _ _ _ rfl (valM_lt _)).mono ?_
          rintro e w' ⟨rfl, hg⟩
          go_wp2_with fail
          go_ret2
          exact ⟨ret_parse (by rw [Hp.out]; rfl) (by rw [Hq.out]), hg⟩
  · have hb : ((s.size : Int) != 13) = true := by simp; omega
    go_enter Tryd.func50, Tryd.ntmps50
    go_wp2
    go_ret2
    obtain ⟨p, q⟩ := parse_bad s.data.toList (fun h => h13 (by rw [← Hdl.out]; exact h.1))
    exact ⟨ret_parse (by rw [p]; rfl) (by rw [q]), Grown.refl _⟩
theorem head_at (s : ByteArray) (h : 0 < s.size) : s.data.toList.headD 0 = s[0] := by
  have h' : 0 < s.data.toList.length := by rw [data_len]; exact h
  have : s[0] = s.data.toList[0]'h' := rfl
  rw [this]
  match s.data.toList, h' with
  | c :: r, _ => rfl
theorem take_head (s : ByteArray) (k : Nat) (h : 0 < s.size) : (s.data.toList.take (k + 1)).headD 0 = s[0] := by
  rw [← head_at s h]
  cases s.data.toList <;> rfl
def OkL (l : List UInt8) : Prop := (∀ c ∈ l, digitN c < 32) ∧ (l ≠ [] → digitN (l.headD 0) < 16)
theorem okL_bound (l : List UInt8) (hl : l.length ≤ 13) (h : OkL l) : valN l < 18446744073709551616 := by
  match l with
  | [] => simp [valN]
  | c :: r => exact take_bound c r hl h.1 (by simpa using h.2 (by simp))
theorem mul_val (v n : Nat) (h : v * 32 + n < 18446744073709551616) : IntKind.u64.wrap (IntKind.u64.wrap ((v : Int) * (32 : Int)) + (n : Int)) = ((v * 32 + n : Nat) : Int) := by
  rw [IntKind.wrap_u64, IntKind.wrap_u64]; omega
theorem okL_snoc (s : ByteArray) (k : Nat) (h : k < s.size) (hg : OkL (s.data.toList.take k)) (hd : digitN s[k] < 32) (h0 : k = 0 → digitN s[k] < 16) : OkL (s.data.toList.take (k + 1)) := by
  refine ⟨good_snoc s k h hg.1 hd, fun _ => ?_⟩
  rw [take_head s k (by omega)]
  by_cases hk : k = 0
  · subst hk; exact h0 rfl
  · have := hg.2 (List.ne_nil_of_length_pos (by rw [List.length_take, data_len]; omega))
    obtain ⟨m, rfl⟩ : ∃ m, k = m + 1 := ⟨k - 1, by omega⟩
    rwa [take_head s m (by omega)] at this
theorem okL_good (s : ByteArray) (h13 : s.size = 13) (hg : OkL (s.data.toList.take 13)) : goodL s.data.toList := by
  have ht : s.data.toList.take 13 = s.data.toList := List.take_of_length_le (by rw [data_len]; omega)
  rw [ht] at hg
  exact ⟨by rw [data_len, h13], hg.1, hg.2 (List.ne_nil_of_length_pos (by rw [data_len]; omega))⟩
theorem bad_byte (s : ByteArray) (k : Nat) (h : k < s.size) (hd : ¬ digitN s[k] < 32) : ¬ goodL s.data.toList := fun g => hd (g.2.1 _ (getElem_mem s k h))
theorem bad_first (s : ByteArray) (h : 0 < s.size) (hd : ¬ digitN s[0] < 16) : ¬ goodL s.data.toList := fun g => hd (by rw [← head_at s h]; exact g.2.2)
theorem bad_size (s : ByteArray) (h : s.size ≠ 13) : ¬ goodL s.data.toList := fun g => h (by rw [← data_len]; exact g.1)
theorem val_step (s : ByteArray) (k : Nat) (h : k < s.size) (hk : k < 13) (hg : OkL (s.data.toList.take (k + 1))) : IntKind.u64.wrap (IntKind.u64.wrap (((valN (s.data.toList.take k) : Nat) : Int) * (32 : Int)) + ((digitN s[k] : Nat) : Int)) = ((valN (s.data.toList.take (k + 1)) : Nat) : Int) := by
  have b := okL_bound _ (by rw [List.length_take]; omega) hg
  rw [take_snoc s k h, valN_snoc] at b ⊢
  exact mul_val _ _ b
set_option maxHeartbeats 1000000 in
theorem parseR_any (s : ByteArray) (w : World) (hs : s.size ≤ maxLen) :
    Calls Tryd.prog 53 #[.string s] w (DoneP s.data.toList w) := by
  unfold maxLen at hs
  go_enter Tryd.func53, Tryd.ntmps53
  go_wp2
  go_loop [4, 5, 6] (fun g j n => ∃ k : Nat, k ≤ 13 ∧ k ≤ s.size ∧ j = .int .i64 k ∧ g = .int .u64 (valN (s.data.toList.take k)) ∧ OkL (s.data.toList.take k)) (fun _ j _ => 13 - (intOf j).toNat)
  case atStart => exact ⟨0, by omega, by omega, rfl, rfl, ⟨by simp, by simp⟩⟩
  case round =>
    obtain ⟨k, hk, hk2, rfl, rfl, hg⟩ := hrel
    have Hg := Lib.hid hg
    clear hg
    by_cases hlt : k < s.size
    · by_cases hl13 : k < 13
      · by_cases hd : digitN s[k] < 32
        · by_cases hk0 : k = 0
          · subst hk0
            by_cases h16 : digitN s[0] < 16
            · go_wp2_with fail
              refine (digit_any _ _).mono ?_
              rintro e w' ⟨rfl, rfl⟩
              go_wp2_with fail
              go_round
              case rel =>
                have ho := okL_snoc s 0 hlt Hg.out hd (fun _ => h16)
                exact ⟨0 + 1, by omega, by omega, by go_num, by rw [← val_step s 0 hlt hl13 ho]; rfl, ho⟩
              case measure => simp [intOf]
            · go_wp2_with fail
              refine (digit_any _ _).mono ?_
              rintro e w' ⟨rfl, rfl⟩
              go_wp2_with fail
              go_ret2
              obtain ⟨p, q⟩ := parse_bad s.data.toList (bad_first s hlt h16)
              exact ⟨ret_parse (by rw [p]; rfl) (by rw [q]), Grown.refl _⟩
          · have hb0 : ((k : Int) == 0) = false := by simp; omega
            go_wp2_with fail
            refine (digit_any _ _).mono ?_
            rintro e w' ⟨rfl, rfl⟩
            go_wp2_with fail
            go_round
            case rel =>
              have ho := okL_snoc s k hlt Hg.out hd (fun h => absurd h hk0)
              exact ⟨k + 1, by omega, by omega, by go_num, by rw [val_step s k hlt hl13 ho], ho⟩
            case measure => simp [intOf]; omega
        · go_wp2_with fail
          refine (digit_any _ _).mono ?_
          rintro e w' ⟨rfl, rfl⟩
          go_wp2_with fail
          go_ret2
          obtain ⟨p, q⟩ := parse_bad s.data.toList (bad_byte s k hlt hd)
          exact ⟨ret_parse (by rw [p]; rfl) (by rw [q]), Grown.refl _⟩
      · obtain rfl : k = 13 := by omega
        by_cases h13 : s.size = 13
        · exact absurd h13 (by omega)
        · have hb : ((s.size : Int) != 13) = true := by simp; omega
          go_wp2
          go_ret2
          obtain ⟨p, q⟩ := parse_bad s.data.toList (bad_size s h13)
          exact ⟨ret_parse (by rw [p]; rfl) (by rw [q]), Grown.refl _⟩
    · by_cases h13 : s.size = 13
      · obtain rfl : k = 13 := by omega
        have hgood := okL_good s h13 Hg.out
        have hb : ((s.size : Int) != 13) = false := by simp [h13]
        have Hgood := Lib.hid hgood
        have H13 := Lib.hid h13
        clear hgood h13
        go_wp2
        go_ret2
        obtain ⟨p, q⟩ := parse_good s.data.toList Hgood.out
        refine ⟨ret_parse (by rw [p, List.take_of_length_le (by rw [data_len, H13.out]; omega)]) (by rw [q]), Grown.refl _⟩
      · have hb : ((s.size : Int) != 13) = true := by simp; omega
        go_wp2
        go_ret2
        obtain ⟨p, q⟩ := parse_bad s.data.toList (bad_size s h13)
        exact ⟨ret_parse (by rw [p]; rfl) (by rw [q]), Grown.refl _⟩
end Go.Proofs.YtnipiphhkcafhaaDoor.Mix
