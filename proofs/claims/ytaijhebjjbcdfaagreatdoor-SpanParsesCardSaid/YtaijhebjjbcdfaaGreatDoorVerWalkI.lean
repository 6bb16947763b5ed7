/- The contract of the document's reading of a part. No condition. -/
import Derived.Test.YtaijhebjjbcdfaaGreatDoorVerWalkH
namespace Go.Proofs.YtaijhebjjbcdfaaGreatDoor.Ver
set_option linter.unusedVariables false
open Go.ChangeShapes Go.WideShapes Go.ChangeAt Go.RowKit Go.Sort
def partI (l : List UInt8) : Int := if okP l then (val l : Int) else -1
def Pa (x : Int) (w : World) (e : Ending) (w' : World) : Prop := e = .returned (.int .i64 x) ∧ w' = w
theorem byte_ne {a b : UInt8} (h : ¬ a = b) : ((a.toNat : Int) == (b.toNat : Int)) = false := by
  rw [beq_eq_false_iff_ne]; intro e; exact h (UInt8.toNat_inj.1 (by omega))
theorem eq_mk (s : ByteArray) (l : List UInt8) (h : s.data.toList = l) : s = ⟨l.toArray⟩ := by
  apply ByteArray.ext; apply Array.ext'; exact h
theorem okP_head {s : ByteArray} (h0 : 0 < s.size) (hh : s[0] = 48) (hl : 1 < s.size) : okP s.data.toList = false := by
  cases h : okP s.data.toList with
  | false => rfl
  | true =>
    have := (okP_parts h).2.2.2 (by
      have e : s.data.toList[0]? = some s[0] := by rw [List.getElem?_eq_getElem (by simpa using h0)]; rfl
      rw [List.head?_eq_getElem?, e, hh])
    have hs : s.data.toList.length = s.size := by simp
    omega
theorem okP_bad {s : ByteArray} {k : Nat} (hk : k < s.size) (h : ¬ (48 ≤ s[k].toNat ∧ s[k].toNat ≤ 57)) : okP s.data.toList = false := by
  cases h' : okP s.data.toList with
  | false => rfl
  | true => exact absurd ((okP_parts h').2.2.1 s[k] (by
      have : s.data.toList[k]'(by simpa using hk) ∈ s.data.toList := List.getElem_mem _
      exact this)) h
theorem part_no {l : List UInt8} (h : okP l = false) : partI l = -1 := by unfold partI; rw [h]; rfl
theorem part_yes {l : List UInt8} (h : okP l = true) : partI l = val l := by unfold partI; rw [h]; rfl
def AllD (l : List UInt8) : Prop := ∀ b ∈ l, 48 ≤ b.toNat ∧ b.toNat ≤ 57
theorem val_lt (l : List UInt8) (h : AllD l) : val l < 10 ^ l.length := by
  refine rev_ind (p := fun l => AllD l → val l < 10 ^ l.length) (fun _ => by simp [val]) (fun l b ih hd => ?_) l h
  have h1 := ih (fun x hx => hd x (List.mem_append_left _ hx))
  have h2 := hd b (by simp)
  rw [val_snoc, List.length_append, List.length_singleton, Nat.pow_succ]
  omega
set_option maxHeartbeats 1000000 in
set_option maxRecDepth 10000 in
theorem part_loop (s : ByteArray) (w : World) (h0 : 0 < s.size) (h3 : s.size ≤ 3) (hz : ¬ (s[0] = 48 ∧ 1 < s.size)) : Calls Tryz.prog 69 #[.string s] w (Pa (partI s.data.toList) w) := by
  have hsl : s.data.toList.length = s.size := by simp
  have e1 : (s.toList == []) = false := by
    rw [Lib.toList_data]
    cases hl : s.data.toList with
    | nil => rw [hl] at hsl; simp at hsl; omega
    | cons a b => rfl
  have Hsl := Lib.hid hsl
  have Hok : AllD s.data.toList → okP s.data.toList = true := fun hd => by
    have hne : s.data.toList.isEmpty = false := by
      cases hl : s.data.toList with
      | nil => rw [hl] at hsl; simp at hsl; omega
      | cons a b => rfl
    have hall : s.data.toList.all (fun b => decide (48 ≤ b.toNat ∧ b.toNat ≤ 57)) = true := by
      rw [List.all_eq_true]; intro b hb; simpa using hd b hb
    have hlast : (decide (s.data.toList.head? ≠ some 48) || decide (s.data.toList.length = 1)) = true := by
      have e : s.data.toList.head? = some s[0] := by
        rw [List.head?_eq_getElem?, List.getElem?_eq_getElem (by simpa using h0)]; rfl
      rw [e, hsl]
      by_cases hh : s[0] = 48
      · have : s.size = 1 := by
          have : ¬ 1 < s.size := fun e => hz ⟨hh, e⟩
          omega
        rw [this]; simp
      · simp [hh]
    unfold okP
    rw [hne, hall, hlast, hsl, decide_eq_true h3]
    rfl
  have hcase : ¬ ((s[0]).toNat : Int) = 48 ∨ (((s[0]).toNat : Int) = 48 ∧ (s.size : Int) ≤ 1) := by
    by_cases hh : ((s[0]).toNat : Int) = 48
    · right
      refine ⟨hh, ?_⟩
      have h48 : s[0] = 48 := UInt8.toNat_inj.1 (by rw [show (48 : UInt8).toNat = 48 from rfl]; omega)
      have : ¬ 1 < s.size := fun e => hz ⟨h48, e⟩
      omega
    · exact .inl hh
  clear hz hsl
  rcases hcase with hh | ⟨hh, hs1⟩
  ·   go_enter Tryz.func69, Tryz.ntmps69
      go_wp2_with fail
      go_loop [3, 4] (fun n i => ∃ k : Nat, k ≤ s.size ∧ i = .int .i64 k ∧ n = .int .i64 (val (s.data.toList.take k) : Nat) ∧ AllD (s.data.toList.take k)) (fun _ i => s.size - (intOf i).toNat)
      case atStart => exact ⟨0, by omega, rfl, rfl, by intro b hb; simp at hb⟩
      case round =>
        obtain ⟨k, hk, rfl, rfl, hd⟩ := hrel
        have hvl := val_lt _ hd
        have hlk : (s.data.toList.take k).length = k := by rw [List.length_take, Hsl.out]; omega
        have hv : val (s.data.toList.take k) < 1000 := by
          rw [hlk] at hvl
          exact Nat.lt_of_lt_of_le hvl (show 10 ^ k ≤ 10 ^ 3 from Nat.pow_le_pow_right (by omega) (show k ≤ 3 by omega))
        have Hd := Lib.hid hd
        clear hd hvl hlk
        by_cases hlt : k < s.size
        · have hmore := Lib.hid (take_more s k hlt)
          by_cases hlo : (48 : Int) ≤ ((s[k]).toNat : Int)
          · by_cases hhi : ((s[k]).toNat : Int) ≤ 57
            · have hw8 : IntKind.u8.wrap (((s[k]).toNat : Int) - 48) = ((s[k]).toNat : Int) - 48 := by rw [IntKind.wrap_u8]; omega
              go_wp2_with fail
              go_round
              case rel =>
                refine ⟨k + 1, by omega, by go_num, ?_, ?_⟩
                · rw [hmore.out, val_snoc]
                  go_num
                · rw [hmore.out]
                  intro b hb
                  rcases List.mem_append.1 hb with hb | hb
                  · exact Hd.out b hb
                  · simp at hb; subst hb; omega
              case measure => simp [intOf]; omega
            · have hb := okP_bad hlt (by omega)
              go_wp2_with fail
              go_ret
              exact ⟨ret_i64 (part_no hb).symm, rfl⟩
          · have hb := okP_bad hlt (by omega)
            go_wp2_with fail
            go_ret
            exact ⟨ret_i64 (part_no hb).symm, rfl⟩
        · obtain rfl : k = s.size := by omega
          have hall : s.data.toList.take s.size = s.data.toList := List.take_of_length_le (by simp)
          rw [hall] at hv Hd ⊢
          have hok := Hok Hd.out
          have Hok2 := Lib.hid hok
          clear hok
          go_wp2_with fail
          go_ret
          exact ⟨ret_i64 (part_yes Hok2.out).symm, rfl⟩
  ·   go_enter Tryz.func69, Tryz.ntmps69
      go_wp2_with fail
      go_loop [3, 4] (fun n i => ∃ k : Nat, k ≤ s.size ∧ i = .int .i64 k ∧ n = .int .i64 (val (s.data.toList.take k) : Nat) ∧ AllD (s.data.toList.take k)) (fun _ i => s.size - (intOf i).toNat)
      case atStart => exact ⟨0, by omega, rfl, rfl, by intro b hb; simp at hb⟩
      case round =>
        obtain ⟨k, hk, rfl, rfl, hd⟩ := hrel
        have hvl := val_lt _ hd
        have hlk : (s.data.toList.take k).length = k := by rw [List.length_take, Hsl.out]; omega
        have hv : val (s.data.toList.take k) < 1000 := by
          rw [hlk] at hvl
          exact Nat.lt_of_lt_of_le hvl (show 10 ^ k ≤ 10 ^ 3 from Nat.pow_le_pow_right (by omega) (show k ≤ 3 by omega))
        have Hd := Lib.hid hd
        clear hd hvl hlk
        by_cases hlt : k < s.size
        · have hmore := Lib.hid (take_more s k hlt)
          by_cases hlo : (48 : Int) ≤ ((s[k]).toNat : Int)
          · by_cases hhi : ((s[k]).toNat : Int) ≤ 57
            · have hw8 : IntKind.u8.wrap (((s[k]).toNat : Int) - 48) = ((s[k]).toNat : Int) - 48 := by rw [IntKind.wrap_u8]; omega
              go_wp2_with fail
              go_round
              case rel =>
                refine ⟨k + 1, by omega, by go_num, ?_, ?_⟩
                · rw [hmore.out, val_snoc]
                  go_num
                · rw [hmore.out]
                  intro b hb
                  rcases List.mem_append.1 hb with hb | hb
                  · exact Hd.out b hb
                  · simp at hb; subst hb; omega
              case measure => simp [intOf]; omega
            · have hb := okP_bad hlt (by omega)
              go_wp2_with fail
              go_ret
              exact ⟨ret_i64 (part_no hb).symm, rfl⟩
          · have hb := okP_bad hlt (by omega)
            go_wp2_with fail
            go_ret
            exact ⟨ret_i64 (part_no hb).symm, rfl⟩
        · obtain rfl : k = s.size := by omega
          have hall : s.data.toList.take s.size = s.data.toList := List.take_of_length_le (by simp)
          rw [hall] at hv Hd ⊢
          have hok := Hok Hd.out
          have Hok2 := Lib.hid hok
          clear hok
          go_wp2_with fail
          go_ret
          exact ⟨ret_i64 (part_yes Hok2.out).symm, rfl⟩
theorem part_any (s : ByteArray) (w : World) : Calls Tryz.prog 69 #[.string s] w (Pa (partI s.data.toList) w) := by
  have hsl : s.data.toList.length = s.size := by simp
  by_cases h0 : 0 < s.size
  · by_cases h3 : s.size ≤ 3
    · by_cases hz : s[0] = 48 ∧ 1 < s.size
      · rw [part_no (okP_head h0 hz.1 hz.2)]
        have e1 : (s.toList == []) = false := by
          rw [Lib.toList_data]
          cases hl : s.data.toList with
          | nil => rw [hl] at hsl; simp at hsl; omega
          | cons a b => rfl
        have hh : ((s[0]).toNat : Int) = 48 := by rw [hz.1]; rfl
        have hs1 : (1 : Int) < (s.size : Int) := by omega
        clear hz hsl
        go_enter Tryz.func69, Tryz.ntmps69
        go_wp2_with fail
        go_ret
        exact ⟨rfl, rfl⟩
      · exact part_loop s w h0 h3 hz
    · have hb : okP s.data.toList = false := by
        cases h : okP s.data.toList with
        | false => rfl
        | true => have := (okP_parts h).2.1; omega
      rw [part_no hb]
      have e1 : (s.toList == []) = false := by
        rw [Lib.toList_data]
        cases hl : s.data.toList with
        | nil => rw [hl] at hsl; simp at hsl; omega
        | cons a b => rfl
      have hs1 : (3 : Int) < (s.size : Int) := by omega
      clear hsl hb
      go_enter Tryz.func69, Tryz.ntmps69
      go_wp2_with fail
      go_ret
      exact ⟨rfl, rfl⟩
  · have hnil : s.data.toList = [] := List.eq_nil_of_length_eq_zero (by omega)
    have hs := eq_mk s [] hnil
    subst hs
    rw [part_no (by rfl)]
    clear hnil hsl h0
    go_enter Tryz.func69, Tryz.ntmps69
    go_wp2_with fail
    go_ret
    exact ⟨rfl, rfl⟩
end Go.Proofs.YtaijhebjjbcdfaaGreatDoor.Ver
