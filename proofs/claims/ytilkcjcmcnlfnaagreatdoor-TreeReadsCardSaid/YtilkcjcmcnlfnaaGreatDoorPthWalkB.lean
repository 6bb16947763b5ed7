/- The contracts of the document's Name, of the search for a bad name, of Parts, Good and place. Condition: the text is at most 2^16 bytes. -/
import Derived.Test.YtilkcjcmcnlfnaaGreatDoorPthWalkA
import Derived.WalkSpells
namespace Go.Proofs.YtilkcjcmcnlfnaaGreatDoor.Pth
set_option linter.unusedVariables false
open Go.ChangeShapes Go.WideShapes Go.ChangeAt Go.RowKit
def NameTo (s : ByteArray) (k : Nat) : Prop := (s.data.toList.take k).all okc = true ∧ (0 < k → s.data.toList.head? ≠ some 46)
theorem take_more (s : ByteArray) (k : Nat) (h : k < s.size) : s.data.toList.take (k + 1) = s.data.toList.take k ++ [s[k]] := by
  rw [List.take_succ_eq_append_getElem (by simpa using h)]
  rfl
theorem nameTo_succ {s : ByteArray} {k : Nat} (h : k < s.size) (g : NameTo s k) (ho : okc s[k] = true) (h0 : k = 0 → (s[k]'h).toNat ≠ 46) : NameTo s (k + 1) := by
  refine ⟨?_, fun _ => ?_⟩
  · rw [take_more s k h, List.all_append, g.1]; simp [ho]
  · by_cases hk : k = 0
    · subst hk
      rw [list_pos h]
      simp
      intro e
      have := h0 rfl
      rw [e] at this
      exact this rfl
    · exact g.2 (by omega)
theorem byte_mem (s : ByteArray) (k : Nat) (h : k < s.size) : s[k]'h ∈ s.data.toList := by
  rw [Array.mem_toList_iff]; exact Array.getElem_mem _
theorem name_bad {s : ByteArray} {k : Nat} (h : k < s.size) (ho : okc s[k] = false) : nameL s.data.toList = false := by
  cases hn : nameL s.data.toList with
  | false => rfl
  | true =>
    have := (nameL_iff.1 hn).2.2.2 _ (byte_mem s k h)
    rw [ho] at this; cases this
theorem name_end {s : ByteArray} (g : NameTo s s.size) : nameL s.data.toList = (decide (1 ≤ s.size) && decide (s.size ≤ 32)) := by
  have hl : s.data.toList.length = s.size := by simp
  have hall : s.data.toList.all okc = true := by
    have := g.1
    rwa [List.take_of_length_le (by simp)] at this
  by_cases h0 : s.size = 0
  · rw [nameL_zero h0, h0]; rfl
  · have e : (s.data.toList.head? == some 46) = false := by rw [beq_eq_false_iff_ne]; exact g.2 (by omega)
    unfold nameL
    rw [e, hl, hall]
    simp
set_option maxHeartbeats 4000000 in
theorem nameR_any (s : ByteArray) (w : World) (hs : s.size ≤ 1048576) : Calls Tryz.prog 74 #[.string s] w (Bo (nameL s.data.toList) w) := by
  go_enter Tryz.func74, Tryz.ntmps74
  go_wp2
  go_loop [3] (fun i => ∃ k : Nat, k ≤ s.size ∧ i = .int .i64 k ∧ NameTo s k) (fun i => s.size - (intOf i).toNat)
  case atStart => exact ⟨0, Nat.zero_le _, rfl, ⟨rfl, fun h => absurd h (by omega)⟩⟩
  case round =>
    obtain ⟨k, hk, rfl, hn⟩ := hrel
    have Hn := Lib.hid hn
    clear hn
    by_cases hlt : k < s.size
    · obtain ⟨n, hb⟩ : ∃ n, (s[k]'hlt).toNat = n := ⟨_, rfl⟩
      have HB := Lib.hid hb
      by_cases ho : okR n = true
      · have ho' := okR_iff.1 ho
        by_cases hd : k = 0 ∧ n = 46
        · obtain ⟨rfl, rfl⟩ := hd
          have Hr := Lib.hid (nameL_dot hlt hb)
          clear ho ho'
          go_wp2
          go_ret
          exact ⟨ret_bool Hr.out.symm, Gr.refl _⟩
        · have Hs := Lib.hid (nameTo_succ hlt Hn.out (by show okR _ = true; rw [hb]; exact ho) (fun e => by rw [hb]; omega))
          clear ho
          rcases (show n = 45 ∨ (n = 46 ∧ 0 < k) ∨ (48 ≤ n ∧ n ≤ 57) ∨ n = 95 ∨ (97 ≤ n ∧ n ≤ 122) by omega) with h | ⟨h, h0⟩ | h | h | h
          · clear ho' hd
            subst h
            go_wp2
            go_round
            case rel => exact ⟨k + 1, by omega, by go_num, Hs.out⟩
            case measure => simp [intOf]; omega
          · clear ho' hd
            subst h
            have hk0 : ((k : Int) == 0) = false := by rw [beq_eq_false_iff_ne]; omega
            go_wp2
            go_round
            case rel => exact ⟨k + 1, by omega, by go_num, Hs.out⟩
            case measure => simp [intOf]; omega
          · clear ho' hd
            go_wp2
            go_round
            case rel => exact ⟨k + 1, by omega, by go_num, Hs.out⟩
            case measure => simp [intOf]; omega
          · clear ho' hd
            subst h
            go_wp2
            go_round
            case rel => exact ⟨k + 1, by omega, by go_num, Hs.out⟩
            case measure => simp [intOf]; omega
          · clear ho' hd
            go_wp2
            go_round
            case rel => exact ⟨k + 1, by omega, by go_num, Hs.out⟩
            case measure => simp [intOf]; omega
      · have ho2 : okR n = false := by simpa using ho
        have ho' := okR_not.1 ho2
        have Hr := Lib.hid (name_bad hlt (by show okR _ = false; rw [hb]; exact ho2))
        clear ho ho2
        rcases (show n < 45 ∨ n = 47 ∨ (57 < n ∧ n < 95) ∨ n = 96 ∨ 122 < n by omega) with h | h | h | h | h
        · have t1 : ((n : Int) != 45) = true := by rw [bne_iff_ne]; omega
          have t2 : ((n : Int) != 95) = true := by rw [bne_iff_ne]; omega
          have t3 : ((n : Int) != 46) = true := by rw [bne_iff_ne]; omega
          clear ho'
          go_wp2
          go_ret
          exact ⟨ret_bool Hr.out.symm, Gr.refl _⟩
        · subst h
          clear ho'
          go_wp2
          go_ret
          exact ⟨ret_bool Hr.out.symm, Gr.refl _⟩
        · have u1 : decide ((n : Int) ≤ 57) = false := by rw [decide_eq_false_iff_not]; omega
          have t1 : ((n : Int) != 45) = true := by rw [bne_iff_ne]; omega
          have t2 : ((n : Int) != 95) = true := by rw [bne_iff_ne]; omega
          have t3 : ((n : Int) != 46) = true := by rw [bne_iff_ne]; omega
          clear ho'
          go_wp2
          go_ret
          exact ⟨ret_bool Hr.out.symm, Gr.refl _⟩
        · subst h
          clear ho'
          go_wp2
          go_ret
          exact ⟨ret_bool Hr.out.symm, Gr.refl _⟩
        · have u2 : decide ((n : Int) ≤ 122) = false := by rw [decide_eq_false_iff_not]; omega
          have u1 : decide ((n : Int) ≤ 57) = false := by rw [decide_eq_false_iff_not]; omega
          have t1 : ((n : Int) != 45) = true := by rw [bne_iff_ne]; omega
          have t2 : ((n : Int) != 95) = true := by rw [bne_iff_ne]; omega
          have t3 : ((n : Int) != 46) = true := by rw [bne_iff_ne]; omega
          clear ho'
          go_wp2
          go_ret
          exact ⟨ret_bool Hr.out.symm, Gr.refl _⟩
    · obtain rfl : k = s.size := by omega
      by_cases h1 : s.size = 0
      · have Hr := Lib.hid (nameL_zero h1)
        go_wp2
        go_ret
        exact ⟨ret_bool Hr.out.symm, Gr.refl _⟩
      · by_cases h2 : s.size ≤ 32
        · have Hr := Lib.hid (show nameL s.data.toList = true by rw [name_end Hn.out, decide_eq_true (by omega : 1 ≤ s.size), decide_eq_true h2]; rfl)
          go_wp2
          go_ret
          exact ⟨ret_bool (by rw [Hr.out]; simp; omega), Gr.refl _⟩
        · have Hr := Lib.hid (nameL_great (s := s) (by omega))
          go_wp2
          go_ret
          exact ⟨ret_bool (by rw [Hr.out]; simp; omega), Gr.refl _⟩
/- the closure: no name -/
theorem noname_any (s : ByteArray) (w : World) (hs : s.size ≤ 1048576) : Calls Tryz.prog 87 #[.string s] w (Bo (!nameL s.data.toList) w) := by
  cases hn : nameL s.data.toList
  all_goals
    have h := name_any s w hs
    rw [hn] at h
    have H := Lib.hid h
    clear h hn
    go_enter Tryz.func87, Tryz.ntmps87
    go_wp2_with fail
    refine H.out.mono ?_
    rintro e w1 ⟨rfl, g⟩
    go_wp2_with fail
    go_ret
    exact ⟨rfl, g⟩
def noN (p : ByteArray) : Bool := !nameL p.data.toList
def Found (x : Bool) (n : Nat) (w : World) (e : Ending) (w' : World) : Prop := ∃ i : Int, e = .returned (.int .i64 i) ∧ decide (0 ≤ i) = x ∧ -1 ≤ i ∧ i ≤ n ∧ Gr w w'
set_option maxHeartbeats 1000000 in
theorem indexf_any (ps : List ByteArray) (b : Nat) (w : World) (hl : ps.length ≤ 1048577) (hs : ∀ p ∈ ps, p.size ≤ 1048576) (hc : ∀ j (h : j < ps.length), w.cell? ⟨b, j, none⟩ = some (.string ps[j])) :
    Calls Tryz.prog 111 #[.slice (some ⟨b, 0, none⟩) ps.length ps.length, .func (.func 87) #[] #[]] w (Found (ps.any noN) ps.length w) := by
  have Hs := Lib.hid hs
  have Hc := Lib.hid hc
  clear hs hc
  go_enter Tryz.func111, Tryz.ntmps111
  go_wp2
  go_loopw [5, 8] (fun u i wr => ∃ k : Nat, k ≤ ps.length ∧ i = .int .i64 k ∧ (ps.take k).any noN = false ∧ Gr w wr) (fun _ i _ => ps.length - (intOf i).toNat)
  case atStart => exact ⟨0, Nat.zero_le _, rfl, rfl, Gr.refl _⟩
  case round =>
    obtain ⟨k, hk, rfl, hno, hg⟩ := hrel
    have Hno := Lib.hid hno
    have Hg := Lib.hid hg
    clear hno hg
    by_cases hlt : k < ps.length
    · have hcell := Hg.out.keep (Hc.out k hlt)
      have hsz : ps[k].size ≤ 1048576 := Hs.out _ (List.getElem_mem _)
      have hcall := noname_any ps[k] wr hsz
      have hstep : (ps.take (k + 1)).any noN = noN ps[k] := by
        rw [List.take_succ_eq_append_getElem hlt, List.any_append, Hno.out]; simp
      cases hn : nameL ps[k].data.toList
      · rw [hn] at hcall
        have hfound : ps.any noN = true := List.any_eq_true.2 ⟨ps[k], List.getElem_mem _, by unfold noN; rw [hn]; rfl⟩
        have Hf := Lib.hid hfound
        have Hcall := Lib.hid hcall
        clear hstep hfound hcall hn hsz
        go_wp2_with fail
        refine Hcall.out.mono ?_
        rintro e w1 ⟨rfl, g⟩
        go_wp2_with fail
        go_ret
        exact ⟨(k : Int), rfl, by rw [Hf.out, decide_eq_true_eq]; omega, by omega, by omega, grown_trans Hg.out g⟩
      · rw [hn] at hcall
        have Hst := Lib.hid (show (ps.take (k + 1)).any noN = false by rw [hstep]; unfold noN; rw [hn]; rfl)
        have Hcall := Lib.hid hcall
        clear hstep hcall hn hsz
        go_wp2_with fail
        refine Hcall.out.mono ?_
        rintro e w1 ⟨rfl, g⟩
        have G := Lib.hid g
        clear g
        go_wp2_with fail
        go_roundw
        case rel => exact ⟨k + 1, by omega, by go_num, Hst.out, grown_trans Hg.out G.out⟩
        case measure => simp [intOf]; omega
    · obtain rfl : k = ps.length := by omega
      have Hf := Lib.hid (show ps.any noN = false by have := Hno.out; rwa [List.take_of_length_le (Nat.le_refl _)] at this)
      go_wp2_with fail
      go_ret
      exact ⟨-1, rfl, by rw [Hf.out]; rfl, by omega, by omega, Hg.out⟩
theorem containsf_any (ps : List ByteArray) (b : Nat) (w : World) (hl : ps.length ≤ 1048577) (hs : ∀ p ∈ ps, p.size ≤ 1048576) (hc : ∀ j (h : j < ps.length), w.cell? ⟨b, j, none⟩ = some (.string ps[j])) :
    Calls Tryz.prog 86 #[.slice (some ⟨b, 0, none⟩) ps.length ps.length, .func (.func 87) #[] #[]] w (Bo (ps.any noN) w) := by
  have H := Lib.hid (indexf_any ps b w hl hs hc)
  clear hs hc
  go_enter Tryz.func86, Tryz.ntmps86
  go_wp2_with fail
  refine H.out.mono ?_
  rintro e w1 ⟨i, rfl, hi, hi1, hi2, g⟩
  have Hi := Lib.hid hi
  clear hi
  go_wp2_with fail
  go_ret
  exact ⟨ret_bool Hi.out, g⟩
end Go.Proofs.YtilkcjcmcnlfnaaGreatDoor.Pth