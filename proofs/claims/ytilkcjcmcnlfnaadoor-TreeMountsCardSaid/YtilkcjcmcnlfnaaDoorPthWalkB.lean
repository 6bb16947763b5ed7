/- The contracts of the document's Name, of the search for a bad name, of Parts, Good and place. Condition: the text is at most 2^16 bytes. -/
import Derived.Test.YtilkcjcmcnlfnaaDoorPthWalkA
import Derived.WalkSpells
namespace Go.Proofs.YtilkcjcmcnlfnaaDoor.Pth
set_option linter.unusedVariables false
open Go.ChangeShapes Go.WideShapes Go.ChangeAt Go.RowKit
def NameTo (s : ByteArray) (k : Nat) : Prop := (s.data.toList.take k).all okc = true ∧ (0 < k → s.data.toList.head? ≠ some 46)
theorem take_more (s : ByteArray) (k : Nat) (h : k < s.size) : s.data.toList.take (k + 1) = s.data.toList.take k ++ [s[k]] := by
  rw [List.take_succ_eq_append_getElem (by simpa using h)]
  rfl
theorem nameTo_succ {s : ByteArray} {k : Nat} (h : k < s.size) (g : NameTo s k) (ho : okc s[k] = true) (h0 : k = 0 → (s[k]'h).toNat ≠ 46) : NameTo s (k + 1) := by
  refine ⟨?_, fun _ => ?_⟩
  · rw [take_more s k h, List.all_append, g.1]; simp [ho]
  · by_cases hk : k = 0
    · subst hk
      rw [list_pos h]
      simp
      intro e
      have := h0 rfl
      rw [e] at this
      exact this rfl
    · exact g.2 (by omega)
theorem byte_mem (s : ByteArray) (k : Nat) (h : k < s.size) : s[k]'h ∈ s.data.toList := by
  rw [Array.mem_toList_iff]; exact Array.getElem_mem _
theorem name_bad {s : ByteArray} {k : Nat} (h : k < s.size) (ho : okc s[k] = false) : nameL s.data.toList = false := by
  cases hn : nameL s.data.toList with
  | false => rfl
  | true =>
    have := (nameL_iff.1 hn).2.2.2 _ (byte_mem s k h)
    rw [ho] at this; cases this
theorem name_end {s : ByteArray} (g : NameTo s s.size) : nameL s.data.toList = (decide (1 ≤ s.size) && decide (s.size ≤ 32)) := by
  have hl : s.data.toList.length = s.size := by simp
  have hall : s.data.toList.all okc = true := by
    have := g.1
    rwa [List.take_of_length_le (by simp)] at this
  by_cases h0 : s.size = 0
  · rw [nameL_zero h0, h0]; rfl
  · have e : (s.data.toList.head? == some 46) = false := by rw [beq_eq_false_iff_ne]; exact g.2 (by omega)
    unfold nameL
    rw [e, hl, hall]
    simp
/- the closure: no name -/
theorem noname_any (s : ByteArray) (w : World) (hs : s.size ≤ 1048576) : Calls Tryd.prog 47 #[.string s] w (Bo (!nameL s.data.toList) w) := by
  cases hn : nameL s.data.toList
  all_goals
    have h := name_any s w hs
    rw [hn] at h
    have H := Lib.hid h
    clear h hn
    go_enter Tryd.func47, Tryd.ntmps47
    go_wp2_with fail
    refine H.out.mono ?_
    rintro e w1 ⟨rfl, g⟩
    go_wp2_with fail
    go_ret
    exact ⟨rfl, g⟩
def noN (p : ByteArray) : Bool := !nameL p.data.toList
def Found (x : Bool) (n : Nat) (w : World) (e : Ending) (w' : World) : Prop := ∃ i : Int, e = .returned (.int .i64 i) ∧ decide (0 ≤ i) = x ∧ -1 ≤ i ∧ i ≤ n ∧ Gr w w'
set_option maxHeartbeats 1000000 in
theorem indexf_any (ps : List ByteArray) (b : Nat) (w : World) (hl : ps.length ≤ 1048577) (hs : ∀ p ∈ ps, p.size ≤ 1048576) (hc : ∀ j (h : j < ps.length), w.cell? ⟨b, j, none⟩ = some (.string ps[j])) :
    Calls Tryd.prog 67 #[.slice (some ⟨b, 0, none⟩) ps.length ps.length, .func (.func 47) #[] #[]] w (Found (ps.any noN) ps.length w) := by
  have Hs := Lib.hid hs
  have Hc := Lib.hid hc
  clear hs hc
  go_enter Tryd.func67, Tryd.ntmps67
  go_wp2
  go_loopw [5, 8] (fun u i wr => ∃ k : Nat, k ≤ ps.length ∧ i = .int .i64 k ∧ (ps.take k).any noN = false ∧ Gr w wr) (fun _ i _ => ps.length - (intOf i).toNat)
  case atStart => exact ⟨0, Nat.zero_le _, rfl, rfl, Gr.refl _⟩
  case round =>
    obtain ⟨k, hk, rfl, hno, hg⟩ := hrel
    have Hno := Lib.hid hno
    have Hg := Lib.hid hg
    clear hno hg
    by_cases hlt : k < ps.length
    · have hcell := Hg.out.keep (Hc.out k hlt)
      have hsz : ps[k].size ≤ 1048576 := Hs.out _ (List.getElem_mem _)
      have hcall := noname_any ps[k] wr hsz
      have hstep : (ps.take (k + 1)).any noN = noN ps[k] := by
        rw [List.take_succ_eq_append_getElem hlt, List.any_append, Hno.out]; simp
      cases hn : nameL ps[k].data.toList
      · rw [hn] at hcall
        have hfound : ps.any noN = true := List.any_eq_true.2 ⟨ps[k], List.getElem_mem _, by unfold noN; rw [hn]; rfl⟩
        have Hf := Lib.hid hfound
        have Hcall := Lib.hid hcall
        clear hstep hfound hcall hn hsz
        go_wp2_with fail
        refine Hcall.out.mono ?_
        rintro e w1 ⟨rfl, g⟩
        go_wp2_with fail
        go_ret
        exact ⟨(k : Int), rfl, by rw [Hf.out, decide_eq_true_eq]; omega, by omega, by omega, grown_trans Hg.out g⟩
      · rw [hn] at hcall
        have Hst := Lib.hid (show (ps.take (k + 1)).any noN = false by rw [hstep]; unfold noN; rw [hn]; rfl)
        have Hcall := Lib.hid hcall
        clear hstep hcall hn hsz
        go_wp2_with fail
        refine Hcall.out.mono ?_
        rintro e w1 ⟨rfl, g⟩
        have G := Lib.hid g
        clear g
        go_wp2_with fail
        go_roundw
        case rel => exact ⟨k + 1, by omega, by go_num, Hst.out, grown_trans Hg.out G.out⟩
        case measure => simp [intOf]; omega
    · obtain rfl : k = ps.length := by omega
      have Hf := Lib.hid (show ps.any noN = false by have := Hno.out; rwa [List.take_of_length_le (Nat.le_refl _)] at this)
      go_wp2_with fail
      go_ret
      exact ⟨-1, rfl, by rw [Hf.out]; rfl, by omega, by omega, Hg.out⟩
theorem containsf_any (ps : List ByteArray) (b : Nat) (w : World) (hl : ps.length ≤ 1048577) (hs : ∀ p ∈ ps, p.size ≤ 1048576) (hc : ∀ j (h : j < ps.length), w.cell? ⟨b, j, none⟩ = some (.string ps[j])) :
    Calls Tryd.prog 46 #[.slice (some ⟨b, 0, none⟩) ps.length ps.length, .func (.func 47) #[] #[]] w (Bo (ps.any noN) w) := by
  have H := Lib.hid (indexf_any ps b w hl hs hc)
  clear hs hc
  go_enter Tryd.func46, Tryd.ntmps46
  go_wp2_with fail
  refine H.out.mono ?_
  rintro e w1 ⟨i, rfl, hi, hi1, hi2, g⟩
  have Hi := Lib.hid hi
  clear hi
  go_wp2_with fail
  go_ret
  exact ⟨ret_bool Hi.out, g⟩
end Go.Proofs.YtilkcjcmcnlfnaaDoor.Pth