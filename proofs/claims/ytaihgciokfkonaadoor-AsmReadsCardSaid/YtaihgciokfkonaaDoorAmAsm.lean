/- The contract of Assemble. Conditions: the text is not too long; the library's variables and the list of words read as listed. -/
import Derived.Test.YtaihgciokfkonaaDoorAmProg
import Derived.Test.YtaihgciokfkonaaDoorAmOver
import Derived.Test.YtaihgciokfkonaaDoorSpIter
import Derived.OwnWalkIn
import Derived.Sort.CutIn

namespace Go.Proofs.YtaihgciokfkonaaDoor
set_option linter.unusedVariables false
open Go.ChangeShapes Go.WideShapes Go.ChangeAt Go.RowKit Go.ChangeMaps Go.MapKept
attribute [local go_sem] Oper.semAt_some
theorem feed_split : ∀ (n : Nat) (s : List UInt8), s.length ≤ n → Pth.pcs 10 s = Lib.split s [10] := by
  intro n
  induction n with
  | zero =>
    intro s hs
    have h0 : s = [] := List.eq_nil_of_length_eq_zero (by omega)
    subst h0
    rcases Lib.index_spec [] [10] with ⟨h1, -⟩ | ⟨i, h1, hi, -, -⟩
    · rw [spl_miss h1]; rfl
    · have hroom := Lib.index_room [] [10] (by omega)
      rw [h1] at hroom
      simp at hroom
      omega
  | succ n ih =>
    intro s hs
    rcases Lib.index_spec s [10] with ⟨h1, h2⟩ | ⟨i, h1, hi, h2, h3⟩
    · have hno : (10 : UInt8) ∉ s := fun hx => by
        obtain ⟨j, hj, e⟩ := List.getElem_of_mem hx
        have := h2 j (by omega)
        unfold Lib.occAt at this
        rw [List.drop_eq_getElem_cons hj, e] at this
        simp at this
      rw [spl_miss h1, Pth.pcs_free hno]
    · have hroom := Lib.index_room s [10] (by omega)
      rw [h1] at hroom
      have hil : i < s.length := by simp at hroom; omega
      have hs2 : s = s.take i ++ 10 :: s.drop (i + 1) := by
        have hg : s[i] = 10 := by
          unfold Lib.occAt at h2
          rw [List.isPrefixOf_iff_prefix] at h2
          obtain ⟨t, ht⟩ := h2
          rw [List.drop_eq_getElem_cons hil] at ht
          exact (List.cons.inj ht).1.symm
        conv => lhs; rw [← List.take_append_drop i s, List.drop_eq_getElem_cons hil, hg]
      have hno : (10 : UInt8) ∉ s.take i := fun hx => by
        obtain ⟨j, hj, e⟩ := List.getElem_of_mem hx
        rw [List.length_take] at hj
        have hjs : j < s.length := by omega
        have := h3 j (by omega)
        unfold Lib.occAt at this
        rw [List.getElem_take] at e
        rw [List.drop_eq_getElem_cons hjs, e] at this
        simp at this
      rw [spl_hit (by simp) h1]
      conv => lhs; rw [hs2]
      rw [Pth.pcs_cut hno, ih (s.drop (i + 1)) (by rw [List.length_drop]; omega)]
      rfl
/- the lines that the range gives -/
def linesS (l : List B20) : Except (Int × Int) SrcL := linesF (l.map fun x => x.1) 0 ⟨[], []⟩
theorem linesS_snoc {l : List B20} {s : SrcL} (h : linesS l = .ok s) (x : B20) : linesS (l ++ [x]) = match addF s x.1 ((l.length : Int) + 1) with
    | .error e => .error ((l.length : Int) + 1, e)
    | .ok s' => .ok s' := by
  unfold linesS at h ⊢
  rw [List.map_append, List.map_singleton, linesF_snoc _ _ _ _ h, List.length_map]
  cases addF s x.1 ((l.length : Int) + 1) <;> rfl
theorem linesS_prefix {a b : List B20} (h : a <+: b) {x : Int × Int} (hn : linesS a = .error x) : linesS b = .error x := by
  obtain ⟨r, rfl⟩ := h
  unfold linesS at hn ⊢
  rw [List.map_append]
  exact linesF_err _ _ _ _ hn
theorem lines_all {s : List UInt8} (hs : s.length ≤ 65536) : linesS ((Lib.split s [10]).map clip) = linesF (Pth.pcs 10 s) 0 ⟨[], []⟩ := by
  unfold linesS
  rw [feed_split s.length s (Nat.le_refl _)]
  congr 1
  rw [List.map_map]
  conv => rhs; rw [← List.map_id (Lib.split s [10])]
  exact List.map_congr_left fun x hx => clip_val (Nat.le_trans ((spl_len (by simp) s.length s (Nat.le_refl _)).1 x hx) hs)
theorem insF_lab {t : List UInt8} {x : InsL × List UInt8} (h : insF t = some x) (ht : t.length ≤ 65536) : x.2.length ≤ 65536 := by
  have hl := (cutW_len t).2
  unfold insF insG at h
  split at h
  · cases h
  · split at h
    · cases hd : digP (cutW t).2.1 with
      | none => rw [hd] at h; cases h
      | some n => rw [hd] at h; cases h; simp
    · split at h
      · cases hd : wholeF (cutW t).2.1 with
        | none => rw [hd] at h; cases h
        | some n => rw [hd] at h; cases h; simp
      · split at h
        · split at h
          · cases h; simp only; omega
          · cases h
        · cases h; simp
/- the labels' places are small, the names not too long -/
theorem addF_bd {s s' : SrcL} {t : List UInt8} {no : Int} (h : addF s t no = .ok s') (ht : t.length ≤ 65536) (h1 : ∀ l ∈ s.list, l.lab.length ≤ 65536) (h2 : ∀ x ∈ s.labs, 0 ≤ x.2 ∧ x.2 ≤ (s.list.length : Int)) : (∀ l ∈ s'.list, l.lab.length ≤ 65536) ∧ (∀ x ∈ s'.labs, 0 ≤ x.2 ∧ x.2 ≤ (s'.list.length : Int)) := by
  unfold addF at h
  split at h
  · cases h; exact ⟨h1, h2⟩
  · split at h
    · split at h
      · cases h
      · cases h
        refine ⟨h1, fun x hx => ?_⟩
        rcases List.mem_append.1 hx with hx | hx
        · exact h2 x hx
        · rw [List.mem_singleton.1 hx]; simp only; omega
    · cases hi : insF t with
      | none => rw [hi] at h; cases h
      | some x =>
        rw [hi] at h
        cases h
        refine ⟨fun l hl => ?_, fun y hy => ?_⟩
        · rcases List.mem_append.1 hl with hl | hl
          · exact h1 l hl
          · rw [List.mem_singleton.1 hl]
            exact insF_lab hi ht
        · have := h2 y hy
          simp only [List.length_append, List.length_singleton]
          omega
end Go.Proofs.YtaihgciokfkonaaDoor
