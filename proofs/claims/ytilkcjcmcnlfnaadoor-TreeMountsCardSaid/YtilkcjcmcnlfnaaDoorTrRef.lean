/- The contract of the document's Make. Conditions: at most 2^20 files, paths of at most 2^20 bytes. -/
import Derived.Test.YtilkcjcmcnlfnaaDoorTrEq
import Derived.Test.YtilkcjcmcnlfnaaDoorPthWalkG
import Derived.Laws.Cover1
import Derived.OwnWalk
namespace Go.Proofs.YtilkcjcmcnlfnaaDoor
set_option linter.unusedVariables false
open Go.ChangeShapes Go.WideShapes Go.ChangeAt Go.RowKit
theorem under_ahead {p q : List UInt8} (hp : Pth.goodL p = true) (hq : Pth.goodL q = true) : (Pth.underL p q).isSome = aheadL p q := by
  have hne : p ≠ [] := by rintro rfl; have := Pth.goodL_pos hp; simp at this
  have hpl : Pth.placeL p = true := by unfold Pth.placeL; rw [hp]; simp
  unfold Pth.underL aheadL dirL
  rw [if_pos ⟨hq, hpl⟩, if_neg hne]
  cases h : (p ++ [47]).isPrefixOf q with
  | true => rw [if_pos rfl]; rfl
  | false => rw [if_neg (by decide)]; rfl
theorem below_yes {f g : FileL} {a : List FileL} (h : bl g.1 f.1 = true) : belowF f (a ++ [g]) = belowF f a ++ [g] := by unfold belowF; rw [List.filter_append]; simp [h]
theorem below_no {f g : FileL} {a : List FileL} (h : bl g.1 f.1 = false) : belowF f (a ++ [g]) = belowF f a := by unfold belowF; rw [List.filter_append]; simp [h]
theorem above_yes {f g : FileL} {a : List FileL} (h : bl f.1 g.1 = true) : aboveF f (a ++ [g]) = aboveF f a ++ [g] := by unfold aboveF; rw [List.filter_append]; simp [h]
theorem above_no {f g : FileL} {a : List FileL} (h : bl f.1 g.1 = false) : aboveF f (a ++ [g]) = aboveF f a := by unfold aboveF; rw [List.filter_append]; simp [h]
theorem take_snoc' {α : Type} (l : List α) (k : Nat) (h : k < l.length) : l.take (k + 1) = l.take k ++ [l[k]] := by rw [List.take_add_one, List.getElem?_eq_getElem h]; rfl
theorem keys_snoc {l : List FileL} {k : Nat} (hk : k < l.length) (h : (keysL (l.take k)).Nodup) (hn : ∀ g ∈ sortF (l.take k), g.1 ≠ l[k].1) : (keysL (l.take (k + 1))).Nodup := by
  have hp := sortF_perm h
  rw [take_snoc' l k hk]
  unfold keysL at h ⊢
  rw [List.map_append, List.nodup_append]
  refine ⟨h, by simp, fun a ha b hb => ?_⟩
  obtain ⟨g, hg, rfl⟩ := List.mem_map.1 ha
  simp only [List.map_cons, List.map_nil, List.mem_singleton] at hb
  subst hb
  exact hn g (hp.mem_iff.2 hg)
theorem keys_two {l : List FileL} {k : Nat} (hk : k < l.length) (h : (keysL (l.take k)).Nodup) {g : FileL} (hg : g ∈ sortF (l.take k)) (he : g.1 = l[k].1) : ¬ (keysL l).Nodup := fun hn => by
  have hp := sortF_perm h
  have hgl := hp.mem_iff.1 hg
  obtain ⟨i, hi, hgi⟩ := List.getElem_of_mem hgl
  have hi' : i < k := by simp at hi; omega
  unfold keysL at hn
  rw [List.nodup_iff_pairwise_ne, List.pairwise_iff_getElem] at hn
  have := hn i k (by simp; omega) (by simpa using hk) hi'
  simp only [List.getElem_map] at this
  rw [List.getElem_take] at hgi
  exact this (by rw [hgi]; exact he)
theorem less_tx (x y : List UInt8) : Op.bytesLess (tx x).toList (tx y).toList = bl x y := by
  rw [Lib.toList_data, Lib.toList_data, tx_list, tx_list]
  rfl
theorem flatP_snoc (a : List FileL) (g : FileL) : flatP (a ++ [g]) = flatP a ++ [.string (tx g.1), .string (tx g.2)] := by rw [flatP_app]; rfl
end Go.Proofs.YtilkcjcmcnlfnaaDoor
