/- The contracts of both Unders. Condition: the texts are at most 2^13 bytes. -/
import Derived.Test.YtilkcjcmcnlfnaaDoorPthWalkF
namespace Go.Proofs.YtilkcjcmcnlfnaaDoor.Pth
set_option linter.unusedVariables false
open Go.ChangeShapes Go.WideShapes Go.ChangeAt Go.RowKit
def Undered (r : Option (List UInt8)) (w : World) (e : Ending) (w' : World) : Prop :=
  e = .returned (.tuple #[.string (match r with | some l => tx l | none => ⟨#[]⟩), .bool r.isSome]) ∧ Gr w w'
theorem undered_no {r : Option (List UInt8)} {w w' : World} {e : Ending} (h : r = none) (he : e = .returned (.tuple #[.string ⟨#[]⟩, .bool false])) (g : Gr w w') : Undered r w e w' := by subst h; exact ⟨he, g⟩
theorem undered_yes {r : Option (List UInt8)} {w w' : World} {e : Ending} {s : ByteArray} (h : r = some s.data.toList) (he : e = .returned (.tuple #[.string s, .bool true])) (g : Gr w w') : Undered r w e w' := by subst h; exact ⟨he, g⟩
theorem underL_bad {d s : List UInt8} (h : ¬ (goodL s = true ∧ placeL d = true)) : underL d s = none := by unfold underL; rw [if_neg h]
theorem underL_empty {d s : List UInt8} (h1 : goodL s = true) (h2 : d = []) : underL d s = some s := by subst h2; unfold underL; rw [if_pos ⟨h1, rfl⟩, if_pos rfl]
theorem underL_miss {d s : List UInt8} (h2 : d ≠ []) (h3 : (d ++ [47]).isPrefixOf s = false) : underL d s = none := by
  unfold underL
  rw [if_neg h2, h3]
  split <;> rfl
theorem underL_hit {d s : List UInt8} (h1 : goodL s = true) (hp : placeL d = true) (h2 : d ≠ []) (h3 : (d ++ [47]).isPrefixOf s = true) : underL d s = some (s.drop (d.length + 1)) := by
  unfold underL
  rw [if_pos ⟨h1, hp⟩, if_neg h2, if_pos h3]
theorem stroke_list (a : ByteArray) : (a ++ (⟨#[47]⟩ : ByteArray)).data.toList = a.data.toList ++ [47] := by
  rw [ByteArray.data_append, Array.toList_append]
theorem cut_no (s a : ByteArray) (w : World) (h : (a.data.toList ++ [47]).isPrefixOf s.data.toList = false) :
    Calls Tryd.prog 24 #[.string s, .string (a ++ (⟨#[47]⟩ : ByteArray))] w fun e w' => e = .returned (.tuple #[.string s, .bool false]) ∧ Gr w w' :=
  (Tryd.strings_CutPrefix s _ w).mono fun e w' ⟨he, hw⟩ => by
    subst hw
    rw [stroke_list] at he
    unfold Lib.trimPrefix Lib.hasPrefix at he
    rw [h] at he
    exact ⟨he, Gr.refl _⟩
theorem cut_yes (s a : ByteArray) (w : World) (h : (a.data.toList ++ [47]).isPrefixOf s.data.toList = true) :
    Calls Tryd.prog 24 #[.string s, .string (a ++ (⟨#[47]⟩ : ByteArray))] w fun e w' => e = .returned (.tuple #[.string (tx (s.data.toList.drop (a.data.toList.length + 1))), .bool true]) ∧ Gr w w' :=
  (Tryd.strings_CutPrefix s _ w).mono fun e w' ⟨he, hw⟩ => by
    subst hw
    rw [stroke_list] at he
    unfold Lib.trimPrefix Lib.hasPrefix at he
    rw [h] at he
    simp only [if_true, List.length_append, List.length_cons, List.length_nil] at he
    exact ⟨he, Gr.refl _⟩
set_option maxHeartbeats 2000000 in
theorem under_any (a s : ByteArray) (w : World) (ha : a.size ≤ 262144) (hs : s.size ≤ 262144) (hm : Ml w) :
    Calls Tryd.prog 9 #[.string a, .string s] w (Undered (underL a.data.toList s.data.toList) w) := by
  have HP := fun w1 (g : Gr w w1) => place_any a w1 (by omega) (hm.keep g)
  have HG := fun w1 (g : Gr w w1) => good_any s w1 (by omega) (hm.keep g)
  by_cases h0 : a.size = 0
  · have e1 : a.toList = [] := by rw [Lib.toList_data]; exact empty_list h0
    rw [place_empty h0] at HP
    have HP := Lib.hid HP
    cases hg : goodL s.data.toList
    all_goals
      rw [hg] at HG
      have HG := Lib.hid HG
      have Hg := Lib.hid hg
      have H0 := Lib.hid h0
      clear hg h0
      go_enter Tryd.func9, Tryd.ntmps9
      go_wp2_with fail
      refine (HP.out w (Gr.refl w)).mono ?_
      rintro e w1 ⟨rfl, g⟩
      have G := Lib.hid g
      clear g
      go_wp2_with fail
      refine (HG.out w1 G.out).mono ?_
      rintro e w2 ⟨rfl, g⟩
      go_wp2_with fail
      go_ret2
      first
        | exact undered_no (underL_bad (by rw [Hg.out]; simp)) rfl (grown_trans G.out g)
        | exact undered_yes (underL_empty Hg.out (empty_list H0.out)) rfl (grown_trans G.out g)
  · obtain ⟨e1, e2⟩ := full_str h0
    have q1 : ¬ 9223372036854775807 < a.size + 1 := by omega
    cases hpre : (a.data.toList ++ [47]).isPrefixOf s.data.toList
    · have HC := Lib.hid (fun w => cut_no s a w hpre)
      have Hu := Lib.hid (underL_miss (full_list h0) hpre)
      clear hpre
      go_enter Tryd.func9, Tryd.ntmps9
      go_wp2_with fail
      refine (HC.out w).mono ?_
      rintro e w1 ⟨rfl, g⟩
      go_wp2_with fail
      go_ret2
      exact undered_no Hu.out rfl g
    · have HC := Lib.hid (fun w => cut_yes s a w hpre)
      cases hp : placeL a.data.toList
      · have Hu := Lib.hid (underL_bad (d := a.data.toList) (s := s.data.toList) (by rw [hp]; simp))
        rw [hp] at HP
        have HP := Lib.hid HP
        clear hpre hp
        go_enter Tryd.func9, Tryd.ntmps9
        go_wp2_with fail
        refine (HC.out w).mono ?_
        rintro e w1 ⟨rfl, g⟩
        have G := Lib.hid g
        clear g
        go_wp2_with fail
        refine (HP.out w1 G.out).mono ?_
        rintro e w2 ⟨rfl, g⟩
        go_wp2_with fail
        go_ret2
        exact undered_no Hu.out rfl (grown_trans G.out g)
      · cases hg : goodL s.data.toList
        · have Hu := Lib.hid (underL_bad (d := a.data.toList) (s := s.data.toList) (by rw [hg]; simp))
          rw [hp] at HP
          have HP := Lib.hid HP
          rw [hg] at HG
          have HG := Lib.hid HG
          clear hpre hp hg
          go_enter Tryd.func9, Tryd.ntmps9
          go_wp2_with fail
          refine (HC.out w).mono ?_
          rintro e w1 ⟨rfl, g⟩
          have G := Lib.hid g
          clear g
          go_wp2_with fail
          refine (HP.out w1 G.out).mono ?_
          rintro e w2 ⟨rfl, g⟩
          have G2 := Lib.hid (grown_trans G.out g)
          clear g
          go_wp2_with fail
          refine (HG.out w2 G2.out).mono ?_
          rintro e w3 ⟨rfl, g⟩
          go_wp2_with fail
          go_ret2
          exact undered_no Hu.out rfl (grown_trans G2.out g)
        · have Hu := Lib.hid (show underL a.data.toList s.data.toList = some (tx (s.data.toList.drop (a.data.toList.length + 1))).data.toList from underL_hit hg hp (full_list h0) hpre)
          rw [hp] at HP
          have HP := Lib.hid HP
          rw [hg] at HG
          have HG := Lib.hid HG
          clear hpre hp hg
          go_enter Tryd.func9, Tryd.ntmps9
          go_wp2_with fail
          refine (HC.out w).mono ?_
          rintro e w1 ⟨rfl, g⟩
          have G := Lib.hid g
          clear g
          go_wp2_with fail
          refine (HP.out w1 G.out).mono ?_
          rintro e w2 ⟨rfl, g⟩
          have G2 := Lib.hid (grown_trans G.out g)
          clear g
          go_wp2_with fail
          refine (HG.out w2 G2.out).mono ?_
          rintro e w3 ⟨rfl, g⟩
          go_wp2_with fail
          go_ret2
          exact undered_yes Hu.out rfl (grown_trans G2.out g)
theorem pre_split {d s : List UInt8} (h : (d ++ [47]).isPrefixOf s = true) : ∃ r, s = d ++ 47 :: r := by
  rw [List.isPrefixOf_iff_prefix] at h
  obtain ⟨r, h⟩ := h
  exact ⟨r, by rw [← h]; simp⟩
theorem pre_of {d s r : List UInt8} (h : s = d ++ 47 :: r) : (d ++ [47]).isPrefixOf s = true := by
  rw [List.isPrefixOf_iff_prefix, h]
  exact ⟨r, by simp⟩
theorem pre_false {d s : List UInt8} (h : ∀ r, s ≠ d ++ 47 :: r) : (d ++ [47]).isPrefixOf s = false := by
  cases hp : (d ++ [47]).isPrefixOf s with
  | false => rfl
  | true =>
    obtain ⟨r, e⟩ := pre_split hp
    exact absurd e (h r)
theorem bytes_eq {a b : ByteArray} (h : a.data.toList = b.data.toList) : a = b := by
  cases a; cases b
  simp only at h
  congr
  exact Array.ext' h
theorem ext_take (s : ByteArray) (n : Nat) : (s.extract 0 n).data.toList = s.data.toList.take n := by
  rw [ByteArray.data_extract, Array.toList_extract, List.extract_eq_take_drop]
  simp
end Go.Proofs.YtilkcjcmcnlfnaaDoor.Pth