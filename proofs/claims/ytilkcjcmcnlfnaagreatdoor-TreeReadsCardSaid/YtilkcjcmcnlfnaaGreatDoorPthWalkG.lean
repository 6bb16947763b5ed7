/- The contracts of both Unders. Condition: the texts are at most 2^13 bytes. -/
import Derived.Test.YtilkcjcmcnlfnaaGreatDoorPthWalkF
namespace Go.Proofs.YtilkcjcmcnlfnaaGreatDoor.Pth
set_option linter.unusedVariables false
open Go.ChangeShapes Go.WideShapes Go.ChangeAt Go.RowKit
def Undered (r : Option (List UInt8)) (w : World) (e : Ending) (w' : World) : Prop :=
  e = .returned (.tuple #[.string (match r with | some l => tx l | none => ⟨#[]⟩), .bool r.isSome]) ∧ Gr w w'
theorem undered_no {r : Option (List UInt8)} {w w' : World} {e : Ending} (h : r = none) (he : e = .returned (.tuple #[.string ⟨#[]⟩, .bool false])) (g : Gr w w') : Undered r w e w' := by subst h; exact ⟨he, g⟩
theorem undered_yes {r : Option (List UInt8)} {w w' : World} {e : Ending} {s : ByteArray} (h : r = some s.data.toList) (he : e = .returned (.tuple #[.string s, .bool true])) (g : Gr w w') : Undered r w e w' := by subst h; exact ⟨he, g⟩
theorem underL_bad {d s : List UInt8} (h : ¬ (goodL s = true ∧ placeL d = true)) : underL d s = none := by unfold underL; rw [if_neg h]
theorem underL_empty {d s : List UInt8} (h1 : goodL s = true) (h2 : d = []) : underL d s = some s := by subst h2; unfold underL; rw [if_pos ⟨h1, rfl⟩, if_pos rfl]
theorem underL_miss {d s : List UInt8} (h2 : d ≠ []) (h3 : (d ++ [47]).isPrefixOf s = false) : underL d s = none := by
  unfold underL
  rw [if_neg h2, h3]
  split <;> rfl
theorem underL_hit {d s : List UInt8} (h1 : goodL s = true) (hp : placeL d = true) (h2 : d ≠ []) (h3 : (d ++ [47]).isPrefixOf s = true) : underL d s = some (s.drop (d.length + 1)) := by
  unfold underL
  rw [if_pos ⟨h1, hp⟩, if_neg h2, if_pos h3]
theorem stroke_list (a : ByteArray) : (a ++ (⟨#[47]⟩ : ByteArray)).data.toList = a.data.toList ++ [47] := by
  rw [ByteArray.data_append, Array.toList_append]
theorem cut_no (s a : ByteArray) (w : World) (h : (a.data.toList ++ [47]).isPrefixOf s.data.toList = false) :
    Calls Tryz.prog 76 #[.string s, .string (a ++ (⟨#[47]⟩ : ByteArray))] w fun e w' => e = .returned (.tuple #[.string s, .bool false]) ∧ Gr w w' :=
  (Tryz.strings_CutPrefix s _ w).mono fun e w' ⟨he, hw⟩ => by
    subst hw
    rw [stroke_list] at he
    unfold Lib.trimPrefix Lib.hasPrefix at he
    rw [h] at he
    exact ⟨he, Gr.refl _⟩
theorem cut_yes (s a : ByteArray) (w : World) (h : (a.data.toList ++ [47]).isPrefixOf s.data.toList = true) :
    Calls Tryz.prog 76 #[.string s, .string (a ++ (⟨#[47]⟩ : ByteArray))] w fun e w' => e = .returned (.tuple #[.string (tx (s.data.toList.drop (a.data.toList.length + 1))), .bool true]) ∧ Gr w w' :=
  (Tryz.strings_CutPrefix s _ w).mono fun e w' ⟨he, hw⟩ => by
    subst hw
    rw [stroke_list] at he
    unfold Lib.trimPrefix Lib.hasPrefix at he
    rw [h] at he
    simp only [if_true, List.length_append, List.length_cons, List.length_nil] at he
    exact ⟨he, Gr.refl _⟩
set_option maxHeartbeats 2000000 in
theorem under_any (a s : ByteArray) (w : World) (ha : a.size ≤ 262144) (hs : s.size ≤ 262144) (hm : Ml w) :
    Calls Tryz.prog 45 #[.string a, .string s] w (Undered (underL a.data.toList s.data.toList) w) := by
  have HP := fun w1 (g : Gr w w1) => place_any a w1 (by omega) (hm.keep g)
  have HG := fun w1 (g : Gr w w1) => good_any s w1 (by omega) (hm.keep g)
  by_cases h0 : a.size = 0
  · have e1 : a.toList = [] := by rw [Lib.toList_data]; exact empty_list h0
    rw [place_empty h0] at HP
    have HP := Lib.hid HP
    cases hg : goodL s.data.toList
    all_goals
      rw [hg] at HG
      have HG := Lib.hid HG
      have Hg := Lib.hid hg
      have H0 := Lib.hid h0
      clear hg h0
      go_enter Tryz.func45, Tryz.ntmps45
      go_wp2_with fail
      refine (HP.out w (Gr.refl w)).mono ?_
      rintro e w1 ⟨rfl, g⟩
      have G := Lib.hid g
      clear g
      go_wp2_with fail
      refine (HG.out w1 G.out).mono ?_
      rintro e w2 ⟨rfl, g⟩
      go_wp2_with fail
      go_ret2
      first
        | exact undered_no (underL_bad (by rw [Hg.out]; simp)) rfl (grown_trans G.out g)
        | exact undered_yes (underL_empty Hg.out (empty_list H0.out)) rfl (grown_trans G.out g)
  · obtain ⟨e1, e2⟩ := full_str h0
    have q1 : ¬ 9223372036854775807 < a.size + 1 := by omega
    cases hpre : (a.data.toList ++ [47]).isPrefixOf s.data.toList
    · have HC := Lib.hid (fun w => cut_no s a w hpre)
      have Hu := Lib.hid (underL_miss (full_list h0) hpre)
      clear hpre
      go_enter Tryz.func45, Tryz.ntmps45
      go_wp2_with fail
      refine (HC.out w).mono ?_
      rintro e w1 ⟨rfl, g⟩
      go_wp2_with fail
      go_ret2
      exact undered_no Hu.out rfl g
    · have HC := Lib.hid (fun w => cut_yes s a w hpre)
      cases hp : placeL a.data.toList
      · have Hu := Lib.hid (underL_bad (d := a.data.toList) (s := s.data.toList) (by rw [hp]; simp))
        rw [hp] at HP
        have HP := Lib.hid HP
        clear hpre hp
        go_enter Tryz.func45, Tryz.ntmps45
        go_wp2_with fail
        refine (HC.out w).mono ?_
        rintro e w1 ⟨rfl, g⟩
        have G := Lib.hid g
        clear g
        go_wp2_with fail
        refine (HP.out w1 G.out).mono ?_
        rintro e w2 ⟨rfl, g⟩
        go_wp2_with fail
        go_ret2
        exact undered_no Hu.out rfl (grown_trans G.out g)
      · cases hg : goodL s.data.toList
        · have Hu := Lib.hid (underL_bad (d := a.data.toList) (s := s.data.toList) (by rw [hg]; simp))
          rw [hp] at HP
          have HP := Lib.hid HP
          rw [hg] at HG
          have HG := Lib.hid HG
          clear hpre hp hg
          go_enter Tryz.func45, Tryz.ntmps45
          go_wp2_with fail
          refine (HC.out w).mono ?_
          rintro e w1 ⟨rfl, g⟩
          have G := Lib.hid g
          clear g
          go_wp2_with fail
          refine (HP.out w1 G.out).mono ?_
          rintro e w2 ⟨rfl, g⟩
          have G2 := Lib.hid (grown_trans G.out g)
          clear g
          go_wp2_with fail
          refine (HG.out w2 G2.out).mono ?_
          rintro e w3 ⟨rfl, g⟩
          go_wp2_with fail
          go_ret2
          exact undered_no Hu.out rfl (grown_trans G2.out g)
        · have Hu := Lib.hid (show underL a.data.toList s.data.toList = some (tx (s.data.toList.drop (a.data.toList.length + 1))).data.toList from underL_hit hg hp (full_list h0) hpre)
          rw [hp] at HP
          have HP := Lib.hid HP
          rw [hg] at HG
          have HG := Lib.hid HG
          clear hpre hp hg
          go_enter Tryz.func45, Tryz.ntmps45
          go_wp2_with fail
          refine (HC.out w).mono ?_
          rintro e w1 ⟨rfl, g⟩
          have G := Lib.hid g
          clear g
          go_wp2_with fail
          refine (HP.out w1 G.out).mono ?_
          rintro e w2 ⟨rfl, g⟩
          have G2 := Lib.hid (grown_trans G.out g)
          clear g
          go_wp2_with fail
          refine (HG.out w2 G2.out).mono ?_
          rintro e w3 ⟨rfl, g⟩
          go_wp2_with fail
          go_ret2
          exact undered_yes Hu.out rfl (grown_trans G2.out g)
theorem pre_split {d s : List UInt8} (h : (d ++ [47]).isPrefixOf s = true) : ∃ r, s = d ++ 47 :: r := by
  rw [List.isPrefixOf_iff_prefix] at h
  obtain ⟨r, h⟩ := h
  exact ⟨r, by rw [← h]; simp⟩
theorem pre_of {d s r : List UInt8} (h : s = d ++ 47 :: r) : (d ++ [47]).isPrefixOf s = true := by
  rw [List.isPrefixOf_iff_prefix, h]
  exact ⟨r, by simp⟩
theorem pre_false {d s : List UInt8} (h : ∀ r, s ≠ d ++ 47 :: r) : (d ++ [47]).isPrefixOf s = false := by
  cases hp : (d ++ [47]).isPrefixOf s with
  | false => rfl
  | true =>
    obtain ⟨r, e⟩ := pre_split hp
    exact absurd e (h r)
theorem bytes_eq {a b : ByteArray} (h : a.data.toList = b.data.toList) : a = b := by
  cases a; cases b
  simp only at h
  congr
  exact Array.ext' h
theorem ext_take (s : ByteArray) (n : Nat) : (s.extract 0 n).data.toList = s.data.toList.take n := by
  rw [ByteArray.data_extract, Array.toList_extract, List.extract_eq_take_drop]
  simp
set_option maxHeartbeats 4000000 in
theorem underR_any (a s : ByteArray) (w : World) (ha : a.size ≤ 262144) (hs : s.size ≤ 262144) :
    Calls Tryz.prog 48 #[.string a, .string s] w (Undered (underL a.data.toList s.data.toList) w) := by
  have HG := fun w => goodR_any s w (by omega)
  have HA := fun w => goodR_any a w (by omega)
  cases hg : goodL s.data.toList
  · have Hu := Lib.hid (underL_bad (d := a.data.toList) (s := s.data.toList) (by rw [hg]; simp))
    rw [hg] at HG
    have HG := Lib.hid HG
    clear hg
    go_enter Tryz.func48, Tryz.ntmps48
    go_wp2_with fail
    refine (HG.out w).mono ?_
    rintro e w1 ⟨rfl, g⟩
    go_wp2_with fail
    go_ret2
    exact undered_no Hu.out rfl g
  · rw [hg] at HG
    have HG := Lib.hid HG
    by_cases h0 : a.size = 0
    · have e1 : a.toList = [] := by rw [Lib.toList_data]; exact empty_list h0
      have Hu := Lib.hid (underL_empty hg (empty_list h0))
      clear hg
      go_enter Tryz.func48, Tryz.ntmps48
      go_wp2_with fail
      refine (HG.out w).mono ?_
      rintro e w1 ⟨rfl, g⟩
      go_wp2_with fail
      go_ret2
      exact undered_yes Hu.out rfl g
    · obtain ⟨e1, e2⟩ := full_str h0
      cases hga : goodL a.data.toList
      · have Hu := Lib.hid (underL_bad (d := a.data.toList) (s := s.data.toList) (by rw [place_full h0, hga]; simp))
        rw [hga] at HA
        have HA := Lib.hid HA
        clear hg hga
        go_enter Tryz.func48, Tryz.ntmps48
        go_wp2_with fail
        refine (HG.out w).mono ?_
        rintro e w1 ⟨rfl, g⟩
        have G := Lib.hid g
        clear g
        go_wp2_with fail
        refine (HA.out w1).mono ?_
        rintro e w2 ⟨rfl, g⟩
        go_wp2_with fail
        go_ret2
        exact undered_no Hu.out rfl (grown_trans G.out g)
      · rw [hga] at HA
        have HA := Lib.hid HA
        have hal : a.data.toList.length = a.size := by simp
        have hsl : s.data.toList.length = s.size := by simp
        by_cases hle : s.size ≤ a.size
        · have Hu := Lib.hid (underL_miss (d := a.data.toList) (s := s.data.toList) (full_list h0) (pre_false fun r e => by have := congrArg List.length e; simp at this; omega))
          clear hg hga hal hsl
          go_enter Tryz.func48, Tryz.ntmps48
          go_wp2_with fail
          refine (HG.out w).mono ?_
          rintro e w1 ⟨rfl, g⟩
          have G := Lib.hid g
          clear g
          go_wp2_with fail
          refine (HA.out w1).mono ?_
          rintro e w2 ⟨rfl, g⟩
          go_wp2_with fail
          go_ret2
          exact undered_no Hu.out rfl (grown_trans G.out g)
        · have hlt : a.size < s.size := by omega
          have hxl := ext_take s a.size
          by_cases hx : s.extract 0 a.size = a
          · have htake : s.data.toList.take a.size = a.data.toList := by rw [← hxl, hx]
            by_cases hb : s[a.size] = 47
            · have hsp : s.data.toList = a.data.toList ++ 47 :: s.data.toList.drop (a.size + 1) := by
                rw [← htake, ← hb, ← drop_more s a.size hlt, List.take_append_drop]
              have Hu := Lib.hid (show underL a.data.toList s.data.toList = some (s.extract (a.size + 1) s.size).data.toList by
                rw [← hal, (cut_at s hsp).2, underL_hit hg (by rw [place_full h0]; exact hga) (full_list h0) (pre_of hsp), hal])
              have hbt : (((s[a.size]).toNat : Int) != 47) = false := by rw [hb]; rfl
              have hxt : (s.extract 0 a.size).toList = a.toList := by rw [hx]
              have hxn : (!(s.extract 0 a.size).toList == a.toList) = false := by rw [hx]; simp
              have h1 : a.size + 1 ≤ s.size := by omega
              clear hg hga hal hsl hsp hb htake hxl hx
              go_enter Tryz.func48, Tryz.ntmps48
              go_wp2_with fail
              refine (HG.out w).mono ?_
              rintro e w1 ⟨rfl, g⟩
              have G := Lib.hid g
              clear g
              go_wp2_with fail
              refine (HA.out w1).mono ?_
              rintro e w2 ⟨rfl, g⟩
              have G2 := Lib.hid (grown_trans G.out g)
              clear g
              go_wp2_with fail
              go_ret2
              exact undered_yes Hu.out rfl G2.out
            · have Hu := Lib.hid (underL_miss (d := a.data.toList) (s := s.data.toList) (full_list h0) (pre_false fun r e => hb (by
                have e2 := drop_more s a.size hlt
                rw [e] at e2
                have e3 : (a.data.toList ++ 47 :: r).drop a.size = 47 :: r := List.drop_left' hal
                exact (List.cons.inj (e3.symm.trans e2)).1.symm)))
              have hbt : (((s[a.size]).toNat : Int) != 47) = true := by
                rw [bne_iff_ne]; intro e; exact hb (UInt8.toNat_inj.1 (by have h47 : (47 : UInt8).toNat = 47 := rfl; omega))
              have hxn : (!(s.extract 0 a.size).toList == a.toList) = false := by rw [hx]; simp
              clear hg hga hal hsl hb htake hxl hx
              go_enter Tryz.func48, Tryz.ntmps48
              go_wp2_with fail
              refine (HG.out w).mono ?_
              rintro e w1 ⟨rfl, g⟩
              have G := Lib.hid g
              clear g
              go_wp2_with fail
              refine (HA.out w1).mono ?_
              rintro e w2 ⟨rfl, g⟩
              have G2 := Lib.hid (grown_trans G.out g)
              clear g
              go_wp2_with fail
              go_ret2
              exact undered_no Hu.out rfl G2.out
          · have Hu := Lib.hid (underL_miss (d := a.data.toList) (s := s.data.toList) (full_list h0) (pre_false fun r e => hx (bytes_eq (by
              rw [hxl, e, ← hal, List.take_left]))))
            have hxn : (!(s.extract 0 a.size).toList == a.toList) = true := by
              rw [Bool.not_eq_true', beq_eq_false_iff_ne]
              intro e
              rw [Lib.toList_data, Lib.toList_data] at e
              exact hx (bytes_eq e)
            clear hg hga hal hsl hxl hx
            go_enter Tryz.func48, Tryz.ntmps48
            go_wp2_with fail
            refine (HG.out w).mono ?_
            rintro e w1 ⟨rfl, g⟩
            have G := Lib.hid g
            clear g
            go_wp2_with fail
            refine (HA.out w1).mono ?_
            rintro e w2 ⟨rfl, g⟩
            have G2 := Lib.hid (grown_trans G.out g)
            clear g
            go_wp2_with fail
            go_ret2
            exact undered_no Hu.out rfl G2.out
end Go.Proofs.YtilkcjcmcnlfnaaGreatDoor.Pth