/- The contracts of the document's Good, and of both Joins. Condition: the texts are at most 2^13 bytes. -/
import Derived.Test.YtilkcjcmcnlfnaaDoorPthWalkD
namespace Go.Proofs.YtilkcjcmcnlfnaaDoor.Pth
set_option linter.unusedVariables false
open Go.ChangeShapes Go.WideShapes Go.ChangeAt Go.RowKit
/- a text of these bytes -/
def tx (l : List UInt8) : ByteArray := ⟨l.toArray⟩
theorem tx_list (l : List UInt8) : (tx l).data.toList = l := rfl
theorem tx_size (l : List UInt8) : (tx l).size = l.length := by show l.toArray.size = _; simp
theorem tx_of (s : ByteArray) : tx s.data.toList = s := rfl
theorem tx_eq {s : ByteArray} {l : List UInt8} (h : s.data.toList = l) : s = tx l := by rw [← h]; rfl
theorem tx_inj {a b : List UInt8} (h : tx a = tx b) : a = b := by have := congrArg (fun t => t.data.toList) h; exact this
def glueB (a b : ByteArray) : ByteArray := a ++ ⟨#[47]⟩ ++ b
theorem glueB_list {a b : ByteArray} (h : ¬ a.size = 0) : (glueB a b).data.toList = glue a.data.toList b.data.toList := by
  unfold glueB glue
  rw [if_neg (full_list h), ByteArray.data_append, Array.toList_append, ByteArray.data_append, Array.toList_append]
  simp
theorem glue_empty {a b : ByteArray} (h : a.size = 0) : glue a.data.toList b.data.toList = b.data.toList := by
  unfold glue; rw [if_pos (empty_list h)]
theorem place_full {a : ByteArray} (h : ¬ a.size = 0) : placeL a.data.toList = goodL a.data.toList := by
  unfold placeL
  cases hd : a.data.toList with
  | nil => exact absurd hd (full_list h)
  | cons x y => rfl
theorem place_empty {a : ByteArray} (h : a.size = 0) : placeL a.data.toList = true := by
  unfold placeL
  rw [empty_list h]
  rfl
theorem good_size {a : ByteArray} (h : goodL a.data.toList = true) : a.size ≤ 128 := by have := (goodL_iff.1 h).1; simpa using this
def Joined (r : Option (List UInt8)) (w : World) (e : Ending) (w' : World) : Prop :=
  e = .returned (.tuple #[.string (match r with | some l => tx l | none => ⟨#[]⟩), .int .i64 (if r.isSome then 0 else 10)]) ∧ Gr w w'
theorem joined_no {r : Option (List UInt8)} {w w' : World} {e : Ending} (h : r = none) (he : e = .returned (.tuple #[.string ⟨#[]⟩, .int .i64 10])) (g : Gr w w') : Joined r w e w' := by subst h; exact ⟨he, g⟩
theorem joined_yes {r : Option (List UInt8)} {w w' : World} {e : Ending} {s : ByteArray} (h : r = some s.data.toList) (he : e = .returned (.tuple #[.string s, .int .i64 0])) (g : Gr w w') : Joined r w e w' := by subst h; exact ⟨he, g⟩
theorem joinL_none {d s : List UInt8} (h : ¬ (goodL s = true ∧ placeL d = true ∧ goodL (glue d s) = true)) : joinL d s = none := by unfold joinL; rw [if_neg h]
theorem joinL_some {d s : List UInt8} (h1 : goodL s = true) (h2 : placeL d = true) (h3 : goodL (glue d s) = true) : joinL d s = some (glue d s) := by unfold joinL; rw [if_pos ⟨h1, h2, h3⟩]
set_option maxHeartbeats 2000000 in
theorem join_any (a b : ByteArray) (w : World) (ha : a.size ≤ 262144) (hb : b.size ≤ 262144) (hm : Ml w) :
    Calls Tryd.prog 27 #[.string a, .string b] w (Joined (joinL a.data.toList b.data.toList) w) := by
  have HP := place_any a w (by omega) hm
  cases hp : placeL a.data.toList
  · have Hj := Lib.hid (joinL_none (d := a.data.toList) (s := b.data.toList) (by rw [hp]; simp))
    rw [hp] at HP
    have HP := Lib.hid HP
    clear hp
    go_enter Tryd.func27, Tryd.ntmps27
    go_wp2_with fail
    refine HP.out.mono ?_
    rintro e w1 ⟨rfl, g⟩
    go_wp2_with fail
    go_ret2
    exact joined_no Hj.out rfl g
  · rw [hp] at HP
    have HP := Lib.hid HP
    have HG := fun w1 (g : Gr w w1) => good_any b w1 (by omega) (hm.keep g)
    cases hg : goodL b.data.toList
    · have Hj := Lib.hid (joinL_none (d := a.data.toList) (s := b.data.toList) (by rw [hg]; simp))
      rw [hg] at HG
      have HG := Lib.hid HG
      clear hp hg
      go_enter Tryd.func27, Tryd.ntmps27
      go_wp2_with fail
      refine HP.out.mono ?_
      rintro e w1 ⟨rfl, g⟩
      have G := Lib.hid g
      clear g
      go_wp2_with fail
      refine (HG.out w1 G.out).mono ?_
      rintro e w2 ⟨rfl, g⟩
      go_wp2_with fail
      go_ret2
      exact joined_no Hj.out rfl (grown_trans G.out g)
    · rw [hg] at HG
      have HG := Lib.hid HG
      by_cases h0 : a.size = 0
      · have Hj := Lib.hid (show joinL a.data.toList b.data.toList = some b.data.toList by rw [joinL_some hg hp (by rw [glue_empty h0]; exact hg), glue_empty h0])
        have e1 : a.toList = [] := by rw [Lib.toList_data]; exact empty_list h0
        clear hp hg
        go_enter Tryd.func27, Tryd.ntmps27
        go_wp2_with fail
        refine HP.out.mono ?_
        rintro e w1 ⟨rfl, g⟩
        have G := Lib.hid g
        clear g
        go_wp2_with fail
        refine (HG.out w1 G.out).mono ?_
        rintro e w2 ⟨rfl, g⟩
        have G2 := Lib.hid (grown_trans G.out g)
        clear g
        go_wp2_with fail
        refine (HG.out w2 G2.out).mono ?_
        rintro e w3 ⟨rfl, g⟩
        go_wp2_with fail
        go_ret2
        exact joined_yes Hj.out rfl (grown_trans G2.out g)
      · obtain ⟨e1, e2⟩ := full_str h0
        have hga : goodL a.data.toList = true := by rw [← place_full h0]; exact hp
        have hga' := good_size hga
        have hgb' := good_size hg
        have hX : (a ++ (⟨#[47]⟩ : ByteArray)).size = a.size + 1 := by rw [ByteArray.size_append]; rfl
        have hZ : (glueB a b).size = a.size + 1 + b.size := by unfold glueB; rw [ByteArray.size_append, hX]
        have hZ' : (glueB a b).size ≤ 1048576 := by omega
        have HG3 := fun w1 (g : Gr w w1) => good_any (glueB a b) w1 hZ' (hm.keep g)
        have q1 : ¬ 9223372036854775807 < a.size + 1 := by omega
        have q2 : ¬ 9223372036854775807 < (a ++ (⟨#[47]⟩ : ByteArray)).size + b.size := by omega
        cases hz : goodL (glueB a b).data.toList
        · have Hj := Lib.hid (joinL_none (d := a.data.toList) (s := b.data.toList) (by rw [← glueB_list h0, hz]; simp))
          rw [hz] at HG3
          have HG3 := Lib.hid HG3
          clear hp hg hz hX hZ hZ'
          go_enter Tryd.func27, Tryd.ntmps27
          go_wp2_with fail
          refine HP.out.mono ?_
          rintro e w1 ⟨rfl, g⟩
          have G := Lib.hid g
          clear g
          go_wp2_with fail
          refine (HG.out w1 G.out).mono ?_
          rintro e w2 ⟨rfl, g⟩
          have G2 := Lib.hid (grown_trans G.out g)
          clear g
          go_wp2_with fail
          refine (HG3.out w2 G2.out).mono ?_
          rintro e w3 ⟨rfl, g⟩
          go_wp2_with fail
          go_ret2
          exact joined_no Hj.out rfl (grown_trans G2.out g)
        · have Hj := Lib.hid (show joinL a.data.toList b.data.toList = some (glueB a b).data.toList by rw [joinL_some hg hp (by rw [← glueB_list h0]; exact hz), glueB_list h0])
          rw [hz] at HG3
          have HG3 := Lib.hid HG3
          clear hp hg hz hX hZ hZ'
          go_enter Tryd.func27, Tryd.ntmps27
          go_wp2_with fail
          refine HP.out.mono ?_
          rintro e w1 ⟨rfl, g⟩
          have G := Lib.hid g
          clear g
          go_wp2_with fail
          refine (HG.out w1 G.out).mono ?_
          rintro e w2 ⟨rfl, g⟩
          have G2 := Lib.hid (grown_trans G.out g)
          clear g
          go_wp2_with fail
          refine (HG3.out w2 G2.out).mono ?_
          rintro e w3 ⟨rfl, g⟩
          go_wp2_with fail
          go_ret2
          exact joined_yes Hj.out rfl (grown_trans G2.out g)
end Go.Proofs.YtilkcjcmcnlfnaaDoor.Pth