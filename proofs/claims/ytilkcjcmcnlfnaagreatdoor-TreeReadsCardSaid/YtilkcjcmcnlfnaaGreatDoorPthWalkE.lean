/- The contracts of the document's Good, and of both Joins. Condition: the texts are at most 2^13 bytes. -/
import Derived.Test.YtilkcjcmcnlfnaaGreatDoorPthWalkD
namespace Go.Proofs.YtilkcjcmcnlfnaaGreatDoor.Pth
set_option linter.unusedVariables false
open Go.ChangeShapes Go.WideShapes Go.ChangeAt Go.RowKit
set_option maxHeartbeats 1000000 in
theorem goodR_any (s : ByteArray) (w : World) (hs : s.size ≤ 1048576) : Calls Tryz.prog 39 #[.string s] w (Bo (goodL s.data.toList) w) := by
  by_cases h128 : 128 < s.size
  · have Hg := Lib.hid (good_great h128)
    go_enter Tryz.func39, Tryz.ntmps39
    go_wp2
    go_ret
    exact ⟨ret_bool Hg.out.symm, Gr.refl _⟩
  · go_enter Tryz.func39, Tryz.ntmps39
    go_wp2_with fail
    refine (pieces_at s 47 w hs).mono ?_
    rintro e w1 ⟨ps, hps, b, cap, rfl, hb1, hb2, ht, g, hcap⟩
    have hgood := parts_good hps (by simp; omega)
    have hsm := parts_small hps (by simp; omega)
    have hlen := parts_len hps
    have hpl := pcs_len 47 s.data.toList
    have hsz : s.data.toList.length = s.size := by simp
    have G := Lib.hid g
    have T := Lib.hid ht
    have Hsm := Lib.hid hsm
    have Hgood := Lib.hid hgood
    have hl : ps.length ≤ 1048577 := by omega
    clear hgood hsm hps g ht hlen hpl hsz
    go_wp2_with fail
    go_loopw [5, 13] (fun u i wr => ∃ k : Nat, k ≤ ps.length ∧ i = .int .i64 k ∧ (ps.take k).any noN = false ∧ Gr w1 wr) (fun _ i _ => ps.length - (intOf i).toNat)
    case atStart => exact ⟨0, Nat.zero_le _, rfl, rfl, Gr.refl _⟩
    case round =>
      obtain ⟨k, hk, rfl, hno, hg⟩ := hrel
      have Hno := Lib.hid hno
      have Hg := Lib.hid hg
      clear hno hg
      by_cases hlt : k < ps.length
      · have hcell := (T.out.keep Hg.out) k hlt
        have hcall := nameR_any ps[k] wr (Hsm.out _ (List.getElem_mem _))
        have hstep : (ps.take (k + 1)).any noN = noN ps[k] := by
          rw [List.take_succ_eq_append_getElem hlt, List.any_append, Hno.out]; simp
        cases hn : nameL ps[k].data.toList
        · rw [hn] at hcall
          have hfound : ps.any noN = true := List.any_eq_true.2 ⟨ps[k], List.getElem_mem _, by unfold noN; rw [hn]; rfl⟩
          have Hf := Lib.hid (show goodL s.data.toList = false by rw [Hgood.out, hfound]; rfl)
          have Hcall := Lib.hid hcall
          clear hstep hfound hcall hn
          go_wp2_with fail
          refine Hcall.out.mono ?_
          rintro e w2 ⟨rfl, g⟩
          go_wp2_with fail
          go_ret
          exact ⟨ret_bool Hf.out.symm, grown_trans G.out (grown_trans Hg.out g)⟩
        · rw [hn] at hcall
          have Hst := Lib.hid (show (ps.take (k + 1)).any noN = false by rw [hstep]; unfold noN; rw [hn]; rfl)
          have Hcall := Lib.hid hcall
          clear hstep hcall hn
          go_wp2_with fail
          refine Hcall.out.mono ?_
          rintro e w2 ⟨rfl, g⟩
          have G2 := Lib.hid g
          clear g
          go_wp2_with fail
          go_roundw
          case rel => exact ⟨k + 1, by omega, by go_num, Hst.out, grown_trans Hg.out G2.out⟩
          case measure => simp [intOf]; omega
      · obtain rfl : k = ps.length := by omega
        have hf : ps.any noN = false := by have := Hno.out; rwa [List.take_of_length_le (Nat.le_refl _)] at this
        have Hf := Lib.hid (show goodL s.data.toList = decide (ps.length ≤ 8) by rw [Hgood.out, hf]; rfl)
        clear hf
        go_wp2_with fail
        go_ret
        exact ⟨ret_bool (by rw [Hf.out]; simp; omega), grown_trans G.out Hg.out⟩
/- a text of these bytes -/
def tx (l : List UInt8) : ByteArray := ⟨l.toArray⟩
theorem tx_list (l : List UInt8) : (tx l).data.toList = l := rfl
theorem tx_size (l : List UInt8) : (tx l).size = l.length := by show l.toArray.size = _; simp
theorem tx_of (s : ByteArray) : tx s.data.toList = s := rfl
theorem tx_eq {s : ByteArray} {l : List UInt8} (h : s.data.toList = l) : s = tx l := by rw [← h]; rfl
theorem tx_inj {a b : List UInt8} (h : tx a = tx b) : a = b := by have := congrArg (fun t => t.data.toList) h; exact this
def glueB (a b : ByteArray) : ByteArray := a ++ ⟨#[47]⟩ ++ b
theorem glueB_list {a b : ByteArray} (h : ¬ a.size = 0) : (glueB a b).data.toList = glue a.data.toList b.data.toList := by
  unfold glueB glue
  rw [if_neg (full_list h), ByteArray.data_append, Array.toList_append, ByteArray.data_append, Array.toList_append]
  simp
theorem glue_empty {a b : ByteArray} (h : a.size = 0) : glue a.data.toList b.data.toList = b.data.toList := by
  unfold glue; rw [if_pos (empty_list h)]
theorem place_full {a : ByteArray} (h : ¬ a.size = 0) : placeL a.data.toList = goodL a.data.toList := by
  unfold placeL
  cases hd : a.data.toList with
  | nil => exact absurd hd (full_list h)
  | cons x y => rfl
theorem place_empty {a : ByteArray} (h : a.size = 0) : placeL a.data.toList = true := by
  unfold placeL
  rw [empty_list h]
  rfl
theorem good_size {a : ByteArray} (h : goodL a.data.toList = true) : a.size ≤ 128 := by have := (goodL_iff.1 h).1; simpa using this
def Joined (r : Option (List UInt8)) (w : World) (e : Ending) (w' : World) : Prop :=
  e = .returned (.tuple #[.string (match r with | some l => tx l | none => ⟨#[]⟩), .int .i64 (if r.isSome then 0 else 10)]) ∧ Gr w w'
theorem joined_no {r : Option (List UInt8)} {w w' : World} {e : Ending} (h : r = none) (he : e = .returned (.tuple #[.string ⟨#[]⟩, .int .i64 10])) (g : Gr w w') : Joined r w e w' := by subst h; exact ⟨he, g⟩
theorem joined_yes {r : Option (List UInt8)} {w w' : World} {e : Ending} {s : ByteArray} (h : r = some s.data.toList) (he : e = .returned (.tuple #[.string s, .int .i64 0])) (g : Gr w w') : Joined r w e w' := by subst h; exact ⟨he, g⟩
theorem joinL_none {d s : List UInt8} (h : ¬ (goodL s = true ∧ placeL d = true ∧ goodL (glue d s) = true)) : joinL d s = none := by unfold joinL; rw [if_neg h]
theorem joinL_some {d s : List UInt8} (h1 : goodL s = true) (h2 : placeL d = true) (h3 : goodL (glue d s) = true) : joinL d s = some (glue d s) := by unfold joinL; rw [if_pos ⟨h1, h2, h3⟩]
set_option maxHeartbeats 2000000 in
theorem join_any (a b : ByteArray) (w : World) (ha : a.size ≤ 262144) (hb : b.size ≤ 262144) (hm : Ml w) :
    Calls Tryz.prog 49 #[.string a, .string b] w (Joined (joinL a.data.toList b.data.toList) w) := by
  have HP := place_any a w (by omega) hm
  cases hp : placeL a.data.toList
  · have Hj := Lib.hid (joinL_none (d := a.data.toList) (s := b.data.toList) (by rw [hp]; simp))
    rw [hp] at HP
    have HP := Lib.hid HP
    clear hp
    go_enter Tryz.func49, Tryz.ntmps49
    go_wp2_with fail
    refine HP.out.mono ?_
    rintro e w1 ⟨rfl, g⟩
    go_wp2_with fail
    go_ret2
    exact joined_no Hj.out rfl g
  · rw [hp] at HP
    have HP := Lib.hid HP
    have HG := fun w1 (g : Gr w w1) => good_any b w1 (by omega) (hm.keep g)
    cases hg : goodL b.data.toList
    · have Hj := Lib.hid (joinL_none (d := a.data.toList) (s := b.data.toList) (by rw [hg]; simp))
      rw [hg] at HG
      have HG := Lib.hid HG
      clear hp hg
      go_enter Tryz.func49, Tryz.ntmps49
      go_wp2_with fail
      refine HP.out.mono ?_
      rintro e w1 ⟨rfl, g⟩
      have G := Lib.hid g
      clear g
      go_wp2_with fail
      refine (HG.out w1 G.out).mono ?_
      rintro e w2 ⟨rfl, g⟩
      go_wp2_with fail
      go_ret2
      exact joined_no Hj.out rfl (grown_trans G.out g)
    · rw [hg] at HG
      have HG := Lib.hid HG
      by_cases h0 : a.size = 0
      · have Hj := Lib.hid (show joinL a.data.toList b.data.toList = some b.data.toList by rw [joinL_some hg hp (by rw [glue_empty h0]; exact hg), glue_empty h0])
        have e1 : a.toList = [] := by rw [Lib.toList_data]; exact empty_list h0
        clear hp hg
        go_enter Tryz.func49, Tryz.ntmps49
        go_wp2_with fail
        refine HP.out.mono ?_
        rintro e w1 ⟨rfl, g⟩
        have G := Lib.hid g
        clear g
        go_wp2_with fail
        refine (HG.out w1 G.out).mono ?_
        rintro e w2 ⟨rfl, g⟩
        have G2 := Lib.hid (grown_trans G.out g)
        clear g
        go_wp2_with fail
        refine (HG.out w2 G2.out).mono ?_
        rintro e w3 ⟨rfl, g⟩
        go_wp2_with fail
        go_ret2
        exact joined_yes Hj.out rfl (grown_trans G2.out g)
      · obtain ⟨e1, e2⟩ := full_str h0
        have hga : goodL a.data.toList = true := by rw [← place_full h0]; exact hp
        have hga' := good_size hga
        have hgb' := good_size hg
        have hX : (a ++ (⟨#[47]⟩ : ByteArray)).size = a.size + 1 := by rw [ByteArray.size_append]; rfl
        have hZ : (glueB a b).size = a.size + 1 + b.size := by unfold glueB; rw [ByteArray.size_append, hX]
        have hZ' : (glueB a b).size ≤ 1048576 := by omega
        have HG3 := fun w1 (g : Gr w w1) => good_any (glueB a b) w1 hZ' (hm.keep g)
        have q1 : ¬ 9223372036854775807 < a.size + 1 := by omega
        have q2 : ¬ 9223372036854775807 < (a ++ (⟨#[47]⟩ : ByteArray)).size + b.size := by omega
        cases hz : goodL (glueB a b).data.toList
        · have Hj := Lib.hid (joinL_none (d := a.data.toList) (s := b.data.toList) (by rw [← glueB_list h0, hz]; simp))
          rw [hz] at HG3
          have HG3 := Lib.hid HG3
          clear hp hg hz hX hZ hZ'
          go_enter Tryz.func49, Tryz.ntmps49
          go_wp2_with fail
          refine HP.out.mono ?_
          rintro e w1 ⟨rfl, g⟩
          have G := Lib.hid g
          clear g
          go_wp2_with fail
          refine (HG.out w1 G.out).mono ?_
          rintro e w2 ⟨rfl, g⟩
          have G2 := Lib.hid (grown_trans G.out g)
          clear g
          go_wp2_with fail
          refine (HG3.out w2 G2.out).mono ?_
          rintro e w3 ⟨rfl, g⟩
          go_wp2_with fail
          go_ret2
          exact joined_no Hj.out rfl (grown_trans G2.out g)
        · have Hj := Lib.hid (show joinL a.data.toList b.data.toList = some (glueB a b).data.toList by rw [joinL_some hg hp (by rw [← glueB_list h0]; exact hz), glueB_list h0])
          rw [hz] at HG3
          have HG3 := Lib.hid HG3
          clear hp hg hz hX hZ hZ'
          go_enter Tryz.func49, Tryz.ntmps49
          go_wp2_with fail
          refine HP.out.mono ?_
          rintro e w1 ⟨rfl, g⟩
          have G := Lib.hid g
          clear g
          go_wp2_with fail
          refine (HG.out w1 G.out).mono ?_
          rintro e w2 ⟨rfl, g⟩
          have G2 := Lib.hid (grown_trans G.out g)
          clear g
          go_wp2_with fail
          refine (HG3.out w2 G2.out).mono ?_
          rintro e w3 ⟨rfl, g⟩
          go_wp2_with fail
          go_ret2
          exact joined_yes Hj.out rfl (grown_trans G2.out g)
end Go.Proofs.YtilkcjcmcnlfnaaGreatDoor.Pth