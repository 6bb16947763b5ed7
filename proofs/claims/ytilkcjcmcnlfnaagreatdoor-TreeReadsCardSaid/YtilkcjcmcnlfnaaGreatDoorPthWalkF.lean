/- The contracts of the document's Join, and of both Bases. Condition: the texts are at most 2^13 bytes; the library's tables of utf8 read as laid. -/
import Derived.Test.YtilkcjcmcnlfnaaGreatDoorPthWalkE
import Derived.Lib.TrimAscii
import Derived.Shelf.GgClosure.StringsTrimFunc
import Derived.Deep.QuietTactic
import Derived.BigQuiet
namespace Go.Proofs.YtilkcjcmcnlfnaaGreatDoor.Pth
set_option linter.unusedVariables false
open Go.ChangeShapes Go.WideShapes Go.ChangeAt Go.RowKit
set_option maxHeartbeats 2000000 in
theorem joinR_any (a b : ByteArray) (w : World) (ha : a.size ≤ 262144) (hb : b.size ≤ 262144) :
    Calls Tryz.prog 50 #[.string a, .string b] w (Joined (joinL a.data.toList b.data.toList) w) := by
  have HG := fun w => goodR_any b w (by omega)
  cases hg : goodL b.data.toList
  · have Hj := Lib.hid (joinL_none (d := a.data.toList) (s := b.data.toList) (by rw [hg]; simp))
    rw [hg] at HG
    have HG := Lib.hid HG
    clear hg
    go_enter Tryz.func50, Tryz.ntmps50
    go_wp2_with fail
    refine (HG.out _).mono ?_
    rintro e w1 ⟨rfl, g⟩
    go_wp2_with fail
    go_ret2
    exact joined_no Hj.out rfl g
  · rw [hg] at HG
    have HG := Lib.hid HG
    by_cases h0 : a.size = 0
    · have Hj := Lib.hid (show joinL a.data.toList b.data.toList = some b.data.toList by rw [joinL_some hg (place_empty h0) (by rw [glue_empty h0]; exact hg), glue_empty h0])
      have e1 : a.toList = [] := by rw [Lib.toList_data]; exact empty_list h0
      clear hg
      go_enter Tryz.func50, Tryz.ntmps50
      go_wp2_with fail
      refine (HG.out _).mono ?_
      rintro e w1 ⟨rfl, g⟩
      go_wp2_with fail
      go_ret2
      exact joined_yes Hj.out rfl g
    · obtain ⟨e1, e2⟩ := full_str h0
      have HA := fun w => goodR_any a w (by omega)
      cases hga : goodL a.data.toList
      · have Hj := Lib.hid (joinL_none (d := a.data.toList) (s := b.data.toList) (by rw [place_full h0, hga]; simp))
        rw [hga] at HA
        have HA := Lib.hid HA
        clear hg hga
        go_enter Tryz.func50, Tryz.ntmps50
        go_wp2_with fail
        refine (HG.out _).mono ?_
        rintro e w1 ⟨rfl, g⟩
        have G := Lib.hid g
        clear g
        go_wp2_with fail
        refine (HA.out _).mono ?_
        rintro e w2 ⟨rfl, g⟩
        go_wp2_with fail
        go_ret2
        exact joined_no Hj.out rfl (grown_trans G.out g)
      · rw [hga] at HA
        have HA := Lib.hid HA
        have hga' := good_size hga
        have hgb' := good_size hg
        have hX : (a ++ (⟨#[47]⟩ : ByteArray)).size = a.size + 1 := by rw [ByteArray.size_append]; rfl
        have hZ : (glueB a b).size = a.size + 1 + b.size := by unfold glueB; rw [ByteArray.size_append, hX]
        have hZ' : (glueB a b).size ≤ 1048576 := by omega
        have HG3 := fun w1 => goodR_any (glueB a b) w1 hZ'
        have q1 : ¬ 9223372036854775807 < a.size + 1 := by omega
        have q2 : ¬ 9223372036854775807 < (a ++ (⟨#[47]⟩ : ByteArray)).size + b.size := by omega
        cases hz : goodL (glueB a b).data.toList
        · have Hj := Lib.hid (joinL_none (d := a.data.toList) (s := b.data.toList) (by rw [← glueB_list h0, hz]; simp))
          rw [hz] at HG3
          have HG3 := Lib.hid HG3
          clear hg hga hz hX hZ hZ'
          go_enter Tryz.func50, Tryz.ntmps50
          go_wp2_with fail
          refine (HG.out _).mono ?_
          rintro e w1 ⟨rfl, g⟩
          have G := Lib.hid g
          clear g
          go_wp2_with fail
          refine (HA.out _).mono ?_
          rintro e w2 ⟨rfl, g⟩
          have G2 := Lib.hid (grown_trans G.out g)
          clear g
          go_wp2_with fail
          refine (HG3.out _).mono ?_
          rintro e w3 ⟨rfl, g⟩
          go_wp2_with fail
          go_ret2
          exact joined_no Hj.out rfl (grown_trans G2.out g)
        · have Hj := Lib.hid (show joinL a.data.toList b.data.toList = some (glueB a b).data.toList by rw [joinL_some hg (by rw [place_full h0]; exact hga) (by rw [← glueB_list h0]; exact hz), glueB_list h0])
          rw [hz] at HG3
          have HG3 := Lib.hid HG3
          clear hg hga hz hX hZ hZ'
          go_enter Tryz.func50, Tryz.ntmps50
          go_wp2_with fail
          refine (HG.out _).mono ?_
          rintro e w1 ⟨rfl, g⟩
          have G := Lib.hid g
          clear g
          go_wp2_with fail
          refine (HA.out _).mono ?_
          rintro e w2 ⟨rfl, g⟩
          have G2 := Lib.hid (grown_trans G.out g)
          clear g
          go_wp2_with fail
          refine (HG3.out _).mono ?_
          rintro e w3 ⟨rfl, g⟩
          go_wp2_with fail
          go_ret2
          exact joined_yes Hj.out rfl (grown_trans G2.out g)
/- where the last stroke stands -/
def Tabs (w : World) : Prop := Lib.Utf8Tabs 2 3 w
theorem Tabs.keep {w w' : World} (h : Tabs w) (g : Gr w w') : Tabs w' :=
  ⟨fun c hc => g.keep (h.1 c hc), fun i hi => ⟨g.keep (h.2 i hi).1, g.keep (h.2 i hi).2⟩⟩
def lastIx (c : UInt8) (l : List UInt8) : Int := match lastCut c l with | some (d, _) => (d.length : Int) | none => -1
theorem lastIx_hit (c : UInt8) (l : List UInt8) : lastIx c (l ++ [c]) = l.length := by
  unfold lastIx; rw [lastCut_eq (d := l) (n := []) (by simp)]
theorem lastIx_miss {c b : UInt8} (l : List UInt8) (h : b ≠ c) : lastIx c (l ++ [b]) = lastIx c l := by
  unfold lastIx
  rcases lastCut_spec c l with ⟨e, hn⟩ | ⟨d, n, e, rfl, hn⟩
  · rw [e, lastCut_none (by simp [hn, Ne.symm h])]
  · rw [e, List.append_assoc, List.cons_append, lastCut_eq (by simp [hn, Ne.symm h])]
theorem lastIdx_eq (s : ByteArray) (ha : ∀ b ∈ s.data.toList, b.toNat < 128) : ∀ (f i : Nat), i ≤ f → i ≤ s.size → Lib.lastIdxFuncFrom (fun r => decide ((r : Int) = 47)) true s f i = lastIx 47 (s.data.toList.take i) := by
  intro f
  induction f with
  | zero =>
    intro i hi _
    obtain rfl : i = 0 := by omega
    rfl
  | succ f ih =>
    intro i hi hs
    unfold Lib.lastIdxFuncFrom
    by_cases h0 : 0 < i
    · rw [if_pos h0]
      obtain ⟨k, rfl⟩ : ∃ k, i = k + 1 := ⟨i - 1, by omega⟩
      rw [take_more s k (by omega), Lib.decodeLastL_ascii _ _ (ha _ (byte_mem s k (by omega)))]
      simp only [Nat.add_sub_cancel]
      by_cases hb : s[k] = 47
      · rw [hb, lastIx_hit, if_pos (by decide), List.length_take]
        have : s.data.toList.length = s.size := by simp
        omega
      · have hn : ¬ (s[k]).toNat = 47 := fun e => hb (UInt8.toNat_inj.1 (by rw [e]; rfl))
        rw [lastIx_miss _ hb, if_neg (by simp; omega), ih k (by omega) (by omega)]
    · obtain rfl : i = 0 := by omega
      rw [if_neg (by omega)]
      rfl
theorem lastIdx_all (s : ByteArray) (h : goodL s.data.toList = true) : Lib.lastIdxFunc (fun r => decide ((r : Int) = 47)) true s = lastIx 47 s.data.toList := by
  unfold Lib.lastIdxFunc
  rw [lastIdx_eq s (goodL_bytes h) _ _ (Nat.le_refl _) (Nat.le_refl _), List.take_of_length_le (by simp)]
theorem Gr.drewN {a w : World} (h : Gr a w) (n : Nat) : Gr a (w.drewN n) := ⟨h.os, h.tape, h.output, h.size, h.block⟩
def Based (r : List UInt8 × List UInt8) (w : World) (e : Ending) (w' : World) : Prop := e = .returned (.tuple #[.string (tx r.1), .string (tx r.2)]) ∧ Gr w w'
theorem baseL_no {l : List UInt8} (h : goodL l = false) : baseL l = ([], []) := by unfold baseL; rw [h]; rfl
theorem baseL_one {l : List UInt8} (h : goodL l = true) (h2 : (47 : UInt8) ∉ l) : baseL l = ([], l) := by unfold baseL; rw [h, lastCut_none h2]; rfl
theorem baseL_two {l d n : List UInt8} (h : goodL l = true) (h2 : lastCut 47 l = some (d, n)) : baseL l = (d, n) := by unfold baseL; rw [h, h2]; rfl
theorem based_mk {r : List UInt8 × List UInt8} {w w' : World} {e : Ending} {d n : ByteArray} (h : r = (d.data.toList, n.data.toList)) (he : e = .returned (.tuple #[.string d, .string n])) (g : Gr w w') : Based r w e w' := by subst h; exact ⟨he, g⟩
theorem cut_at (s : ByteArray) {d n : List UInt8} (h : s.data.toList = d ++ 47 :: n) : (s.extract 0 d.length).data.toList = d ∧ (s.extract (d.length + 1) s.size).data.toList = n := by
  have hs : s.size = d.length + 1 + n.length := by have := congrArg List.length h; simp at this; omega
  constructor
  · rw [ByteArray.data_extract, Array.toList_extract, List.extract_eq_take_drop, h]
    simp
  · rw [ByteArray.data_extract, Array.toList_extract, List.extract_eq_take_drop, h, hs]
    rw [← List.drop_drop, List.drop_left, List.drop_succ_cons, List.drop_zero, List.take_of_length_le (by omega)]
theorem cut_hit {l d n : List UInt8} {c : UInt8} (h : l = d ++ c :: n) (hn : c ∉ n) : lastCut c l = some (d, n) := by rw [h]; exact lastCut_eq hn
theorem drop_more (s : ByteArray) (k : Nat) (h : k < s.size) : s.data.toList.drop k = s[k] :: s.data.toList.drop (k + 1) := by
  have hl : k < s.data.toList.length := by simpa using h
  exact List.drop_eq_getElem_cons hl
end Go.Proofs.YtilkcjcmcnlfnaaGreatDoor.Pth