/- The contracts of Parts, Good and place. Condition: the text is at most 2^16 bytes; the library's own variable holds some number. -/
import Derived.Test.YtilkcjcmcnlfnaaGreatDoorPthWalkB
namespace Go.Proofs.YtilkcjcmcnlfnaaGreatDoor.Pth
set_option linter.unusedVariables false
open Go.ChangeShapes Go.WideShapes Go.ChangeAt Go.RowKit
def Ml (w : World) : Prop := ∃ m, w.cell? ⟨0, 0, none⟩ = some (.int .i64 m)
theorem Ml.keep {w w' : World} (h : Ml w) (g : Gr w w') : Ml w' := by
  obtain ⟨m, h⟩ := h
  exact ⟨m, g.keep h⟩
/- a block of texts -/
def Txts (w : World) (b : Nat) (ps : List ByteArray) : Prop := ∀ j (h : j < ps.length), w.cell? ⟨b, j, none⟩ = some (.string ps[j])
theorem Txts.keep {w w' : World} {b : Nat} {ps : List ByteArray} (h : Txts w b ps) (g : Gr w w') : Txts w' b ps := fun j hj => g.keep (h j hj)
def PartsAt (l : List UInt8) (ps : List ByteArray) (w : World) (e : Ending) (w' : World) : Prop :=
  ps.map (·.data.toList) = pcs 47 l ∧ ∃ b, e = .returned (.slice (some ⟨b, 0, none⟩) ps.length ps.length) ∧ w.heap.size ≤ b ∧ b < w'.heap.size ∧ Txts w' b ps ∧ Gr w w'
theorem split_any (s : ByteArray) (w : World) (hs : s.size ≤ 1048576) (hm : Ml w) :
    Calls Tryz.prog 85 #[.string s, .string ⟨#[47]⟩] w fun e w' => ∃ ps, PartsAt s.data.toList ps w e w' := by
  obtain ⟨m, hm⟩ := hm
  refine (Tryz.strings_Split s ⟨#[47]⟩ m w (by omega) hm (by decide)).mono fun e w' ⟨q1, q2⟩ => ?_
  obtain ⟨e1, e2⟩ := split_pcs 47 _ s.data.toList (Nat.le_refl _)
  have hl : (Lib.splitB ⟨#[47]⟩ 0 (Lib.countB s ⟨#[47]⟩) s).length = Lib.countB s ⟨#[47]⟩ + 1 := Lib.splitB_all _ (by decide) 0 _ s rfl
  subst q2
  refine ⟨Lib.splitB ⟨#[47]⟩ 0 (Lib.countB s ⟨#[47]⟩) s, ?_, w.heap.size, ?_, Nat.le_refl _, ?_, fun j hj => ?_, (Gr.refl _).alloc _ _⟩
  · rw [Lib.splitB_data]; exact e1
  · rw [q1, hl]
  · show _ < (w.heap.push _).size; simp
  · rw [cell_of_row _ w.heap.size j _ 9 (0, 0) (heap_alloc_new w (.cells ((Lib.splitB ⟨#[47]⟩ 0 (Lib.countB s ⟨#[47]⟩) s).map Value.string).toArray 9))]
    simp [List.getElem?_eq_getElem hj]
theorem parts_small {l : List UInt8} {ps : List ByteArray} (h : ps.map (·.data.toList) = pcs 47 l) (hl : l.length ≤ 1048576) : ∀ p ∈ ps, p.size ≤ 1048576 := by
  intro p hp
  have hm : p.data.toList ∈ pcs 47 l := by rw [← h]; exact List.mem_map.2 ⟨p, hp, rfl⟩
  have := pcs_small 47 l _ hm
  simp at this
  omega
theorem parts_len {l : List UInt8} {ps : List ByteArray} (h : ps.map (·.data.toList) = pcs 47 l) : ps.length = (pcs 47 l).length := by
  have := congrArg List.length h
  simpa using this
theorem all_noN (ps : List ByteArray) : ps.all (nameL ∘ fun x => x.data.toList) = !ps.any noN := by
  induction ps with
  | nil => rfl
  | cons p ps ih => rw [List.all_cons, List.any_cons, ih, Bool.not_or, show noN p = !nameL p.data.toList from rfl, Bool.not_not]; rfl
theorem parts_good {l : List UInt8} {ps : List ByteArray} (h : ps.map (·.data.toList) = pcs 47 l) (hl : l.length ≤ 128) : goodL l = (!ps.any noN && decide (ps.length ≤ 8)) := by
  unfold goodL
  rw [parts_len h, ← h, decide_eq_true hl, List.all_map, Bool.true_and]
  rw [all_noN]
def PartsNo (w : World) (e : Ending) (w' : World) : Prop := e = .returned (.slice none 0 0) ∧ Gr w w'
def PartsYes (l : List UInt8) (w : World) (e : Ending) (w' : World) : Prop := ∃ ps, PartsAt l ps w e w'
theorem good_great {s : ByteArray} (h : 128 < s.size) : goodL s.data.toList = false := by
  cases hg : goodL s.data.toList with
  | false => rfl
  | true => have := (goodL_iff.1 hg).1; simp at this; omega
set_option maxHeartbeats 1000000 in
theorem parts_no (s : ByteArray) (w : World) (hs : s.size ≤ 1048576) (hm : Ml w) (hg : goodL s.data.toList = false) :
    Calls Tryz.prog 66 #[.string s] w (PartsNo w) := by
  have Hg := Lib.hid hg
  clear hg
  by_cases h128 : 128 < s.size
  · go_enter Tryz.func66, Tryz.ntmps66
    go_wp2
    go_ret
    exact ⟨rfl, Gr.refl _⟩
  · go_enter Tryz.func66, Tryz.ntmps66
    go_wp2_with fail
    refine (split_any s w hs hm).mono ?_
    rintro e w1 ⟨ps, hps, b, rfl, hb1, hb2, ht, g⟩
    have hgood := parts_good hps (by simp; omega)
    have hlen := parts_len hps
    have hsm := parts_small hps (by simp; omega)
    have hpl := pcs_len 47 s.data.toList
    have hsz : s.data.toList.length = s.size := by simp
    rw [Hg.out] at hgood
    have G := Lib.hid g
    have T := Lib.hid ht
    have Hsm := Lib.hid hsm
    clear g ht hsm hps
    by_cases h8 : 8 < ps.length
    · clear hgood hlen hpl hsz
      go_wp2_with fail
      go_ret
      exact ⟨rfl, G.out⟩
    · have hany : ps.any noN = true := by
        rw [decide_eq_true (by omega : ps.length ≤ 8)] at hgood
        simpa using hgood.symm
      have H := Lib.hid (containsf_any ps b w1 (by omega) Hsm.out T.out)
      have Ha := Lib.hid hany
      clear hgood hlen hpl hsz hany
      go_wp2_with fail
      refine H.out.mono ?_
      rintro e w2 ⟨rfl, g2⟩
      rw [Ha.out]
      go_wp2_with fail
      go_ret
      exact ⟨rfl, grown_trans G.out g2⟩
set_option maxHeartbeats 1000000 in
theorem parts_yes (s : ByteArray) (w : World) (hm : Ml w) (hg : goodL s.data.toList = true) :
    Calls Tryz.prog 66 #[.string s] w (PartsYes s.data.toList w) := by
  have h128 : s.size ≤ 128 := by have := (goodL_iff.1 hg).1; simpa using this
  have Hg := Lib.hid hg
  clear hg
  go_enter Tryz.func66, Tryz.ntmps66
  go_wp2_with fail
  refine (split_any s w (by omega) hm).mono ?_
  rintro e w1 ⟨ps, hps, b, rfl, hb1, hb2, ht, g⟩
  have hgood := parts_good hps (by simp; omega)
  have hsm := parts_small hps (by simp; omega)
  rw [Hg.out] at hgood
  have hany : ps.any noN = false ∧ ps.length ≤ 8 := by simpa using hgood.symm
  obtain ⟨hany, h8⟩ := hany
  have H := Lib.hid (containsf_any ps b w1 (by omega) hsm ht)
  have G := Lib.hid g
  have T := Lib.hid ht
  have Hps := Lib.hid hps
  have Ha := Lib.hid hany
  clear hgood hany g ht hsm hps
  go_wp2_with fail
  refine H.out.mono ?_
  rintro e w2 ⟨rfl, g2⟩
  rw [Ha.out]
  go_wp2_with fail
  go_ret
  exact ⟨ps, Hps.out, b, rfl, hb1, by have := g2.size; omega, T.out.keep g2, grown_trans G.out g2⟩
set_option maxHeartbeats 1000000 in
theorem good_any (s : ByteArray) (w : World) (hs : s.size ≤ 1048576) (hm : Ml w) : Calls Tryz.prog 32 #[.string s] w (Bo (goodL s.data.toList) w) := by
  have hq := fun (w : World) a n c => run_neq_slice_nil_any (P := Tryz.prog) w 40 9 a n c 0 0 Tryz.underlying40
  cases hg : goodL s.data.toList
  · have H := Lib.hid (parts_no s w hs hm hg)
    clear hg
    go_enter Tryz.func32, Tryz.ntmps32
    go_wp2_with fail
    refine H.out.mono ?_
    rintro e w1 ⟨rfl, g⟩
    go_wp2_with fail
    go_ret
    exact ⟨rfl, g⟩
  · have H := Lib.hid (parts_yes s w hm hg)
    clear hg
    go_enter Tryz.func32, Tryz.ntmps32
    go_wp2_with fail
    refine H.out.mono ?_
    rintro e w1 ⟨ps, hps, b, rfl, hb1, hb2, ht, g⟩
    have G := Lib.hid g
    clear hps ht g
    go_wp2_with fail
    go_ret
    exact ⟨rfl, G.out⟩
theorem empty_list {s : ByteArray} (h : s.size = 0) : s.data.toList = [] := List.eq_nil_of_length_eq_zero (by simpa using h)
theorem full_list {s : ByteArray} (h : ¬ s.size = 0) : s.data.toList ≠ [] := fun e => h (by have := congrArg List.length e; simpa using this)
theorem full_str {s : ByteArray} (h : ¬ s.size = 0) : (!s.toList.isEmpty) = true ∧ s.toList.isEmpty = false := by
  have := full_list h
  rw [Lib.toList_data]
  cases hd : s.data.toList with
  | nil => exact absurd hd this
  | cons a b => exact ⟨rfl, rfl⟩
set_option maxHeartbeats 1000000 in
theorem place_any (s : ByteArray) (w : World) (hs : s.size ≤ 1048576) (hm : Ml w) : Calls Tryz.prog 77 #[.string s] w (Bo (placeL s.data.toList) w) := by
  by_cases h0 : s.size = 0
  · have hr : placeL s.data.toList = true := by unfold placeL; rw [empty_list h0]; rfl
    have Hr := Lib.hid hr
    have e1 : s.toList = [] := by rw [Lib.toList_data]; exact empty_list h0
    clear hr
    go_enter Tryz.func77, Tryz.ntmps77
    go_wp2
    go_ret
    exact ⟨ret_bool Hr.out.symm, Gr.refl _⟩
  · obtain ⟨e1, e2⟩ := full_str h0
    have hr : placeL s.data.toList = goodL s.data.toList := by
      unfold placeL
      cases hd : s.data.toList with
      | nil => exact absurd hd (full_list h0)
      | cons a b => rfl
    rw [hr]
    clear hr
    have H := Lib.hid (good_any s w hs hm)
    go_enter Tryz.func77, Tryz.ntmps77
    go_wp2_with fail
    refine H.out.mono ?_
    rintro e w1 ⟨rfl, g⟩
    go_wp2_with fail
    go_ret
    exact ⟨rfl, g⟩
end Go.Proofs.YtilkcjcmcnlfnaaGreatDoor.Pth