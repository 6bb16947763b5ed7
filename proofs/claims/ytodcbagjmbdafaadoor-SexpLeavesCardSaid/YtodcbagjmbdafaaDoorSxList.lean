/- The contracts of List and Leaves (what it makes), and of the statements' own guard. Condition: at most 2^20 nodes and bytes; the library's variables. -/
import Derived.Test.YtodcbagjmbdafaaDoorSxDec
import Derived.Test.YtodcbagjmbdafaaDoorWrRef
namespace Go.Proofs.YtodcbagjmbdafaaDoor
set_option linter.unusedVariables false
open Go.ChangeShapes Go.WideShapes Go.ChangeAt Go.RowKit
set_option maxHeartbeats 1000000 in
theorem list_new (ks : List Nd) (hk : Nd.counts ks ≤ 1048576) (S : Nat → Prop) (v : Value) (kb ko : Nat) (w : World) (hs : NdS w S v ks kb ko) :
    Calls Tryd.prog 21 #[v] w fun e w' => Chg NoB w w' ∧ ∃ v', e = .returned v' ∧ NdV w' (NewB w w') v' (.mk false ⟨#[]⟩ ks) := by
  have hal := (Chg.refl NoB w).alloc (.cells #[.bool false, .string ⟨#[]⟩, .slice none 0 0] 24)
  have hblk := heap_alloc_new w (.cells #[.bool false, .string ⟨#[]⟩, .slice none 0 0] 24)
  obtain ⟨vb, hvb⟩ : ∃ vb, vb = w.heap.size := ⟨_, rfl⟩
  have hsz := lt_of_block hblk
  rw [← hvb] at hblk hsz
  have Hvb := Lib.hid hvb
  have Hal := Lib.hid hal
  have Hblk := Lib.hid hblk
  have Hs := Lib.hid (hs.keep hal fun _ _ => id)
  clear hal hblk hvb hs
  go_enter Tryd.func21, Tryd.ntmps21
  go_upto_region 1 with fail
  rw [← Hvb.out]
  generalize w.alloc (.cells #[.bool false, .string ⟨#[]⟩, .slice none 0 0] 24) = w1 at *
  go_wp2_with fail
  refine (copies_any 1048576 (Nat.le_refl _) ks hk S v kb ko w1 Hs.out).mono ?_
  rintro e w2 ⟨v2, kb2, ko2, rfl, hs2, hc2⟩
  have hs3 := hs2
  obtain ⟨⟨q, c, rfl, hq1, hq2, hq3⟩, _⟩ := hs2
  have Hs3 := Lib.hid hs3
  have Hc2 := Lib.hid hc2
  have hblk2 := row_kept hc2 Hblk.out id
  obtain ⟨d0, d1, d2⟩ := var3 hblk2
  have df := row_free hblk2
  have Hblk2 := Lib.hid hblk2
  obtain ⟨len, hlen⟩ : ∃ len, len = ks.length := ⟨_, rfl⟩
  rw [← hlen] at Hs3
  clear hc2 hblk2 hs3
  rw [← hlen]
  clear hlen hq1 hq3
  go_wp2_with fail
  obtain ⟨e0, e1, e2⟩ := var3 (box3 Hblk2.out (.bool false) (.string ⟨#[]⟩) (.slice q len c))
  have hfin := box3_chg (b := vb) (Hal.out.trans Hc2.out) (by rw [Hvb.out]; exact Nat.le_refl _) (.bool false) (.string ⟨#[]⟩) (.slice q len c)
  have hst := st3 w2 (g := vb) 0 (.bool false) (.string ⟨#[]⟩) (.slice q len c)
  have z1 := Hal.out.size
  have hv0 := Hvb.out
  generalize ((w2.setCell ⟨vb, 0, none⟩ (.bool false)).setCell ⟨vb, 1, none⟩ (.string ⟨#[]⟩)).setCell ⟨vb, 2, none⟩ (.slice q len c) = wf at *
  have z5 := hst.size
  refine bodyPost_ret (v := .agg #[.bool false, .string ⟨#[]⟩, .slice q len c]) (by simp [results, Tryd.results21, go_sem, e0, e1, e2]) rfl ⟨hfin, _, rfl, Nat.zero_le _, _, kb2, ko2, rfl, ?_⟩
  refine (Hs3.out.keep hst fun x hx hv => ?_).mono fun x hx => ?_
  · have : x = vb := hv
    omega
  · exact (⟨by omega, by omega⟩ : w.heap.size ≤ x ∧ x < wf.heap.size)
set_option maxHeartbeats 4000000 in
theorem leaves_new (n : Nd) (hn : n.count ≤ 1048576) (S : Nat → Prop) (v : Value) (w : World) (hv : NdV w S v n) :
    Calls Tryd.prog 23 #[v] w fun e w' => Chg NoB w w' ∧ ∃ b s' kb' ko', e = .returned (.func (.func 32) #[] #[.pointer (some ⟨b, 0, none⟩)]) ∧
      w.heap.size ≤ b ∧ w'.heap[b]? = some (.cells #[.bool n.leaf, .string n.atom, s'] 24 (0, 0)) ∧ NdS w' (NewB w w') s' n.kids kb' ko' := by
  have Hv := Lib.hid hv
  obtain ⟨ha, s, kb, ko, rfl, hs⟩ := hv
  have Hs := Lib.hid hs
  obtain ⟨⟨q, c, rfl, hkc, hcm, hqq⟩, hk⟩ := hs
  have hal := (Chg.refl NoB w).alloc (.cells #[.bool n.leaf, .string n.atom, .slice q n.kids.length c] 24)
  have hblk := heap_alloc_new w (.cells #[.bool n.leaf, .string n.atom, .slice q n.kids.length c] 24)
  obtain ⟨vb, hvb⟩ : ∃ vb, vb = w.heap.size := ⟨_, rfl⟩
  rw [← hvb] at hblk
  obtain ⟨v0, v1, v2⟩ := var3 hblk
  have hvg0 := lt_of_block hblk
  have Hvb := Lib.hid hvb
  have Hal := Lib.hid hal
  have hcnt : Nd.counts n.kids ≤ 1048576 := by
    cases n with
    | mk a b c => rw [Nd.count] at hn; show Nd.counts c ≤ _; omega
  have Hcnt := Lib.hid hcnt
  clear hal hblk hvb hk hqq hcnt
  go_enter Tryd.func23, Tryd.ntmps23
  go_upto_region 1 with fail
  rw [← Hvb.out]
  generalize w.alloc (.cells #[.bool n.leaf, .string n.atom, .slice q n.kids.length c] 24) = w1 at *
  have hvg : ¬ vb = w1.heap.size := by omega
  have k0 := (((Chg.refl NoB w1).alloc (.cells #[.bool false, .string ⟨#[]⟩, .slice none 0 0] 24)).drew).keep v0
  have k1 := (((Chg.refl NoB w1).alloc (.cells #[.bool false, .string ⟨#[]⟩, .slice none 0 0] 24)).drew).keep v1
  have k2 := (((Chg.refl NoB w1).alloc (.cells #[.bool false, .string ⟨#[]⟩, .slice none 0 0] 24)).drew).keep v2
  go_region_held3 (fun w' => w'.cell? ⟨vb, 0, none⟩ = some (.bool n.leaf) ∧ w'.cell? ⟨vb, 1, none⟩ = some (.string n.atom) ∧ w'.cell? ⟨vb, 2, none⟩ = some (.slice q n.kids.length c))
    (first | exact ⟨v0, v1, v2⟩ | exact ⟨k0, k1, k2⟩ | exact hu | exact haz | exact hav)
    (first
      | (go_at_call 31; refine (copies_any 1048576 (Nat.le_refl _) n.kids Hcnt.out S _ kb ko w1.drew ((Hs.out.keep Hal.out fun _ _ => id).keep (Chg.drew (Chg.refl NoB _)) fun _ _ => id)).mono ?_; rintro e w6 ⟨_, kb2, ko2, rfl, ⟨⟨q2, cc2, rfl, p1, p2, p3⟩, hN6⟩, hc6⟩; have u0 := hc6.keep v0; have u1 := hc6.keep v1; have u2 := hc6.keep v2; have hu := And.intro u0 (And.intro u1 u2); have haz := And.intro (((Chg.refl NoB w6).alloc (.cells #[.bool false, .string ⟨#[]⟩, .slice none 0 0] 24)).keep u0) (And.intro (((Chg.refl NoB w6).alloc (.cells #[.bool false, .string ⟨#[]⟩, .slice none 0 0] 24)).keep u1) (((Chg.refl NoB w6).alloc (.cells #[.bool false, .string ⟨#[]⟩, .slice none 0 0] 24)).keep u2)); have hav := And.intro (((Chg.refl NoB w6).alloc (.cells #[.bool n.leaf, .string n.atom, .slice q2 n.kids.length cc2] 24)).keep u0) (And.intro (((Chg.refl NoB w6).alloc (.cells #[.bool n.leaf, .string n.atom, .slice q2 n.kids.length cc2] 24)).keep u1) (((Chg.refl NoB w6).alloc (.cells #[.bool n.leaf, .string n.atom, .slice q2 n.kids.length cc2] 24)).keep u2)); clear u0 u1 u2)
      | (go_at_call 31; refine (copies_any 1048576 (Nat.le_refl _) n.kids Hcnt.out S _ kb ko (w1.alloc (.cells #[.bool false, .string ⟨#[]⟩, .slice none 0 0] 24)).drew ((Hs.out.keep Hal.out fun _ _ => id).keep (Chg.drew ((Chg.refl NoB _).alloc _)) fun _ _ => id)).mono ?_; rintro e w6 ⟨_, kb2, ko2, rfl, ⟨⟨q2, cc2, rfl, p1, p2, p3⟩, hN6⟩, hc6⟩; have u0 := hc6.keep k0; have u1 := hc6.keep k1; have u2 := hc6.keep k2; obtain ⟨r0, r1, r2⟩ := var3 (row_kept hc6 (heap_alloc_new w1 (.cells #[.bool false, .string ⟨#[]⟩, .slice none 0 0] 24)) id); have r3 := row_free (row_kept hc6 (heap_alloc_new w1 (.cells #[.bool false, .string ⟨#[]⟩, .slice none 0 0] 24)) id); have hu := And.intro u0 (And.intro u1 u2); have haz := hu; have hav := And.intro ((st3 w6 (g := w1.heap.size) 0 (.bool n.leaf) (.string n.atom) (.slice q2 n.kids.length cc2)).cell u0 hvg) (And.intro ((st3 w6 (g := w1.heap.size) 0 (.bool n.leaf) (.string n.atom) (.slice q2 n.kids.length cc2)).cell u1 hvg) ((st3 w6 (g := w1.heap.size) 0 (.bool n.leaf) (.string n.atom) (.slice q2 n.kids.length cc2)).cell u2 hvg)); clear u0 u1 u2))
  · clear hu haz hav
    go_wp2_with fail
    have hz1 := Hal.out.size
    have hz6 : w1.heap.size ≤ w6.heap.size := hc6.size
    have hal7 := (Chg.refl NoB w6).alloc (.cells #[.bool n.leaf, .string n.atom, .slice q2 n.kids.length cc2] 24)
    have hblk7 := heap_alloc_new w6 (.cells #[.bool n.leaf, .string n.atom, .slice q2 n.kids.length cc2] 24)
    have hS7 : NdS w6 (fun x => w1.drew.heap.size ≤ x ∧ x < w6.heap.size) (.slice q2 n.kids.length cc2) n.kids kb2 ko2 := ⟨⟨q2, cc2, rfl, p1, p2, p3⟩, hN6⟩
    have hS8 := (hS7.keep hal7 fun _ _ => id)
    have hz7 := hal7.size
    have hc1 : Chg NoB w1 w6 := ((Chg.refl NoB w1).drew).trans hc6
    generalize w6.alloc (.cells #[.bool n.leaf, .string n.atom, .slice q2 n.kids.length cc2] 24) = wf at *
    go_ret
    refine ⟨Hal.out.trans (hc1.trans hal7), w6.heap.size, _, kb2, ko2, rfl, by omega, hblk7, hS8.mono fun x hx => ?_⟩
    have h1 : w1.heap.size ≤ x := hx.1
    have h2 : x < w6.heap.size := hx.2
    exact (⟨by omega, by omega⟩ : w.heap.size ≤ x ∧ x < wf.heap.size)
  · have hblk6 := row_kept hc6 (heap_alloc_new w1 (.cells #[.bool false, .string ⟨#[]⟩, .slice none 0 0] 24)) id
    clear hu haz hav
    go_wp2_with fail
    have hz1 := Hal.out.size
    have hz6 : w1.heap.size + 1 ≤ w6.heap.size := by have := hc6.size; rw [show (w1.alloc (.cells #[.bool false, .string ⟨#[]⟩, .slice none 0 0] 24)).drew.heap.size = w1.heap.size + 1 from alloc_size w1 _] at this; exact this
    have hblk7 := box3 hblk6 (.bool n.leaf) (.string n.atom) (.slice q2 n.kids.length cc2)
    have hst := st3 w6 (g := w1.heap.size) 0 (.bool n.leaf) (.string n.atom) (.slice q2 n.kids.length cc2)
    have hc1 : Chg NoB w1 w6 := (((Chg.refl NoB w1).alloc (.cells #[.bool false, .string ⟨#[]⟩, .slice none 0 0] 24)).drew).trans hc6
    have hfin := box3_chg (b := w1.heap.size) hc1 (Nat.le_refl _) (.bool n.leaf) (.string n.atom) (.slice q2 n.kids.length cc2)
    have hS7 : NdS w6 (fun x => (w1.alloc (.cells #[.bool false, .string ⟨#[]⟩, .slice none 0 0] 24)).drew.heap.size ≤ x ∧ x < w6.heap.size) (.slice q2 n.kids.length cc2) n.kids kb2 ko2 := ⟨⟨q2, cc2, rfl, p1, p2, p3⟩, hN6⟩
    have hS8 := hS7.keep hst fun x hx hv => by
      have h1 : w1.heap.size + 1 ≤ x := by have := hx.1; rw [show (w1.alloc (.cells #[.bool false, .string ⟨#[]⟩, .slice none 0 0] 24)).drew.heap.size = w1.heap.size + 1 from alloc_size w1 _] at this; exact this
      have : x = w1.heap.size := hv
      omega
    have hz7 := hst.size
    generalize ((w6.setCell ⟨w1.heap.size, 0, none⟩ (.bool n.leaf)).setCell ⟨w1.heap.size, 1, none⟩ (.string n.atom)).setCell ⟨w1.heap.size, 2, none⟩ (.slice q2 n.kids.length cc2) = wf at *
    go_ret
    refine ⟨Hal.out.trans hfin, w1.heap.size, _, kb2, ko2, rfl, hz1, hblk7, hS8.mono fun x hx => ?_⟩
    have h1 : w1.heap.size + 1 ≤ x := by have := hx.1; rw [show (w1.alloc (.cells #[.bool false, .string ⟨#[]⟩, .slice none 0 0] 24)).drew.heap.size = w1.heap.size + 1 from alloc_size w1 _] at this; exact this
    have h2 : x < w6.heap.size := hx.2
    exact (⟨by omega, by omega⟩ : w.heap.size ≤ x ∧ x < wf.heap.size)
end Go.Proofs.YtodcbagjmbdafaaDoor
