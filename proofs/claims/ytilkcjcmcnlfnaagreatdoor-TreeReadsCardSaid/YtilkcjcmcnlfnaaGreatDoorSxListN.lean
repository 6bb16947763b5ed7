/- The contract of List. Condition: at most 2^20 nodes and bytes. -/
import Derived.Test.YtilkcjcmcnlfnaaGreatDoorRdAtom
namespace Go.Proofs.YtilkcjcmcnlfnaaGreatDoor
set_option linter.unusedVariables false
open Go.ChangeShapes Go.WideShapes Go.ChangeAt Go.RowKit
set_option maxHeartbeats 1000000 in
theorem list_new (ks : List Nd) (hk : Nd.counts ks ≤ 1048576) (S : Nat → Prop) (v : Value) (kb ko : Nat) (w : World) (hs : NdS w S v ks kb ko) :
    Calls Tryz.prog 58 #[v] w fun e w' => Chg NoB w w' ∧ ∃ v', e = .returned v' ∧ NdV w' (NewB w w') v' (.mk false ⟨#[]⟩ ks) := by
  have hal := (Chg.refl NoB w).alloc (.cells #[.bool false, .string ⟨#[]⟩, .slice none 0 0] 71)
  have hblk := heap_alloc_new w (.cells #[.bool false, .string ⟨#[]⟩, .slice none 0 0] 71)
  obtain ⟨vb, hvb⟩ : ∃ vb, vb = w.heap.size := ⟨_, rfl⟩
  have hsz := lt_of_block hblk
  rw [← hvb] at hblk hsz
  have Hvb := Lib.hid hvb
  have Hal := Lib.hid hal
  have Hblk := Lib.hid hblk
  have Hs := Lib.hid (hs.keep hal fun _ _ => id)
  clear hal hblk hvb hs
  go_enter Tryz.func58, Tryz.ntmps58
  go_upto_region 1 with fail
  rw [← Hvb.out]
  generalize w.alloc (.cells #[.bool false, .string ⟨#[]⟩, .slice none 0 0] 71) = w1 at *
  go_wp2_with fail
  refine (copies_any 1048576 (Nat.le_refl _) ks hk S v kb ko w1 Hs.out).mono ?_
  rintro e w2 ⟨v2, kb2, ko2, rfl, hs2, hc2⟩
  have hs3 := hs2
  obtain ⟨⟨q, c, rfl, hq1, hq2, hq3⟩, _⟩ := hs2
  have Hs3 := Lib.hid hs3
  have Hc2 := Lib.hid hc2
  have hblk2 := row_kept hc2 Hblk.out id
  obtain ⟨d0, d1, d2⟩ := var3 hblk2
  have df := row_free hblk2
  have Hblk2 := Lib.hid hblk2
  obtain ⟨len, hlen⟩ : ∃ len, len = ks.length := ⟨_, rfl⟩
  rw [← hlen] at Hs3
  clear hc2 hblk2 hs3
  rw [← hlen]
  clear hlen hq1 hq3
  go_wp2_with fail
  obtain ⟨e0, e1, e2⟩ := var3 (box3 Hblk2.out (.bool false) (.string ⟨#[]⟩) (.slice q len c))
  have hfin := box3_chg (b := vb) (Hal.out.trans Hc2.out) (by rw [Hvb.out]; exact Nat.le_refl _) (.bool false) (.string ⟨#[]⟩) (.slice q len c)
  have hst := st3 w2 (g := vb) 0 (.bool false) (.string ⟨#[]⟩) (.slice q len c)
  have z1 := Hal.out.size
  have hv0 := Hvb.out
  generalize ((w2.setCell ⟨vb, 0, none⟩ (.bool false)).setCell ⟨vb, 1, none⟩ (.string ⟨#[]⟩)).setCell ⟨vb, 2, none⟩ (.slice q len c) = wf at *
  have z5 := hst.size
  refine bodyPost_ret (v := .agg #[.bool false, .string ⟨#[]⟩, .slice q len c]) (by simp [results, Tryz.results58, go_sem, e0, e1, e2]) rfl ⟨hfin, _, rfl, Nat.zero_le _, _, kb2, ko2, rfl, ?_⟩
  refine (Hs3.out.keep hst fun x hx hv => ?_).mono fun x hx => ?_
  · have : x = vb := hv
    omega
  · exact (⟨by omega, by omega⟩ : w.heap.size ≤ x ∧ x < wf.heap.size)
end Go.Proofs.YtilkcjcmcnlfnaaGreatDoor
