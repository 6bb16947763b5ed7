/- The contracts of the reading of digits and of the splitting. Conditions: the library's table of powers of ten and its error read as laid. -/
import Derived.Test.YtaijhebjjbcdfaaGreatDoorVerParseMath
import Derived.Test.YtaijhebjjbcdfaaGreatDoorShelf
import Derived.Lib.AtoiBound
namespace Go.Proofs.YtaijhebjjbcdfaaGreatDoor.Ver
set_option linter.unusedVariables false
open Go.ChangeShapes Go.WideShapes Go.ChangeAt Go.RowKit Go.Sort
theorem gSyn : Tryz.prog.globalNamed "strconv.ErrSyntax" = some 6 := by kernel_rfl
def Er (w : World) : Prop := ∃ tp p, w.var? Tryz.prog "strconv.ErrSyntax" = some #[.iface tp p]
theorem Er.keep {w w' : World} (h : Er w) (g : Gr w w') : Er w' := by
  obtain ⟨tp, p, h⟩ := h
  exact ⟨tp, p, Joins.var_stays gSyn h g (Nat.le_refl _)⟩
theorem digits_none (s : ByteArray) (w : World) (hl : s.size ≤ 18) (h : digR s.data.toList = none) (he : Er w) (ht : Tb w) : Calls Tryz.prog 79 #[.string s] w (Digits 0 false w) := by
  obtain ⟨tp, p, hv⟩ := he
  unfold digR at h
  cases ha : Lib.atoi s.data.toList with
  | none =>
    have hc := Tryz.strconv_Atoi_err_var s hl ha tp p w hv
    have Hc := Lib.hid hc
    clear hc ha hv h
    go_enter Tryz.func79, Tryz.ntmps79
    go_wp2_with fail
    refine Hc.out.mono ?_
    rintro e w1 ⟨N, rfl, _, _, g⟩
    have G := Lib.hid (show Gr w w1 from g)
    clear g
    go_wp2_with fail
    go_ret2
    exact ⟨rfl, G.out⟩
  | some n =>
    rw [ha] at h
    simp only at h
    have hne : ¬ Lib.itoa n = s.data.toList := fun e => by rw [if_pos e] at h; cases h
    have hx : (!Lib.itoa n == s.toList) = true := by rw [Lib.toList_data]; simp [hne]
    have hbn := Lib.atoi_bound ha (by simpa using hl)
    clear h hne
    go_enter Tryz.func79, Tryz.ntmps79
    go_wp2_with fail
    refine (atoi_gr s n hl ha w).mono ?_
    rintro e w1 ⟨rfl, hg⟩
    have G := Lib.hid hg
    clear hg
    go_wp2_with fail
    refine (itoa_gr n (by omega) (by omega) _ (ht.keep G.out)).mono ?_
    rintro e w2 ⟨rfl, hg2⟩
    have G2 := Lib.hid hg2
    clear hg2
    go_wp2_with fail
    go_ret2
    exact ⟨rfl, grown_trans G.out G2.out⟩
theorem digits_some (s : ByteArray) (n : Int) (w : World) (hl : s.size ≤ 18) (h : digR s.data.toList = some n) (ht : Tb w) : Calls Tryz.prog 79 #[.string s] w (Digits n true w) := by
  unfold digR at h
  cases ha : Lib.atoi s.data.toList with
  | none => rw [ha] at h; cases h
  | some m =>
    rw [ha] at h
    simp only at h
    split at h
    · rename_i hx
      cases h
      have hbn := Lib.atoi_bound ha (by simpa using hl)
      have hy : (ByteArray.mk (Lib.itoa n).toArray) = s := by rw [hx]
      have Hy := Lib.hid hy
      clear hx hy
      go_enter Tryz.func79, Tryz.ntmps79
      go_wp2_with fail
      refine (atoi_gr s n hl ha w).mono ?_
      rintro e w1 ⟨rfl, hg⟩
      have G := Lib.hid hg
      clear hg
      go_wp2_with fail
      refine (itoa_gr n (by omega) (by omega) _ (ht.keep G.out)).mono ?_
      rintro e w2 ⟨rfl, hg2⟩
      rw [Hy.out]
      have G2 := Lib.hid hg2
      clear hg2
      go_wp2_with fail
      go_ret2
      exact ⟨rfl, grown_trans G.out G2.out⟩
    · cases h
theorem split_any (s : ByteArray) (m : Int) (w : World) (hs : s.size ≤ 65536) (hm : w.cell? ⟨2, 0, none⟩ = some (.int .i64 m)) :
    Calls Tryz.prog 78 #[.string s, .string ⟨#[46]⟩] w fun e w' => ∃ ps : List ByteArray, ps.map (·.data.toList) = pcs 46 s.data.toList ∧ Sp ps w e w' := by
  refine (Tryz.strings_Split s ⟨#[46]⟩ m w (by omega) hm (by decide)).mono fun e w' ⟨q1, q2⟩ => ?_
  obtain ⟨e1, e2⟩ := split_pcs 46 _ s.data.toList (Nat.le_refl _)
  refine ⟨Lib.splitB ⟨#[46]⟩ 0 (Lib.countB s ⟨#[46]⟩) s, ?_, ?_⟩
  · rw [Lib.splitB_data]; exact e1
  · have hl : (Lib.splitB ⟨#[46]⟩ 0 (Lib.countB s ⟨#[46]⟩) s).length = Lib.countB s ⟨#[46]⟩ + 1 := Lib.splitB_all _ (by decide) 0 _ s rfl
    refine ⟨?_, q2⟩
    rw [q1, hl]
end Go.Proofs.YtaijhebjjbcdfaaGreatDoor.Ver
