/- The contract of the source's mark. Conditions: the source lies as AmLab says. -/
import Derived.Test.YtaihgciokfkonaaDoorAmLab
import Derived.RegionTactic

namespace Go.Proofs.YtaihgciokfkonaaDoor
set_option linter.unusedVariables false
open Go.ChangeShapes Go.WideShapes Go.ChangeAt Go.RowKit Go.ChangeMaps Go.MapKept
open Go.Maps (Keyed string_keyed)
theorem zInt (w : World) : (zeroValue 3).run Tryd.prog w = .ok (.int .i64 0) w := Tryd.zeroValue3 w
theorem lit_i64 {a : Int} (h0 : -9223372036854775808 ≤ a) (h1 : a ≤ 9223372036854775807) : (Lit.int .i64 a).wf = true := by
  have e1 : IntKind.i64.min = -9223372036854775808 := by decide
  have e2 : IntKind.i64.max = 9223372036854775807 := by decide
  unfold Lit.wf
  rw [Bool.and_eq_true, decide_eq_true_eq, decide_eq_true_eq, e1, e2]
  exact ⟨h0, h1⟩
def MarkP (lo ob mb : Nat) (s : SrcL) (n : List UInt8) (w : World) (e : Ending) (w' : World) : Prop :=
  if hasK s.labs n = true then e = .returned (.int .i64 11) ∧ Chg NoB w w' else e = .returned (.int .i64 0) ∧ Chg (fun k => k = mb) w w' ∧ SrcM w' lo ob mb ⟨s.labs ++ [(n, (s.list.length : Int))], s.list⟩
set_option maxHeartbeats 2000000 in
theorem mark_any (lo ob mb : Nat) (s : SrcL) (n : List UInt8) (w : World) (hs : SrcM w lo ob mb s) (h1 : mb < lo) (h2 : mb ≠ ob) (hn : n.length ≤ 65536) (hl : s.labs.length < 131072) : Calls Tryd.prog 38 #[.pointer (some ⟨ob, 0, none⟩), .string (tx n)] w (MarkP lo ob mb s n w) := by
  obtain ⟨q, c, hrow, hown⟩ := hs.row
  obtain ⟨c0, c1⟩ := var2 hrow
  have K : Keyed Tryd.prog 9 := string_keyed Tryd.underlying9
  have hkey := kkey n (by omega)
  have Hs := Lib.hid hs
  have Hm := Lib.hid hs.map
  have hhas := labD_has s.labs n
  by_cases hk : hasK s.labs n = true
  · rw [hk] at hhas
    have Hr := Lib.hid hk
    clear hown hrow hs
    go_enter Tryd.func38, Tryd.ntmps38
    go_wp2_with (at_lookup; go_loud (refine wpList_lookup_own_ok_int _ rfl _ _ 41 rfl 9 3 .i64 K Tryd.underlying41 Tryd.underlying3 (zInt _) mb _ (labD s.labs) rfl Hm.out _ _ rfl hkey ?_); intro cv hat hwc)
    go_ret
    unfold MarkP
    rw [if_pos Hr.out]
    exact ⟨rfl, Chg.refl _ _⟩
  · have hkf : hasK s.labs n = false := by simpa using hk
    rw [hkf] at hhas
    have Hr := Lib.hid hk
    obtain ⟨len, hlen⟩ : ∃ l, l = s.list.length := ⟨_, rfl⟩
    rw [← hlen] at c1
    have hle : len ≤ 131072 := by rw [hlen]; exact hs.wf.2.1
    obtain ⟨w9, hrun, hown9, hgrow⟩ := Hm.out.drew.update K Tryd.underlying41 (by unfold maxLen; omega) hkey (plainElem_int (H := Unit) Tryd.underlying3 (a := (len : Int)) (lit_i64 (by omega) (by omega)))
    have Hown9 := Lib.hid hown9
    have Hgrow := Lib.hid hgrow
    have Hlen := Lib.hid hlen
    clear hown hrow hs hk hown9 hgrow hlen
    go_enter Tryd.func38, Tryd.ntmps38
    go_wp2_with (at_lookup; go_loud (refine wpList_lookup_own_ok_int _ rfl _ _ 41 rfl 9 3 .i64 K Tryd.underlying41 Tryd.underlying3 (zInt _) mb _ (labD s.labs) rfl Hm.out _ _ rfl hkey ?_); intro cv hat hwc)
    go_region
    go_wp2_with fail
    go_ret
    unfold MarkP
    rw [if_neg Hr.out]
    have hc : Chg (fun k => k = mb) w w9 := ((Chg.refl _ w).drew).grown Hgrow.out fun k e => .inl (by cases e; rfl)
    refine ⟨rfl, hc, ?_⟩
    obtain ⟨q', c', e1, e2⟩ := Hs.out.row
    refine ⟨⟨q', c', row_kept hc e1 (fun e => h2 e.symm), ownsRow_chg e2 hc fun k e x => ?_⟩, ?_, ?_, ⟨Hs.out.wf.1, Hs.out.wf.2.1, ?_⟩⟩
    · have := (World.ownsRow.lt e2 k e).1; omega
    · rw [labD_snoc, List.length_append, ← Hlen.out]
      exact Hown9.out
    · rw [List.map_append, List.map_singleton]
      refine List.nodup_append.2 ⟨Hs.out.nd, by simp, ?_⟩
      intro a ha b hb e
      rw [List.mem_singleton.1 hb] at e
      rw [e] at ha
      exact hasK_not.1 hkf ha
    · rw [List.length_append, List.length_singleton]; omega
end Go.Proofs.YtaihgciokfkonaaDoor
