/- Proved: the statement PathUnder holds for every two texts. Conditions: the listed package variables read as the program's text lays them (the card ties them); nothing else. -/
import Derived.Test.YtaiiabhcbeblbaaDoorPathFrame
import Derived.Test.YtaiiabhcbeblbaaDoorPathBackMath
import Derived.Test.YtaiiabhcbeblbaaDoorCards
import Derived.Test.YtaiiabhcbeblbaaDoorTie
namespace Go.Proofs.YtaiiabhcbeblbaaDoor
open Go.ChangeShapes Go.WideShapes Go.ChangeAt Go.RowKit
set_option linter.unusedVariables false
open Go.ChangeMaps (open_string shut_string)
set_option maxHeartbeats 1000000 in
theorem under_long (a b : ByteArray) (w : World) (hm : Ml w) (hl : 4096 < a.size ∨ 4096 < b.size) : Calls Tryd.prog 6 #[.string a, .string b] w (Bo true w) := by
  have Ha := Lib.hid (alive_any w hm)
  clear hm
  by_cases h1 : 4096 < a.size
  · clear hl
    go_enter Tryd.func6, Tryd.ntmps6
    go_wp2_with fail
    refine Ha.out.mono ?_
    rintro e w1 ⟨rfl, g⟩
    go_wp2_with fail
    go_ret
    exact ⟨rfl, g⟩
  · have h2 : 4096 < b.size := by omega
    clear hl
    go_enter Tryd.func6, Tryd.ntmps6
    go_wp2_with fail
    refine Ha.out.mono ?_
    rintro e w1 ⟨rfl, g⟩
    go_wp2_with fail
    go_ret
    exact ⟨rfl, g⟩
/- d stands ahead of one of the first k bytes, which is a stroke; or it is empty -/
def AtTo (s d : ByteArray) (k : Nat) : Prop := d.data.toList = [] ∨ ∃ i, ∃ hi : i < s.size, i < k ∧ s[i]'hi = 47 ∧ d = s.extract 0 i
theorem at_same {s d : ByteArray} {k : Nat} (h : k < s.size) (hx : ¬ (s[k]'h = 47 ∧ d = s.extract 0 k)) : AtTo s d (k + 1) ↔ AtTo s d k := by
  constructor
  · rintro (e | ⟨i, hi, hk, h47, e⟩)
    · exact .inl e
    · by_cases hik : i = k
      · subst hik; exact absurd ⟨h47, e⟩ hx
      · exact .inr ⟨i, hi, by omega, h47, e⟩
  · rintro (e | ⟨i, hi, hk, h47, e⟩)
    · exact .inl e
    · exact .inr ⟨i, hi, by omega, h47, e⟩
theorem at_hit {s d : ByteArray} {k : Nat} (h : k < s.size) (h47 : s[k]'h = 47) (e : d = s.extract 0 k) : AtTo s d (k + 1) := .inr ⟨k, h, by omega, h47, e⟩
theorem at_more {s d : ByteArray} {k : Nat} (h : AtTo s d k) : AtTo s d (k + 1) := by
  rcases h with e | ⟨i, hi, hk, h47, e⟩
  · exact .inl e
  · exact .inr ⟨i, hi, by omega, h47, e⟩
theorem at_end {s d : ByteArray} (h : goodL s.data.toList = true) : (underL d.data.toList s.data.toList).isSome = true ↔ AtTo s d s.size := by
  rw [under_some h]
  unfold AtTo
  constructor
  · rintro (e | ⟨i, hi, h47, e⟩)
    · exact .inl e
    · have hi' : i < s.size := by simpa using hi
      exact .inr ⟨i, hi', hi', h47, bytes_eq (by rw [ext_take]; exact e)⟩
  · rintro (e | ⟨i, hi, hk, h47, e⟩)
    · exact .inl e
    · refine .inr ⟨i, by simpa using hi, h47, ?_⟩
      rw [← ext_take, e]
theorem at_zero {s d : ByteArray} : AtTo s d 0 ↔ d.size = 0 := by
  unfold AtTo
  constructor
  · rintro (e | ⟨i, hi, hk, _⟩)
    · have := congrArg List.length e; simpa using this
    · omega
  · intro e; exact .inl (empty_list e)
set_option maxHeartbeats 4000000 in
theorem under_bad (s d : ByteArray) (w : World) (hm : Ml w) (ha : s.size ≤ 4096) (hb : d.size ≤ 4096) (hg : goodL s.data.toList = false) : Calls Tryd.prog 6 #[.string s, .string d] w (Bo true w) := by
  have Ha := Lib.hid (alive_any w hm)
  have HG := fun w1 (g : Gr w w1) => good_any s w1 (by omega) (hm.keep g)
  have HU := fun w1 (g : Gr w w1) => under_out d s w1 (by omega) (by omega) (hm.keep g) (underL_bad (by rw [hg]; simp))
  rw [hg] at HG
  have HG := Lib.hid HG
  have HU := Lib.hid HU
  clear hm hg
  go_enter Tryd.func6, Tryd.ntmps6
  go_wp2_with fail
  refine Ha.out.mono ?_
  rintro e w1 ⟨rfl, g⟩
  have G1 := Lib.hid g
  clear g
  go_wp2_with fail
  refine (HG.out w1 G1.out).mono ?_
  rintro e w2 ⟨rfl, g⟩
  have G2 := Lib.hid (grown_trans G1.out g)
  clear g
  go_wp2_with fail
  go_loopw [5, 6] (fun x i wr => x = .bool false ∧ i = .int .i64 0 ∧ Gr w wr) (fun x i _ => 0)
  case atStart => exact ⟨rfl, rfl, G2.out⟩
  case round =>
    obtain ⟨rfl, rfl, hgr⟩ := hrel
    have Gw := Lib.hid hgr
    clear hgr
    by_cases h0 : s.size = 0
    · go_wp2_with fail
      refine (HU.out wr Gw.out).mono ?_
      rintro e w3 ⟨rfl, g⟩
      go_wp2_with fail
      go_ret
      exact ⟨rfl, grown_trans Gw.out g⟩
    · have h1 : 0 < s.size := by omega
      have h2 : (0 : Int) < (s.size : Int) := by omega
      go_wp2_with fail
      refine (HG.out wr Gw.out).mono ?_
      rintro e w3 ⟨rfl, g⟩
      have G3 := Lib.hid (grown_trans Gw.out g)
      clear g
      go_wp2_with fail
      refine (HU.out w3 G3.out).mono ?_
      rintro e w4 ⟨rfl, g⟩
      go_wp2_with fail
      go_ret
      exact ⟨rfl, grown_trans G3.out g⟩
theorem under_res (d s : ByteArray) (w : World) (ha : d.size ≤ 8192) (hs : s.size ≤ 8192) (hm : Ml w) :
    Calls Tryd.prog 19 #[.string d, .string s] w fun e w' => ∃ X, e = .returned (.tuple #[.string X, .bool (underL d.data.toList s.data.toList).isSome]) ∧ Gr w w' :=
  (under_any d s w ha hs hm).mono fun e w' h => ⟨_, h⟩
set_option maxHeartbeats 8000000 in
theorem under_good (s d : ByteArray) (w : World) (hm : Ml w) (ha : s.size ≤ 4096) (hb : d.size ≤ 4096) (hg : goodL s.data.toList = true) : Calls Tryd.prog 6 #[.string s, .string d] w (Bo true w) := by
  have Ha := Lib.hid (alive_any w hm)
  have HG := fun w1 (g : Gr w w1) => good_any s w1 (by omega) (hm.keep g)
  have HU := fun w1 (g : Gr w w1) => under_res d s w1 (by omega) (by omega) (hm.keep g)
  have hend := at_end (d := d) hg
  obtain ⟨y, hy⟩ : ∃ y, (underL d.data.toList s.data.toList).isSome = y := ⟨_, rfl⟩
  rw [hy] at HU hend
  rw [hg] at HG
  have HG := Lib.hid HG
  have HU := Lib.hid HU
  have HE := Lib.hid hend
  have h0 : ∃ z : Bool, ((d.toList == []) = z) ∧ (z = true ↔ AtTo s d 0) ∧ (d.toList.isEmpty = z) ∧ ((!d.toList.isEmpty) = !z) := by
    by_cases hd : d.size = 0
    · have e1 : d.toList = [] := by rw [Lib.toList_data]; exact empty_list hd
      exact ⟨true, by rw [e1]; rfl, ⟨fun _ => at_zero.2 hd, fun _ => rfl⟩, by rw [e1]; rfl, by rw [e1]; rfl⟩
    · obtain ⟨e1, e2⟩ := full_str hd
      refine ⟨false, ?_, ⟨(fun h => by cases h), (fun h => absurd (at_zero.1 h) hd)⟩, e2, e1⟩
      rw [beq_eq_false_iff_ne]
      intro e; rw [e] at e2; cases e2
  obtain ⟨z, z1, hz, z2, z3⟩ := h0
  have HZ := Lib.hid hz
  clear hm hg hend hy hz
  go_enter Tryd.func6, Tryd.ntmps6
  go_wp2_with fail
  refine Ha.out.mono ?_
  rintro e w1 ⟨rfl, g⟩
  have G1 := Lib.hid g
  clear g
  go_wp2_with fail
  refine (HG.out w1 G1.out).mono ?_
  rintro e w2 ⟨rfl, g⟩
  have G2 := Lib.hid (grown_trans G1.out g)
  clear g
  go_wp2_with fail
  go_loopw [5, 6] (fun x i wr => ∃ (k : Nat) (b : Bool), k ≤ s.size ∧ i = .int .i64 k ∧ x = .bool b ∧ (b = true ↔ AtTo s d k) ∧ Gr w wr) (fun x i _ => s.size - (intOf i).toNat)
  case atStart => exact ⟨0, z, Nat.zero_le _, rfl, rfl, HZ.out, G2.out⟩
  case round =>
    obtain ⟨k, b, hk, rfl, rfl, hbk, hgr⟩ := hrel
    have Gw := Lib.hid hgr
    have HB := Lib.hid hbk
    clear hgr hbk z1 z2 z3
    by_cases hlt : k < s.size
    · cases b with
      | true =>
        have Hn := Lib.hid (show AtTo s d (k + 1) from at_more (HB.out.1 rfl))
        go_wp2_with fail
        refine (HG.out wr Gw.out).mono ?_
        rintro e w3 ⟨rfl, g⟩
        have G3 := Lib.hid (grown_trans Gw.out g)
        clear g
        go_wp2_with fail
        go_roundw
        case rel => exact ⟨k + 1, true, by omega, by go_num, rfl, ⟨fun _ => Hn.out, fun _ => rfl⟩, G3.out⟩
        case measure => simp [intOf]; omega
      | false =>
        by_cases h47 : s[k]'hlt = 47
        · have hbt : (((s[k]'hlt).toNat : Int) == 47) = true := by rw [h47]; rfl
          by_cases hx : d = s.extract 0 k
          · have Hn := Lib.hid (show AtTo s d (k + 1) from at_hit hlt h47 hx)
            have hxt : (d.toList == (s.extract 0 k).toList) = true := by rw [← hx]; simp
            clear h47 hx
            go_wp2_with fail
            refine (HG.out wr Gw.out).mono ?_
            rintro e w3 ⟨rfl, g⟩
            have G3 := Lib.hid (grown_trans Gw.out g)
            clear g
            go_wp2_with fail
            go_roundw
            case rel => exact ⟨k + 1, true, by omega, by go_num, rfl, ⟨fun _ => Hn.out, fun _ => rfl⟩, G3.out⟩
            case measure => simp [intOf]; omega
          · have Hn := Lib.hid (show (false = true ↔ AtTo s d (k + 1)) from HB.out.trans (at_same hlt (fun h => hx h.2)).symm)
            have hxt : (d.toList == (s.extract 0 k).toList) = false := by
              rw [beq_eq_false_iff_ne]
              intro e
              rw [Lib.toList_data, Lib.toList_data] at e
              exact hx (bytes_eq e)
            clear h47 hx
            go_wp2_with fail
            refine (HG.out wr Gw.out).mono ?_
            rintro e w3 ⟨rfl, g⟩
            have G3 := Lib.hid (grown_trans Gw.out g)
            clear g
            go_wp2_with fail
            go_roundw
            case rel => exact ⟨k + 1, false, by omega, by go_num, rfl, Hn.out, G3.out⟩
            case measure => simp [intOf]; omega
        · have Hn := Lib.hid (show (false = true ↔ AtTo s d (k + 1)) from HB.out.trans (at_same hlt (fun h => h47 h.1)).symm)
          have hbt : (((s[k]'hlt).toNat : Int) == 47) = false := by
            rw [beq_eq_false_iff_ne]; intro e; exact h47 (UInt8.toNat_inj.1 (by have h47 : (47 : UInt8).toNat = 47 := rfl; omega))
          clear h47
          go_wp2_with fail
          refine (HG.out wr Gw.out).mono ?_
          rintro e w3 ⟨rfl, g⟩
          have G3 := Lib.hid (grown_trans Gw.out g)
          clear g
          go_wp2_with fail
          go_roundw
          case rel => exact ⟨k + 1, false, by omega, by go_num, rfl, Hn.out, G3.out⟩
          case measure => simp [intOf]; omega
    · obtain rfl : k = s.size := by omega
      have hyb : y = b := by
        have := HE.out.trans HB.out.symm
        cases y <;> cases b <;> simp_all
      have Hyb := Lib.hid hyb
      clear hyb
      go_wp2_with fail
      refine (HU.out wr Gw.out).mono ?_
      rintro e w3 ⟨X, rfl, g⟩
      go_wp2_with fail
      go_ret
      exact ⟨ret_bool (by rw [Hyb.out]; simp), grown_trans Gw.out g⟩
theorem punder_all (s d : ByteArray) (w : World) (hm : Ml w) : Calls Tryd.prog 6 #[.string s, .string d] w (Bo true w) := by
  by_cases hl : 4096 < s.size ∨ 4096 < d.size
  · exact under_long s d w hm hl
  · cases hg : goodL s.data.toList
    · exact under_bad s d w hm (by omega) (by omega) hg
    · exact under_good s d w hm (by omega) (by omega) hg
/-FRAME-/
set_option maxRecDepth 100000 in
theorem pathUnder_lifted (os : Os) (started : os.Started) (H : Type) (enc : TypeId × Value → H) :
    ReturnsInHanded {} Tryd.checked os 6 .any (fun w args => (Rows.pathUnderSpec.pre enc Tryd.prog Tryd.f6 [] false w args ∧ laidMetH Tryd.prog Rows.pathUnderRow.laid w) ∧ sizedMet enc Tryd.prog Tryd.f6 (OpenSpec.ofChange Rows.pathUnderSpec) false w args)
      (Rows.pathUnderSpec.post enc Tryd.prog Tryd.f6 false true false false) := by
  refine returns_both (C := Tryd.checked) (X := fun w _ => laidMetH Tryd.prog Rows.pathUnderRow.laid w) (fun _ _ _ hh h => h.of_heap hh) Tryd.own started (by kernel_rfl) Tryd.func6
    (ChangeSpec.witness_shaped (enc := enc) (C := Tryd.checked) (os := os) (X := fun w _ => laidMetH Tryd.prog Rows.pathUnderRow.laid w) false (World.laidAll Tryd.prog os Rows.pathUnderRow.laid) #[.string ByteArray.empty, .string ByteArray.empty] 8 (World.laidAll_os _ _ _)
      (World.shaped_of_ZipB (by kernel_rfl) (by kernel_rfl)) (by kernel_rfl) (by kernel_rfl) (by kernel_rfl)
      (by rw [MakeChecks.laidMetH_plain _ _ _ (by kernel_rfl)]; exact laidMet_laidAll _ (by kernel_rfl) (by kernel_rfl))) ?_
  intro W base args ds gs before hval0 hW _ _ hL hsh _
  have hval : ∀ (j : Nat) t v, Tryd.f6.params[j]? = some t → args[j]? = some v → Value.okWide Tryd.prog W .any base t v := hval0
  have hW' := hW
  obtain ⟨p, q, hA0, hV, rfl, _, _⟩ := hW
  have hA : DataW.TrodAll enc Tryd.prog W 0 (fun _ => true) true Tryd.f6.params.toList args.toList ds p := hA0
  rw [Tryd.params6] at hA hval
  obtain ⟨v0, v1, d0, d1, p0, p1, rfl, rfl, rfl, h0, h1⟩ := trodAll_two hA
  obtain ⟨rfl, rfl⟩ := trodVars_none hV
  obtain ⟨x, rfl, rfl, rfl, wx⟩ := open_string Tryd.underlying9 (hval 0 9 v0 rfl rfl) h0
  obtain ⟨y, rfl, rfl, rfl, wy⟩ := open_string Tryd.underlying9 (hval 1 9 v1 rfl rfl) h1
  simp only [List.append_nil] at hW'
  rw [MakeChecks.laidMetH_plain _ _ _ (by kernel_rfl)] at hL
  have hm : Ml W := ml_of W hsh
  clear hA0 hval0
  refine (punder_all x y W hm).mono fun e W' ⟨he, hb⟩ => ?_
  subst he
  exact ⟨_, rfl, _, _, _, [], [], [], hW', trodAll_mk1 (shut_bool Tryd.underlying4 _), trodAll_mk2 (shut_string Tryd.underlying9 wx) (shut_string Tryd.underlying9 wy), rfl, hb.frame _, fun h => by cases h⟩
theorem pathUnder_holds : Rows.PathUnderSaid :=
  OpenClaim.holds_of_wide 6 Tryd.f6 rfl rfl rfl rfl rfl rfl rfl ⟨rfl, rfl, rfl, rfl, rfl⟩ rfl rfl rfl rfl rfl (by kernel_rfl) Tryd.func6 (by kernel_rfl)
    (of_decide_eq_true (by kernel_rfl)) (by unfold Func.isWrapper; first | (rw [if_pos (by decide +kernel)]; kernel_rfl) | (rw [if_neg (by decide +kernel)]; exact ⟨rfl, rfl⟩))
    (fun os started H enc _ => pathUnder_lifted os started H enc)
theorem pathUnder_card : Rows.PathUnderCardSaid :=
  Claim7.holds_tied_plain_at .later [] [.data, .pinned] true (true, "a8f8bbc15004f66aea69549307893ecb6e2d518abe993fc6358a2cca60c8479f") false pathUnder_holds (fun _ h => by cases h) (by kernel_rfl) (fun _ h => by cases h) pathUnder_row_tie rfl ⟨rfl, rfl⟩ (by kernel_rfl) rfl
    (fun f fn hf hfn => by
      obtain rfl : f = 6 := Option.some.inj ((show Tryd.prog.funcNamed "sapling/saplinglaw04.PathUnder" = some 6 by kernel_rfl).symm.trans hf) |>.symm
      obtain rfl : fn = Tryd.f6 := (Option.some.inj (Tryd.func6.symm.trans hfn)).symm
      exact ⟨by kernel_rfl, fun j t ht => by
        rw [Tryd.params6] at ht
        have hm : t ∈ [9, 9] := by simpa using Array.mem_of_getElem? ht
        have hall : ([9, 9].all fun u => !Tryd.prog.wantsStandIn u) = true := by kernel_rfl
        exact (show Tryd.prog.wantsStandIn t = false by simpa using List.all_eq_true.1 hall t hm)⟩)
    (by kernel_rfl)
#print axioms pathUnder_card
end Go.Proofs.YtaiiabhcbeblbaaDoor
