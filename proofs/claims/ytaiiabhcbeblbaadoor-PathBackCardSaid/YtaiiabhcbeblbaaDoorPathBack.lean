/- Proved: the statement PathBack holds for every two texts. Conditions: the listed package variables read as the program's text lays them (the card ties them); nothing else. -/
import Derived.Test.YtaiiabhcbeblbaaDoorPathFrame
import Derived.Test.YtaiiabhcbeblbaaDoorPathBackMath
import Derived.Test.YtaiiabhcbeblbaaDoorCards
import Derived.Test.YtaiiabhcbeblbaaDoorTie
namespace Go.Proofs.YtaiiabhcbeblbaaDoor
open Go.ChangeShapes Go.WideShapes Go.ChangeAt Go.RowKit
set_option linter.unusedVariables false
open Go.ChangeMaps (open_string shut_string)
theorem join_hit (a b : ByteArray) (r : List UInt8) (w : World) (ha : a.size ≤ 8192) (hb : b.size ≤ 8192) (hm : Ml w) (h : joinL a.data.toList b.data.toList = some r) :
    Calls Tryd.prog 15 #[.string a, .string b] w fun e w' => e = .returned (.tuple #[.string (tx r), .int .i64 0]) ∧ Gr w w' := join_lit a b r w ha hb hm h
theorem join_miss (a b : ByteArray) (w : World) (ha : a.size ≤ 8192) (hb : b.size ≤ 8192) (hm : Ml w) (h : joinL a.data.toList b.data.toList = none) :
    Calls Tryd.prog 15 #[.string a, .string b] w fun e w' => e = .returned (.tuple #[.string ⟨#[]⟩, .int .i64 10]) ∧ Gr w w' := by
  have := join_any a b w ha hb hm
  rw [h] at this
  exact this
theorem good_len {l : List UInt8} (h : goodL l = true) : (tx l).size ≤ 128 := by rw [tx_size]; exact (goodL_iff.1 h).1
/- what the call does from the second text's end on: the text taken apart and put together -/
def Rest (a : ByteArray) (w : World) : Prop :=
  ∃ d n : ByteArray, (∀ w1, Gr w w1 → Calls Tryd.prog 17 #[.string a] w1 fun e w' => e = .returned (.tuple #[.string d, .string n]) ∧ Gr w1 w') ∧
    (∀ w1, Gr w w1 → Calls Tryd.prog 15 #[.string d, .string n] w1 fun e w' => e = .returned (.tuple #[.string a, .int .i64 0]) ∧ Gr w1 w') ∧
    (∀ w1, Calls Tryd.prog 9 #[.string n] w1 (Bo true w1)) ∧
    ∃ (ps : List ByteArray) (T : Nat → ByteArray), ps.length ≤ 8 ∧ T 0 = ⟨#[]⟩ ∧ T ps.length = a ∧
      (∀ w1, Gr w w1 → Calls Tryd.prog 13 #[.string a] w1 fun e w' => ∃ b, e = .returned (.slice (some ⟨b, 0, none⟩) ps.length ps.length) ∧ Txts w' b ps ∧ Gr w1 w') ∧
      (∀ k (h : k < ps.length) w1, Gr w w1 → Calls Tryd.prog 15 #[.string (T k), .string ps[k]] w1 fun e w' => e = .returned (.tuple #[.string (T (k + 1)), .int .i64 0]) ∧ Gr w1 w')
theorem rest_of (a : ByteArray) (w : World) (hm : Ml w) (ht : Tabs w) (ha : a.size ≤ 4096) (hg : goodL a.data.toList = true) : Rest a w := by
  obtain ⟨j1, j2⟩ := base_join hg
  obtain ⟨p1, p2, p3, p4⟩ := join_parts j1
  have hd : (tx (baseL a.data.toList).1).size ≤ 8192 := by
    rw [tx_size]
    have hl : a.data.toList.length = a.size := by simp
    have : (baseL a.data.toList).1.length ≤ (glue (baseL a.data.toList).1 (baseL a.data.toList).2).length := by
      unfold glue
      split
      · rename_i h; rw [h]; simp
      · simp
    rw [← p4] at this
    omega
  have hn : (tx (baseL a.data.toList).2).size ≤ 8192 := by have := good_len p1; omega
  refine ⟨tx (baseL a.data.toList).1, tx (baseL a.data.toList).2, fun w1 g => base_any a w1 (by omega) (hm.keep g) (ht.keep g), fun w1 g => ?_, fun w1 => ?_, ?_⟩
  · exact join_hit _ _ _ w1 hd hn (hm.keep g) j1
  · have := name_any (tx (baseL a.data.toList).2) w1 (by omega)
    rw [tx_list, j2] at this
    exact this
  · obtain ⟨h1, h2, h3⟩ := goodL_iff.1 hg
    have hlen : ((pcs 47 a.data.toList).map tx).length = (pcs 47 a.data.toList).length := by simp
    refine ⟨(pcs 47 a.data.toList).map tx, fun k => tx (jn 47 ((pcs 47 a.data.toList).take k)), by rw [hlen]; exact h3, rfl, ?_, fun w1 g => ?_, fun k hk w1 g => ?_⟩
    · rw [hlen]
      show tx (jn 47 ((pcs 47 a.data.toList).take (pcs 47 a.data.toList).length)) = a
      rw [List.take_of_length_le (Nat.le_refl _), jn_pcs]
      rfl
    · refine (parts_yes a w1 (hm.keep g) hg).mono fun e w' ⟨ps, hps, b, he, _, _, ht, g⟩ => ?_
      obtain rfl : ps = (pcs 47 a.data.toList).map tx := by
        rw [← hps]
        clear hps he ht
        induction ps with
        | nil => rfl
        | cons p ps ih => rw [List.map_cons, List.map_cons, ← ih]; rfl
      exact ⟨b, he, ht, g⟩
    · rw [hlen] at hk
      have hj := parts_join hg k hk
      have hx : ((pcs 47 a.data.toList).map tx)[k]'(by rw [hlen]; exact hk) = tx (pcs 47 a.data.toList)[k] := by simp
      rw [hx]
      have q := join_parts hj
      have hz : (jn 47 ((pcs 47 a.data.toList).take k)).length ≤ 4096 := by
        by_cases h0 : k = 0
        · subst h0; simp [jn]
        · have := (goodL_iff.1 (take_good hg k (by omega))).1; omega
      exact join_hit _ _ _ w1 (by rw [tx_size]; omega) (by have := good_len q.1; omega) (hm.keep g) hj
set_option maxHeartbeats 1000000 in
theorem back_long (a b : ByteArray) (w : World) (hm : Ml w) (hl : 4096 < a.size ∨ 4096 < b.size) : Calls Tryd.prog 5 #[.string a, .string b] w (Bo true w) := by
  have Ha := Lib.hid (alive_any w hm)
  clear hm
  by_cases h1 : 4096 < a.size
  · clear hl
    go_enter Tryd.func5, Tryd.ntmps5
    go_wp2_with fail
    refine Ha.out.mono ?_
    rintro e w1 ⟨rfl, g⟩
    go_wp2_with fail
    go_ret
    exact ⟨rfl, g⟩
  · have h2 : 4096 < b.size := by omega
    clear hl
    go_enter Tryd.func5, Tryd.ntmps5
    go_wp2_with fail
    refine Ha.out.mono ?_
    rintro e w1 ⟨rfl, g⟩
    go_wp2_with fail
    go_ret
    exact ⟨rfl, g⟩
set_option maxHeartbeats 4000000 in
theorem back_bad (a b : ByteArray) (w : World) (hm : Ml w) (ha : a.size ≤ 4096) (hb : b.size ≤ 4096) (hg : goodL a.data.toList = false) : Calls Tryd.prog 5 #[.string a, .string b] w (Bo true w) := by
  have Ha := Lib.hid (alive_any w hm)
  have HG := fun w1 (g : Gr w w1) => good_any a w1 (by omega) (hm.keep g)
  rw [hg] at HG
  have HG := Lib.hid HG
  cases hj : joinL a.data.toList b.data.toList with
  | none =>
    have HJ := Lib.hid (fun w1 (g : Gr w w1) => join_miss a b w1 (by omega) (by omega) (hm.keep g) hj)
    clear hm hg hj
    go_enter Tryd.func5, Tryd.ntmps5
    go_wp2_with fail
    refine Ha.out.mono ?_
    rintro e w1 ⟨rfl, g⟩
    have G1 := Lib.hid g
    clear g
    go_wp2_with fail
    refine (HJ.out w1 G1.out).mono ?_
    rintro e w2 ⟨rfl, g⟩
    have G2 := Lib.hid (grown_trans G1.out g)
    clear g
    go_wp2_with fail
    refine (HG.out w2 G2.out).mono ?_
    rintro e w3 ⟨rfl, g⟩
    go_wp2_with fail
    go_ret
    exact ⟨rfl, grown_trans G2.out g⟩
  | some r =>
    have q := join_parts hj
    have hr := good_len q.2.2.1
    have HJ := Lib.hid (fun w1 (g : Gr w w1) => join_hit a b r w1 (by omega) (by omega) (hm.keep g) hj)
    have HU := Lib.hid (fun w1 (g : Gr w w1) => under_lit a (tx r) b.data.toList w1 (by omega) (by omega) (hm.keep g) (join_under hj))
    have HR := Lib.hid (fun w1 (g : Gr w w1) => good_lit (tx r) true w1 (by omega) (hm.keep g) q.2.2.1)
    have hbt : tx b.data.toList = b := rfl
    clear hm hg hj q hr
    go_enter Tryd.func5, Tryd.ntmps5
    go_wp2_with fail
    refine Ha.out.mono ?_
    rintro e w1 ⟨rfl, g⟩
    have G1 := Lib.hid g
    clear g
    go_wp2_with fail
    refine (HJ.out w1 G1.out).mono ?_
    rintro e w2 ⟨rfl, g⟩
    have G2 := Lib.hid (grown_trans G1.out g)
    clear g
    go_wp2_with fail
    refine (HU.out w2 G2.out).mono ?_
    rintro e w3 ⟨rfl, g⟩
    have G3 := Lib.hid (grown_trans G2.out g)
    clear g
    go_wp2_with fail
    refine (HR.out w3 G3.out).mono ?_
    rintro e w4 ⟨rfl, g⟩
    have G4 := Lib.hid (grown_trans G3.out g)
    clear g
    go_wp2_with fail
    refine (HG.out w4 G4.out).mono ?_
    rintro e w5 ⟨rfl, g⟩
    go_wp2_with fail
    go_ret
    exact ⟨rfl, grown_trans G4.out g⟩
set_option maxHeartbeats 8000000 in
theorem back_good (a b : ByteArray) (w : World) (hm : Ml w) (ht : Tabs w) (ha : a.size ≤ 4096) (hb : b.size ≤ 4096) (hg : goodL a.data.toList = true) : Calls Tryd.prog 5 #[.string a, .string b] w (Bo true w) := by
  have Ha := Lib.hid (alive_any w hm)
  have HG := fun w1 (g : Gr w w1) => good_any a w1 (by omega) (hm.keep g)
  obtain ⟨d, n, HB, HD, HN, ps, T, hpl, hT0, hTn, HP, HT⟩ := rest_of a w hm ht ha hg
  rw [hg] at HG
  have HG := Lib.hid HG
  have HB := Lib.hid HB
  have HD := Lib.hid HD
  have HN := Lib.hid HN
  have HP := Lib.hid HP
  have HT := Lib.hid HT
  have hT0 := Lib.hid hT0
  have hTn := Lib.hid hTn
  cases hj : joinL a.data.toList b.data.toList with
  | none =>
    have HJ := Lib.hid (fun w1 (g : Gr w w1) => join_miss a b w1 (by omega) (by omega) (hm.keep g) hj)
    clear hm ht hg hj
    go_enter Tryd.func5, Tryd.ntmps5
    go_wp2_with fail
    refine Ha.out.mono ?_
    rintro e w1 ⟨rfl, g⟩
    have G1 := Lib.hid g
    clear g
    go_wp2_with fail
    refine (HJ.out w1 G1.out).mono ?_
    rintro e w2 ⟨rfl, g⟩
    have G4 := Lib.hid (grown_trans G1.out g)
    clear g
    go_wp2_with fail
    refine (HG.out w2 G4.out).mono ?_
    rintro e w5 ⟨rfl, g⟩
    have G5 := Lib.hid (grown_trans G4.out g)
    clear g
    go_wp2_with fail
    refine (HB.out w5 G5.out).mono ?_
    rintro e w6 ⟨rfl, g⟩
    have G6 := Lib.hid (grown_trans G5.out g)
    clear g
    go_wp2_with fail
    refine (HD.out w6 G6.out).mono ?_
    rintro e w7 ⟨rfl, g⟩
    have G7 := Lib.hid (grown_trans G6.out g)
    clear g
    go_wp2_with fail
    refine (HN.out w7).mono ?_
    rintro e w8 ⟨rfl, g⟩
    have G8 := Lib.hid (grown_trans G7.out g)
    clear g
    go_wp2_with fail
    refine (HP.out w8 G8.out).mono ?_
    rintro e w9 ⟨blk, rfl, htx, g⟩
    have G9 := Lib.hid (grown_trans G8.out g)
    have TX := Lib.hid htx
    clear g htx
    go_wp2_with fail
    go_loopw [6, 11, 13, 79] (fun u t v i wr => ∃ k : Nat, k ≤ ps.length ∧ i = .int .i64 k ∧ t = .string (T k) ∧ Gr w9 wr) (fun _ _ _ i _ => ps.length - (intOf i).toNat)
    case atStart => exact ⟨0, Nat.zero_le _, rfl, by rw [hT0.out], Gr.refl _⟩
    case round =>
      obtain ⟨k, hk, rfl, rfl, hgr⟩ := hrel
      have Gw := Lib.hid hgr
      clear hgr
      by_cases hlt : k < ps.length
      · have c1 := (TX.out.keep Gw.out) k hlt
        have HT1 := Lib.hid (HT.out k hlt wr (grown_trans G9.out Gw.out))
        go_wp2_with fail
        refine HT1.out.mono ?_
        rintro e w10 ⟨rfl, g⟩
        have G10 := Lib.hid (grown_trans Gw.out g)
        clear g c1
        go_wp2_with fail
        go_roundw
        case rel => exact ⟨k + 1, by omega, by go_num, rfl, G10.out⟩
        case measure => simp [intOf]; omega
      · obtain rfl : k = ps.length := by omega
        have hTl : (T ps.length).toList = a.toList := by rw [hTn.out]
        go_wp2_with fail
        go_ret
        exact ⟨rfl, grown_trans G9.out Gw.out⟩
  | some r =>
    have q := join_parts hj
    have hr := good_len q.2.2.1
    have HJ := Lib.hid (fun w1 (g : Gr w w1) => join_hit a b r w1 (by omega) (by omega) (hm.keep g) hj)
    have HU := Lib.hid (fun w1 (g : Gr w w1) => under_lit a (tx r) b.data.toList w1 (by omega) (by omega) (hm.keep g) (join_under hj))
    have HR := Lib.hid (fun w1 (g : Gr w w1) => good_lit (tx r) true w1 (by omega) (hm.keep g) q.2.2.1)
    have hbt : tx b.data.toList = b := rfl
    clear hm ht hg hj q hr
    go_enter Tryd.func5, Tryd.ntmps5
    go_wp2_with fail
    refine Ha.out.mono ?_
    rintro e w1 ⟨rfl, g⟩
    have G1 := Lib.hid g
    clear g
    go_wp2_with fail
    refine (HJ.out w1 G1.out).mono ?_
    rintro e w2 ⟨rfl, g⟩
    have G2 := Lib.hid (grown_trans G1.out g)
    clear g
    go_wp2_with fail
    refine (HU.out w2 G2.out).mono ?_
    rintro e w3 ⟨rfl, g⟩
    have G3 := Lib.hid (grown_trans G2.out g)
    clear g
    go_wp2_with fail
    refine (HR.out w3 G3.out).mono ?_
    rintro e w4 ⟨rfl, g⟩
    have G4 := Lib.hid (grown_trans G3.out g)
    clear g
    go_wp2_with fail
    refine (HG.out w4 G4.out).mono ?_
    rintro e w5 ⟨rfl, g⟩
    have G5 := Lib.hid (grown_trans G4.out g)
    clear g
    go_wp2_with fail
    refine (HB.out w5 G5.out).mono ?_
    rintro e w6 ⟨rfl, g⟩
    have G6 := Lib.hid (grown_trans G5.out g)
    clear g
    go_wp2_with fail
    refine (HD.out w6 G6.out).mono ?_
    rintro e w7 ⟨rfl, g⟩
    have G7 := Lib.hid (grown_trans G6.out g)
    clear g
    go_wp2_with fail
    refine (HN.out w7).mono ?_
    rintro e w8 ⟨rfl, g⟩
    have G8 := Lib.hid (grown_trans G7.out g)
    clear g
    go_wp2_with fail
    refine (HP.out w8 G8.out).mono ?_
    rintro e w9 ⟨blk, rfl, htx, g⟩
    have G9 := Lib.hid (grown_trans G8.out g)
    have TX := Lib.hid htx
    clear g htx
    go_wp2_with fail
    go_loopw [6, 11, 13, 79] (fun u t v i wr => ∃ k : Nat, k ≤ ps.length ∧ i = .int .i64 k ∧ t = .string (T k) ∧ Gr w9 wr) (fun _ _ _ i _ => ps.length - (intOf i).toNat)
    case atStart => exact ⟨0, Nat.zero_le _, rfl, by rw [hT0.out], Gr.refl _⟩
    case round =>
      obtain ⟨k, hk, rfl, rfl, hgr⟩ := hrel
      have Gw := Lib.hid hgr
      clear hgr
      by_cases hlt : k < ps.length
      · have c1 := (TX.out.keep Gw.out) k hlt
        have HT1 := Lib.hid (HT.out k hlt wr (grown_trans G9.out Gw.out))
        go_wp2_with fail
        refine HT1.out.mono ?_
        rintro e w10 ⟨rfl, g⟩
        have G10 := Lib.hid (grown_trans Gw.out g)
        clear g c1
        go_wp2_with fail
        go_roundw
        case rel => exact ⟨k + 1, by omega, by go_num, rfl, G10.out⟩
        case measure => simp [intOf]; omega
      · obtain rfl : k = ps.length := by omega
        have hTl : (T ps.length).toList = a.toList := by rw [hTn.out]
        go_wp2_with fail
        go_ret
        exact ⟨rfl, grown_trans G9.out Gw.out⟩
theorem back_all (a b : ByteArray) (w : World) (hm : Ml w) (ht : Tabs w) : Calls Tryd.prog 5 #[.string a, .string b] w (Bo true w) := by
  by_cases hl : 4096 < a.size ∨ 4096 < b.size
  · exact back_long a b w hm hl
  · cases hg : goodL a.data.toList
    · exact back_bad a b w hm (by omega) (by omega) hg
    · exact back_good a b w hm ht (by omega) (by omega) hg
/-FRAME-/
set_option maxRecDepth 100000 in
theorem pathBack_lifted (os : Os) (started : os.Started) (H : Type) (enc : TypeId × Value → H) :
    ReturnsInHanded {} Tryd.checked os 5 .any (fun w args => (Rows.pathBackSpec.pre enc Tryd.prog Tryd.f5 [] false w args ∧ laidMetH Tryd.prog Rows.pathBackRow.laid w) ∧ sizedMet enc Tryd.prog Tryd.f5 (OpenSpec.ofChange Rows.pathBackSpec) false w args)
      (Rows.pathBackSpec.post enc Tryd.prog Tryd.f5 false true false false) := by
  refine returns_both (C := Tryd.checked) (X := fun w _ => laidMetH Tryd.prog Rows.pathBackRow.laid w) (fun _ _ _ hh h => h.of_heap hh) Tryd.own started (by kernel_rfl) Tryd.func5
    (ChangeSpec.witness_shaped (enc := enc) (C := Tryd.checked) (os := os) (X := fun w _ => laidMetH Tryd.prog Rows.pathBackRow.laid w) false (World.laidAll Tryd.prog os Rows.pathBackRow.laid) #[.string ByteArray.empty, .string ByteArray.empty] 8 (World.laidAll_os _ _ _)
      (World.shaped_of_ZipB (by kernel_rfl) (by kernel_rfl)) (by kernel_rfl) (by kernel_rfl) (by kernel_rfl)
      (by rw [MakeChecks.laidMetH_plain _ _ _ (by kernel_rfl)]; exact laidMet_laidAll _ (by kernel_rfl) (by kernel_rfl))) ?_
  intro W base args ds gs before hval0 hW _ _ hL hsh _
  have hval : ∀ (j : Nat) t v, Tryd.f5.params[j]? = some t → args[j]? = some v → Value.okWide Tryd.prog W .any base t v := hval0
  have hW' := hW
  obtain ⟨p, q, hA0, hV, rfl, _, _⟩ := hW
  have hA : DataW.TrodAll enc Tryd.prog W 0 (fun _ => true) true Tryd.f5.params.toList args.toList ds p := hA0
  rw [Tryd.params5] at hA hval
  obtain ⟨v0, v1, d0, d1, p0, p1, rfl, rfl, rfl, h0, h1⟩ := trodAll_two hA
  obtain ⟨rfl, rfl⟩ := trodVars_none hV
  obtain ⟨x, rfl, rfl, rfl, wx⟩ := open_string Tryd.underlying9 (hval 0 9 v0 rfl rfl) h0
  obtain ⟨y, rfl, rfl, rfl, wy⟩ := open_string Tryd.underlying9 (hval 1 9 v1 rfl rfl) h1
  simp only [List.append_nil] at hW'
  rw [MakeChecks.laidMetH_plain _ _ _ (by kernel_rfl)] at hL
  have hm : Ml W := ml_of W hsh
  have ht : Tabs W := tabs_of hL (.tail _ (.head _)) (.head _)
  clear hA0 hval0
  refine (back_all x y W hm ht).mono fun e W' ⟨he, hb⟩ => ?_
  subst he
  exact ⟨_, rfl, _, _, _, [], [], [], hW', trodAll_mk1 (shut_bool Tryd.underlying4 _), trodAll_mk2 (shut_string Tryd.underlying9 wx) (shut_string Tryd.underlying9 wy), rfl, hb.frame _, fun h => by cases h⟩
theorem pathBack_holds : Rows.PathBackSaid :=
  OpenClaim.holds_of_wide 5 Tryd.f5 rfl rfl rfl rfl rfl rfl rfl ⟨rfl, rfl, rfl, rfl, rfl⟩ rfl rfl rfl rfl rfl (by kernel_rfl) Tryd.func5 (by kernel_rfl)
    (of_decide_eq_true (by kernel_rfl)) (by unfold Func.isWrapper; first | (rw [if_pos (by decide +kernel)]; kernel_rfl) | (rw [if_neg (by decide +kernel)]; exact ⟨rfl, rfl⟩))
    (fun os started H enc _ => pathBack_lifted os started H enc)
theorem pathBack_card : Rows.PathBackCardSaid :=
  Claim7.holds_tied_plain_at .later [] [.data, .pinned] true (true, "a8f8bbc15004f66aea69549307893ecb6e2d518abe993fc6358a2cca60c8479f") false pathBack_holds (fun _ h => by cases h) (by kernel_rfl) (fun _ h => by cases h) pathBack_row_tie rfl ⟨rfl, rfl⟩ (by kernel_rfl) rfl
    (fun f fn hf hfn => by
      obtain rfl : f = 5 := Option.some.inj ((show Tryd.prog.funcNamed "sapling/saplinglaw04.PathBack" = some 5 by kernel_rfl).symm.trans hf) |>.symm
      obtain rfl : fn = Tryd.f5 := (Option.some.inj (Tryd.func5.symm.trans hfn)).symm
      exact ⟨by kernel_rfl, fun j t ht => by
        rw [Tryd.params5] at ht
        have hm : t ∈ [9, 9] := by simpa using Array.mem_of_getElem? ht
        have hall : ([9, 9].all fun u => !Tryd.prog.wantsStandIn u) = true := by kernel_rfl
        exact (show Tryd.prog.wantsStandIn t = false by simpa using List.all_eq_true.1 hall t hm)⟩)
    (by kernel_rfl)
#print axioms pathBack_card
end Go.Proofs.YtaiiabhcbeblbaaDoor
