/- Proved: the statement PathLimits holds for every two numbers. Conditions: the listed package variables read as the program's text lays them (the card ties them); nothing else. -/
import Derived.Test.YtaiiabhcbeblbaaDoorPathFrame
import Derived.Test.YtaiiabhcbeblbaaDoorPathBackMath
import Derived.Test.YtaiiabhcbeblbaaDoorCards
import Derived.Test.YtaiiabhcbeblbaaDoorTie
namespace Go.Proofs.YtaiiabhcbeblbaaDoor
open Go.ChangeShapes Go.WideShapes Go.ChangeAt Go.RowKit
set_option linter.unusedVariables false
set_option maxHeartbeats 2000000 in
theorem limits_out (n m : Int) (w : World) (hm : Ml w) (hl : n < 1 ∨ 20 < n ∨ m < 1 ∨ 140 < m) : Calls Tryd.prog 7 #[.int .i64 n, .int .i64 m] w (Bo true w) := by
  have Ha := Lib.hid (alive_any w hm)
  clear hm
  rcases (show n < 1 ∨ (1 ≤ n ∧ 20 < n) ∨ ((1 ≤ n ∧ n ≤ 20) ∧ m < 1) ∨ ((1 ≤ n ∧ n ≤ 20) ∧ 1 ≤ m ∧ 140 < m) by omega) with h | ⟨h, h2⟩ | ⟨⟨h, h2⟩, h3⟩ | ⟨⟨h, h2⟩, h3, h4⟩
  all_goals
    clear hl
    go_enter Tryd.func7, Tryd.ntmps7
    go_wp2_with fail
    refine Ha.out.mono ?_
    rintro e w1 ⟨rfl, g⟩
    go_wp2_with fail
    go_ret
    exact ⟨rfl, g⟩
theorem tx_snoc (l : List UInt8) (b : UInt8) : tx l ++ (⟨#[b]⟩ : ByteArray) = tx (l ++ [b]) := bytes_eq (by rw [ByteArray.data_append, Array.toList_append, tx_list, tx_list])
theorem tx_app (l r : List UInt8) : tx l ++ tx r = tx (l ++ r) := bytes_eq (by rw [ByteArray.data_append, Array.toList_append, tx_list, tx_list, tx_list])
def oneT (k : Nat) : ByteArray := tx (List.replicate k 110)
theorem oneT_zero : oneT 0 = ⟨#[]⟩ := rfl
theorem oneT_succ (k : Nat) : oneT k ++ (⟨#[110]⟩ : ByteArray) = oneT (k + 1) := by unfold oneT; rw [tx_snoc, List.replicate_succ']
theorem oneT_size (k : Nat) : (oneT k).size = k := by unfold oneT; rw [tx_size, List.length_replicate]
def manyT (k m : Nat) : ByteArray := tx (many k m)
theorem manyT_one (m : Nat) : oneT m = manyT 1 m := rfl
theorem manyT_succ (k m : Nat) (h : 1 ≤ k) : manyT k m ++ (⟨#[47]⟩ : ByteArray) ++ oneT m = manyT (k + 1) m := by
  unfold manyT oneT
  rw [tx_snoc, tx_app, many_succ k m h, List.append_assoc]
  rfl
theorem manyT_size (k m : Nat) (h : 1 ≤ k) (hk : k ≤ 20) (hm : m ≤ 140) : (manyT k m).size ≤ 2820 := by
  have := many_len m k h
  have h2 : k * m ≤ 20 * 140 := Nat.mul_le_mul hk hm
  unfold manyT
  rw [tx_size]
  omega
set_option maxHeartbeats 8000000 in
theorem limits_in (n m : Nat) (x : Bool) (w : World) (hm : Ml w) (h1 : 1 ≤ n) (h2 : n ≤ 20) (h3 : 1 ≤ m) (h4 : m ≤ 140) (hx : goodL (many n m) = x) : Calls Tryd.prog 7 #[.int .i64 n, .int .i64 m] w (Bo true w) := by
  have Ha := Lib.hid (alive_any w hm)
  have hsz := manyT_size n m h1 h2 h4
  have hgm := many_good n m h1 h3
  have HG := fun w1 (g : Gr w w1) => good_lit (manyT n m) x w1 (by omega) (hm.keep g) hx
  have HN := fun w1 => name_any (oneT m) w1 (by rw [oneT_size]; omega)
  have hnm : nameL (oneT m).data.toList = decide (m ≤ 32) := rep_name m h3
  rw [hnm] at HN
  have HG := Lib.hid HG
  have HN := Lib.hid HN
  have hmul1 : n * m ≤ 20 * 140 := Nat.mul_le_mul h2 h4
  obtain ⟨p, hp⟩ : ∃ p, n * m = p := ⟨_, rfl⟩
  have hpi : (n : Int) * (m : Int) = (p : Int) := by rw [← hp]; exact (Int.natCast_mul n m).symm
  rw [hp] at hmul1 hgm
  rw [hx] at hgm
  have HX := Lib.hid hgm
  clear hm hx hgm hnm hp hsz
  go_enter Tryd.func7, Tryd.ntmps7
  go_wp2_with fail
  refine Ha.out.mono ?_
  rintro e w1 ⟨rfl, g⟩
  have G1 := Lib.hid g
  clear g
  go_wp2_with fail
  go_loop [5, 6] (fun s i => ∃ k : Nat, k ≤ m ∧ i = .int .i64 k ∧ s = .string (oneT k)) (fun s i => m - (intOf i).toNat)
  case atStart => exact ⟨0, Nat.zero_le _, rfl, rfl⟩
  case round =>
    obtain ⟨k, hk, rfl, rfl⟩ := hrel
    by_cases hlt : k < m
    · have hsk := oneT_size k
      have hq : ¬ 9223372036854775807 < (oneT k).size + 1 := by omega
      have hs1 := oneT_succ k
      clear hsk
      go_wp2_with fail
      go_round
      case rel => exact ⟨k + 1, by omega, by go_num, rfl⟩
      case measure => simp [intOf]; omega
    · obtain rfl : k = m := by omega
      go_wp2_with fail
      go_loop [7, 8] (fun s i => ∃ j : Nat, 1 ≤ j ∧ j ≤ n ∧ i = .int .i64 j ∧ s = .string (manyT j k)) (fun s i => n - (intOf i).toNat)
      case atStart => exact ⟨1, Nat.le_refl _, h1, rfl, rfl⟩
      case round =>
        obtain ⟨j, hj1, hj, rfl, rfl⟩ := hrel
        by_cases hltj : j < n
        · have hz := manyT_size j k hj1 (by omega) h4
          have hz1 : ¬ 9223372036854775807 < (manyT j k).size + 1 := by omega
          have hz2 : ¬ 9223372036854775807 < (manyT j k ++ (⟨#[47]⟩ : ByteArray)).size + (oneT k).size := by
            rw [ByteArray.size_append, oneT_size]
            show ¬ _ < (manyT j k).size + 1 + k
            omega
          have hs2 := Lib.hid (manyT_succ j k hj1)
          clear hz
          go_wp2_with fail
          go_round
          case rel => exact ⟨j + 1, by omega, by omega, by go_num, by rw [hs2.out]⟩
          case measure => simp [intOf]; omega
        · obtain rfl : j = n := by omega
          go_wp2_with fail
          refine (HG.out w1 G1.out).mono ?_
          rintro e w2 ⟨rfl, g⟩
          have G2 := Lib.hid (grown_trans G1.out g)
          clear g
          have hd : decide (k ≤ 32) = true ∨ decide (k ≤ 32) = false := by cases decide (k ≤ 32) <;> simp
          by_cases c1 : j ≤ 8 <;> by_cases c2 : k ≤ 32 <;> by_cases c3 : p + j ≤ 129
          all_goals
            first
              | (have hxx : x = true := HX.out.2 ⟨c1, c2, c3⟩
                 have HXX := Lib.hid hxx)
              | (have hxx : x = false := by
                   cases x with
                   | false => rfl
                   | true => exact absurd (HX.out.1 rfl) (by omega)
                 have HXX := Lib.hid hxx)
            first
              | (have hk : decide (k ≤ 32) = true := decide_eq_true c2
                 have HN2 := HN.out w2
                 rw [hk] at HN2)
              | (have hk : decide (k ≤ 32) = false := decide_eq_false c2
                 have HN2 := HN.out w2
                 rw [hk] at HN2)
            have HN2 := Lib.hid HN2
            clear hxx hk hd
            obtain ⟨y, hy⟩ : ∃ y, x = y := ⟨_, rfl⟩
            rw [HXX.out]
            clear hy
            go_wp2_with fail
            refine HN2.out.mono ?_
            rintro e w3 ⟨rfl, g⟩
            go_wp2_with fail
            go_ret
            exact ⟨ret_bool (by first | rfl | (simp; omega)), grown_trans G2.out g⟩
theorem limits_all (n m : Int) (w : World) (hm : Ml w) : Calls Tryd.prog 7 #[.int .i64 n, .int .i64 m] w (Bo true w) := by
  by_cases h : n < 1 ∨ 20 < n ∨ m < 1 ∨ 140 < m
  · exact limits_out n m w hm h
  · obtain ⟨a, rfl⟩ := Int.eq_ofNat_of_zero_le (a := n) (by omega)
    obtain ⟨b, rfl⟩ := Int.eq_ofNat_of_zero_le (a := m) (by omega)
    exact limits_in a b _ w hm (by omega) (by omega) (by omega) (by omega) rfl
/-FRAME-/
set_option maxRecDepth 100000 in
theorem pathLimits_lifted (os : Os) (started : os.Started) (H : Type) (enc : TypeId × Value → H) :
    ReturnsInHanded {} Tryd.checked os 7 .any (fun w args => (Rows.pathLimitsSpec.pre enc Tryd.prog Tryd.f7 [] false w args ∧ laidMetH Tryd.prog Rows.pathLimitsRow.laid w) ∧ sizedMet enc Tryd.prog Tryd.f7 (OpenSpec.ofChange Rows.pathLimitsSpec) false w args)
      (Rows.pathLimitsSpec.post enc Tryd.prog Tryd.f7 false true false false) := by
  refine returns_both (C := Tryd.checked) (X := fun w _ => laidMetH Tryd.prog Rows.pathLimitsRow.laid w) (fun _ _ _ hh h => h.of_heap hh) Tryd.own started (by kernel_rfl) Tryd.func7
    (ChangeSpec.witness_shaped (enc := enc) (C := Tryd.checked) (os := os) (X := fun w _ => laidMetH Tryd.prog Rows.pathLimitsRow.laid w) false (World.laidAll Tryd.prog os Rows.pathLimitsRow.laid) #[.int .i64 0, .int .i64 0] 8 (World.laidAll_os _ _ _)
      (World.shaped_of_ZipB (by kernel_rfl) (by kernel_rfl)) (by kernel_rfl) (by kernel_rfl) (by kernel_rfl)
      (by rw [MakeChecks.laidMetH_plain _ _ _ (by kernel_rfl)]; exact laidMet_laidAll _ (by kernel_rfl) (by kernel_rfl))) ?_
  intro W base args ds gs before hval0 hW _ _ hL hsh _
  have hval : ∀ (j : Nat) t v, Tryd.f7.params[j]? = some t → args[j]? = some v → Value.okWide Tryd.prog W .any base t v := hval0
  have hW' := hW
  obtain ⟨p, q, hA0, hV, rfl, _, _⟩ := hW
  have hA : DataW.TrodAll enc Tryd.prog W 0 (fun _ => true) true Tryd.f7.params.toList args.toList ds p := hA0
  rw [Tryd.params7] at hA hval
  obtain ⟨v0, v1, d0, d1, p0, p1, rfl, rfl, rfl, h0, h1⟩ := trodAll_two hA
  obtain ⟨rfl, rfl⟩ := trodVars_none hV
  obtain ⟨x, rfl, rfl, rfl, wx⟩ := open_int Tryd.underlying3 (hval 0 3 v0 rfl rfl) h0
  obtain ⟨y, rfl, rfl, rfl, wy⟩ := open_int Tryd.underlying3 (hval 1 3 v1 rfl rfl) h1
  simp only [List.append_nil] at hW'
  rw [MakeChecks.laidMetH_plain _ _ _ (by kernel_rfl)] at hL
  have hm : Ml W := ml_of W hsh
  clear hA0 hval0
  refine (limits_all x y W hm).mono fun e W' ⟨he, hb⟩ => ?_
  subst he
  exact ⟨_, rfl, _, _, _, [], [], [], hW', trodAll_mk1 (shut_bool Tryd.underlying4 _), trodAll_mk2 (shut_int Tryd.underlying3 wx) (shut_int Tryd.underlying3 wy), rfl, hb.frame _, fun h => by cases h⟩
theorem pathLimits_holds : Rows.PathLimitsSaid :=
  OpenClaim.holds_of_wide 7 Tryd.f7 rfl rfl rfl rfl rfl rfl rfl ⟨rfl, rfl, rfl, rfl, rfl⟩ rfl rfl rfl rfl rfl (by kernel_rfl) Tryd.func7 (by kernel_rfl)
    (of_decide_eq_true (by kernel_rfl)) (by unfold Func.isWrapper; first | (rw [if_pos (by decide +kernel)]; kernel_rfl) | (rw [if_neg (by decide +kernel)]; exact ⟨rfl, rfl⟩))
    (fun os started H enc _ => pathLimits_lifted os started H enc)
theorem pathLimits_card : Rows.PathLimitsCardSaid :=
  Claim7.holds_tied_plain_at .later [] [.data, .pinned] true (true, "a8f8bbc15004f66aea69549307893ecb6e2d518abe993fc6358a2cca60c8479f") false pathLimits_holds (fun _ h => by cases h) (by kernel_rfl) (fun _ h => by cases h) pathLimits_row_tie rfl ⟨rfl, rfl⟩ (by kernel_rfl) rfl
    (fun f fn hf hfn => by
      obtain rfl : f = 7 := Option.some.inj ((show Tryd.prog.funcNamed "sapling/saplinglaw04.PathLimits" = some 7 by kernel_rfl).symm.trans hf) |>.symm
      obtain rfl : fn = Tryd.f7 := (Option.some.inj (Tryd.func7.symm.trans hfn)).symm
      exact ⟨by kernel_rfl, fun j t ht => by
        rw [Tryd.params7] at ht
        have hm : t ∈ [3, 3] := by simpa using Array.mem_of_getElem? ht
        have hall : ([3, 3].all fun u => !Tryd.prog.wantsStandIn u) = true := by kernel_rfl
        exact (show Tryd.prog.wantsStandIn t = false by simpa using List.all_eq_true.1 hall t hm)⟩)
    (by kernel_rfl)
#print axioms pathLimits_card
end Go.Proofs.YtaiiabhcbeblbaaDoor
