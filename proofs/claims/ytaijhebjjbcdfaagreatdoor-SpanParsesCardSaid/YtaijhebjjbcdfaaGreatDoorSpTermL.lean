/- Proved: the statement SpanTerms holds for every two texts. Conditions: the listed package variables read as the program's text lays them (the card ties them); nothing else. -/
import Derived.Test.YtaijhebjjbcdfaaGreatDoorSpTermM
import Derived.Test.YtaijhebjjbcdfaaGreatDoorSpKeepL
import Derived.Test.YtaijhebjjbcdfaaGreatDoorCards
import Derived.Test.YtaijhebjjbcdfaaGreatDoorTie

namespace Go.Proofs.YtaijhebjjbcdfaaGreatDoor
set_option linter.unusedVariables false
open Go.ChangeShapes Go.WideShapes Go.ChangeAt Go.RowKit
open Go.ChangeMaps (open_string shut_string)
theorem tx_app' (a b : List UInt8) : tx a ++ tx b = tx (a ++ b) := by
  apply ByteArray.ext
  rw [ByteArray.data_append]
  show a.toArray ++ b.toArray = (a ++ b).toArray
  simp
theorem OpV.congr {ok : Bool} {p p' : Int → Bool} {d : List GapL} {k : Int} (h : OpV ok p d k) (hp : ∀ n, 0 ≤ n → n < allG → p n = p' n) : OpV ok p' d k := by
  rcases h with h | ⟨h1, D, a1, a2, h⟩
  · exact .inl h
  · exact .inr ⟨h1, D, a1, fun n x y => (a2 n x y).trans (hp n x y), h⟩
theorem OpV.zero {p : Int → Bool} {d : List GapL} (h : OpV true p d 0) : goodG d = true ∧ ∀ n, 0 ≤ n → n < allG → inG d n = p n := by
  rcases h with ⟨h, -⟩ | ⟨-, D, a1, a2, (⟨-, -, h⟩ | ⟨h1, rfl, -⟩)⟩
  · cases h
  · cases h
  · refine ⟨?_, a2⟩
    unfold goodG
    rw [a1, decide_eq_true h1]
    rfl
theorem ps_row {s : List UInt8} {w w' : World} {e : Ending} (hs : s.length ≤ 256) (hn : s ≠ noneT) (h : PsP s w e w') : ∃ (q : Option Addr) (m c : Nat) (k : Int) (d : List GapL), e = .returned (.tuple #[.slice q m c, .int .i64 k]) ∧ Chg NoB w w' ∧ m = d.length ∧ w'.ownsRow w.heap.size 37 2 (.slice q m c) m (flatG d) ∧ (∀ g ∈ d, In64 g.1 ∧ In64 g.2) ∧ (k = 0 ∨ k = 13 ∨ k = 21) ∧ (k = 0 → ∃ gs, gapsL s = some gs) ∧ ∀ gs, gapsL s = some gs → OpV true (inG gs) d k := by
  obtain ⟨hc, (⟨h1, -⟩ | ⟨-, h1, -⟩ | ⟨-, -, h1, h2⟩ | ⟨-, -, gs, d, h1, h2, h3, (⟨h4, h5⟩ | ⟨h4, q, c, h5, h6⟩)⟩)⟩ := h
  · omega
  · exact absurd h1 hn
  · exact ⟨none, 0, 0, 21, [], h2, hc, rfl, World.ownsRow_nil _ _ _ _, (fun g hg => by cases hg), .inr (.inr rfl), fun e => absurd e (by decide), fun gs hg => by rw [h1] at hg; cases hg⟩
  · exact ⟨none, 0, 0, 13, [], h5, hc, rfl, World.ownsRow_nil _ _ _ _, (fun g hg => by cases hg), .inr (.inl rfl), fun e => absurd e (by decide), fun gs' hg => by rw [h1] at hg; cases hg; exact .inr ⟨rfl, d, h2, h3, .inl ⟨h4, rfl, rfl⟩⟩⟩
  · exact ⟨q, d.length, c, 0, d, h5, hc, rfl, h6, chain_wf' h2, .inl rfl, fun _ => ⟨gs, h1⟩, fun gs' hg => by rw [h1] at hg; cases hg; exact .inr ⟨rfl, d, h2, h3, .inr ⟨h4, rfl, rfl⟩⟩⟩
theorem bar_len (s u : List UInt8) : (s ++ barT ++ u).length = s.length + 3 + u.length := by rw [List.length_append, List.length_append]; rfl
theorem blank_len (s u : List UInt8) : (s ++ [32] ++ u).length = s.length + 1 + u.length := by rw [List.length_append, List.length_append]; rfl
theorem bar_none (s u : List UInt8) : s ++ barT ++ u ≠ noneT := fun e => by
  have : (32 : UInt8) ∈ noneT := by rw [← e]; simp [barT]
  revert this; decide
theorem blank_none (s u : List UInt8) : s ++ [32] ++ u ≠ noneT := fun e => by
  have : (32 : UInt8) ∈ noneT := by rw [← e]; simp
  revert this; decide
set_option maxHeartbeats 16000000 in
set_option maxRecDepth 100000 in
theorem spanTerms_all (a0 b0 : ByteArray) (W : World) (wa : a0.size ≤ maxLen) (wb : b0.size ≤ maxLen) (hpw : Pw W.heap.size W) :
    Calls Tryz.prog 7 #[.string a0, .string b0] W fun e w' => e = .returned (.bool true) ∧ Chg NoB W w' := by
  obtain ⟨s, rfl⟩ : ∃ s, a0 = tx s := ⟨_, (tx_back a0).symm⟩
  obtain ⟨u, rfl⟩ : ∃ u, b0 = tx u := ⟨_, (tx_back b0).symm⟩
  have hss : (tx s).size = s.length := tx_size s
  have hus : (tx u).size = u.length := tx_size u
  rw [hss] at wa
  rw [hus] at wb
  unfold maxLen at wa wb
  have HAL := Lib.hid (alive_any W.heap.size W hpw)
  have Hpw := Lib.hid (fun (W' : World) (h : Chg NoB W W') => hpw.keep h fun k h => h.elim)
  clear hpw
  go_enter Tryz.func7, Tryz.ntmps7
  go_wp2_with fail
  refine HAL.out.mono ?_
  rintro e w2 ⟨rfl, hc2⟩
  have Hc2 := Lib.hid hc2
  clear hc2 HAL
  by_cases la : 120 < s.length
  · have f0 : decide ((120 : Int) < (s.length : Int)) = true := decide_eq_true (by omega)
    go_wp2_with fail
    go_ret
    exact ⟨rfl, Hc2.out⟩
  have f0 : decide ((120 : Int) < (s.length : Int)) = false := decide_eq_false (by omega)
  by_cases lb : 120 < u.length
  · have f1 : decide ((120 : Int) < (u.length : Int)) = true := decide_eq_true (by omega)
    go_wp2_with fail
    go_ret
    exact ⟨rfl, Hc2.out⟩
  have f1 : decide ((120 : Int) < (u.length : Int)) = false := decide_eq_false (by omega)
  by_cases na : s = noneT
  · have f2 : ((tx s).toList == [110, 111, 110, 101]) = true := by rw [txL, na]; rfl
    clear na
    go_wp2_with fail
    go_ret
    exact ⟨rfl, Hc2.out⟩
  have f2 : ((tx s).toList == [110, 111, 110, 101]) = false := by rw [txL]; simpa [noneT] using na
  by_cases nb : u = noneT
  · have f3 : ((tx u).toList == [110, 111, 110, 101]) = true := by rw [txL, nb]; rfl
    clear nb na
    go_wp2_with fail
    go_ret
    exact ⟨rfl, Hc2.out⟩
  have f3 : ((tx u).toList == [110, 111, 110, 101]) = false := by rw [txL]; simpa [noneT] using nb
  have HP := Lib.hid (ps_any W.heap.size s w2 (by omega) (Hpw.out w2 Hc2.out))
  have Hna := Lib.hid (And.intro na nb)
  clear na nb
  go_wp2_with fail
  refine HP.out.mono ?_
  rintro e w3 hps
  obtain ⟨q3, m3, c3, k3, d3, rfl, hc3, hm3, hr3, hwf3, hk3, hg3, hv3⟩ := ps_row (by omega) Hna.out.1 hps
  have Hm3 := Lib.hid hm3
  have Hr3 := Lib.hid hr3
  have Hw3 := Lib.hid hwf3
  have Hk3 := Lib.hid hk3
  have Hg3 := Lib.hid hg3
  have Hv3 := Lib.hid hv3
  have Hc3 := Lib.hid (Hc2.out.trans hc3)
  have HP2 := Lib.hid (ps_any W.heap.size u w3 (by omega) (Hpw.out w3 Hc3.out))
  clear hps hc3 hm3 hr3 hwf3 hk3 hg3 hv3 HP
  go_wp2_with fail
  refine HP2.out.mono ?_
  rintro e w4 hps
  obtain ⟨q4, m4, c4, k4, d4, rfl, hc4, hm4, hr4, hwf4, hk4, hg4, hv4⟩ := ps_row (by omega) Hna.out.2 hps
  have Hm4 := Lib.hid hm4
  have Hr4 := Lib.hid hr4
  have Hr34 := Lib.hid (ownsRow_chg Hr3.out hc4 fun _ _ => id)
  have Hw4 := Lib.hid hwf4
  have Hk4 := Lib.hid hk4
  have Hg4 := Lib.hid hg4
  have Hv4 := Lib.hid hv4
  have Hc4 := Lib.hid (Hc3.out.trans hc4)
  clear hps hc4 hm4 hr4 hwf4 hk4 hg4 hv4 HP2
  by_cases z3 : k3 = 0
  · by_cases z4 : k4 = 0
    · subst z3 z4
      obtain ⟨ga, hga⟩ := Hg3.out rfl
      obtain ⟨gb, hgb⟩ := Hg4.out rfl
      obtain ⟨gd3, hi3⟩ := (Hv3.out ga hga).zero
      obtain ⟨gd4, hi4⟩ := (Hv4.out gb hgb).zero
      have Hga := Lib.hid (And.intro hga hgb)
      have Hgd := Lib.hid (And.intro gd3 gd4)
      have Hi := Lib.hid (And.intro hi3 hi4)
      obtain ⟨kx, hgx⟩ := GapS.of_row Hr34.out Hm3.out Hw3.out
      obtain ⟨ky, hgy⟩ := GapS.of_row Hr4.out Hm4.out Hw4.out
      have HX := Lib.hid (fun (W' : World) (h : Chg NoB w4 W') => hgx.keep h fun _ _ => id)
      have HY := Lib.hid (fun (W' : World) (h : Chg NoB w4 W') => hgy.keep h fun _ _ => id)
      have HOr := Lib.hid (or_any d3 d4 _ _ _ _ kx 0 ky 0 w4 hgx hgy)
      clear hga hgb gd3 gd4 hi3 hi4 hgx hgy
      go_wp2_with fail
      refine HOr.out.mono ?_
      rintro e w5 hop
      obtain ⟨q5, m5, c5, k5, d5, rfl, hc5, hm5, hr5, hwf5, hv5, hs5⟩ := op_row hop
      rw [Hgd.out.1, Hgd.out.2, Bool.and_true] at hv5
      have Hm5 := Lib.hid hm5
      have Hr5 := Lib.hid hr5
      have Hw5 := Lib.hid hwf5
      have Hv5 := Lib.hid hv5
      have Hc5 := Lib.hid (Hc4.out.trans hc5)
      have Hd5 := Lib.hid hc5
      have HP5 := Lib.hid (show Calls Tryz.prog 9 #[.string (tx s ++ ⟨#[32, 124, 32]⟩ ++ tx u)] w5 (PsP (s ++ barT ++ u) w5) from by
        rw [show (⟨#[32, 124, 32]⟩ : ByteArray) = tx barT from rfl, tx_app', tx_app']
        exact ps_any W.heap.size _ w5 (by rw [bar_len]; omega) (Hpw.out w5 Hc5.out))
      clear hop hc5 hm5 hr5 hwf5 hv5 HOr
      go_wp2_with fail
      refine HP5.out.mono ?_
      rintro e w6 hps
      obtain ⟨q6, m6, c6, k6, d6, rfl, hc6, hm6, hr6, hwf6, -, -, hv6⟩ := ps_row (by rw [bar_len]; omega) (by exact bar_none s u) hps
      obtain ⟨hdd, hkk⟩ := Hv5.out.same ((hv6 (ga ++ gb) (gaps_bar Hga.out.1 Hga.out.2)).congr (p' := fun n => inG d3 n || inG d4 n) fun n x y => by rw [inG_app, Hi.out.1 n x y, Hi.out.2 n x y])
      subst hdd hkk
      obtain ⟨k1, hg1⟩ := GapS.of_row (ownsRow_chg Hr5.out hc6 fun _ _ => id) Hm5.out Hw5.out
      obtain ⟨k2, hg2⟩ := GapS.of_row hr6 hm6 hwf6
      have HSx := Lib.hid (show Calls Tryz.prog 11 #[.slice q5 m5 c5, .slice q6 m6 c6] w6 (fun e w' => e = .returned (.bool true) ∧ Chg NoB w6 w') from by
        have h := same_any d5 d5 _ _ _ _ k1 0 k2 0 w6 hg1 hg2
        rwa [decide_eq_true rfl] at h)
      have Hc6 := Lib.hid (Hc5.out.trans hc6)
      have Hd6 := Lib.hid (Hd5.out.trans hc6)
      clear hps hc6 hm6 hr6 hwf6 hv6 hg1 hg2 HP5
      go_wp2_with fail
      refine HSx.out.mono ?_
      rintro e w7 ⟨rfl, hc7⟩
      have Hc7 := Lib.hid (Hc6.out.trans hc7)
      have Hd7 := Lib.hid (Hd6.out.trans hc7)
      clear hc7 HSx
      go_wp2_with fail
      go_loopw [11] (fun i wr => ∃ (k : Nat), k ≤ s.length ∧ i = .int .i64 k ∧ (∀ j (hj : j < s.length), j < k → s[j] ≠ 124) ∧ wr = w7) (fun i _ => s.length - (intOf i).toNat)
      case atStart => exact ⟨0, Nat.zero_le _, rfl, fun j _ hj => absurd hj (Nat.not_lt_zero _), rfl⟩
      case round =>
        obtain ⟨k, hk, rfl, hno, hwr⟩ := hrel
        subst hwr
        have Hno := Lib.hid hno
        clear hno
        by_cases hlt : k < s.length
        · have hsz : k < (tx s).size := by rw [hss]; exact hlt
          have hget : (tx s)[k]'hsz = s[k]'hlt := rfl
          by_cases hb : s[k]'hlt = 124
          · have fb : ((((tx s)[k]'hsz).toNat : Int) == 124) = true := by rw [hget, hb]; rfl
            clear hb hget
            go_wp2_with fail
            go_ret
            exact ⟨rfl, Hc7.out⟩
          · have fb : ((((tx s)[k]'hsz).toNat : Int) == 124) = false := by
              rw [hget, beq_eq_false_iff_ne]
              intro e
              exact hb (UInt8.toNat_inj.1 (by rw [show (124 : UInt8).toNat = 124 from rfl]; omega))
            have Hno2 := Lib.hid (show ∀ j (hj : j < s.length), j < k + 1 → s[j] ≠ 124 from fun j hj h => by
              by_cases e : j = k
              · subst e; exact hb
              · exact Hno.out j hj (by omega))
            clear hb hget
            go_wp2_with fail
            go_roundw
            case rel => exact ⟨k + 1, by omega, by go_num, Hno2.out, trivial⟩
            case measure => simp [intOf]; omega
        have Hns := Lib.hid (show ∀ y ∈ s, y ≠ 124 from fun y hy => by
          obtain ⟨j, hj, rfl⟩ := List.getElem_of_mem hy
          exact Hno.out j hj (by omega))
        have hks : ¬ k < s.length := hlt
        clear hlt
        go_wp2_with fail
        go_loopw [12] (fun i w' => ∃ (k : Nat), k ≤ u.length ∧ i = .int .i64 k ∧ (∀ j (hj : j < u.length), j < k → u[j] ≠ 124) ∧ w' = wr) (fun i _ => u.length - (intOf i).toNat)
        case atStart => exact ⟨0, Nat.zero_le _, rfl, fun j _ hj => absurd hj (Nat.not_lt_zero _), rfl⟩
        case round =>
          obtain ⟨k', hk', rfl, hno, hwr⟩ := hrel
          subst hwr
          have Hno := Lib.hid hno
          clear hno
          by_cases hlt : k' < u.length
          · have hsz : k' < (tx u).size := by rw [hus]; exact hlt
            have hget : (tx u)[k']'hsz = u[k']'hlt := rfl
            by_cases hb : u[k']'hlt = 124
            · have fb : ((((tx u)[k']'hsz).toNat : Int) == 124) = true := by rw [hget, hb]; rfl
              clear hb hget
              go_wp2_with fail
              go_ret
              exact ⟨rfl, Hc7.out⟩
            · have fb : ((((tx u)[k']'hsz).toNat : Int) == 124) = false := by
                rw [hget, beq_eq_false_iff_ne]
                intro e
                exact hb (UInt8.toNat_inj.1 (by rw [show (124 : UInt8).toNat = 124 from rfl]; omega))
              have Hno2 := Lib.hid (show ∀ j (hj : j < u.length), j < k' + 1 → u[j] ≠ 124 from fun j hj h => by
                by_cases e : j = k'
                · subst e; exact hb
                · exact Hno.out j hj (by omega))
              clear hb hget
              go_wp2_with fail
              go_roundw
              case rel => exact ⟨k' + 1, by omega, by go_num, Hno2.out, trivial⟩
              case measure => simp [intOf]; omega
          have Hnu := Lib.hid (show ∀ y ∈ u, y ≠ 124 from fun y hy => by
            obtain ⟨j, hj, rfl⟩ := List.getElem_of_mem hy
            exact Hno.out j hj (by omega))
          obtain ⟨ta, hta⟩ : ∃ x, termL s = some x := by
            have h := Hga.out.1
            rw [gaps_term Hns.out] at h
            cases ht : termL s with
            | none => rw [ht] at h; cases h
            | some x => exact ⟨x, rfl⟩
          obtain ⟨tb, htb⟩ : ∃ x, termL u = some x := by
            have h := Hga.out.2
            rw [gaps_term Hnu.out] at h
            cases ht : termL u with
            | none => rw [ht] at h; cases h
            | some x => exact ⟨x, rfl⟩
          have hga1 : ga = [ta] := by
            have h := Hga.out.1
            rw [gaps_term Hns.out, hta] at h
            exact (Option.some.inj h).symm
          have hgb1 : gb = [tb] := by
            have h := Hga.out.2
            rw [gaps_term Hnu.out, htb] at h
            exact (Option.some.inj h).symm
          have Hzz := Lib.hid (show gapsL (s ++ [32] ++ u) = some [commonG ta tb] from by
            rw [gaps_term (fun y hy => ?_), terms_blank hta htb]
            · rfl
            · rcases List.mem_append.1 hy with hy | hy
              · rcases List.mem_append.1 hy with hy | hy
                · exact Hns.out y hy
                · rw [List.mem_singleton] at hy; subst hy; decide
              · exact Hnu.out y hy)
          have Hin := Lib.hid (show ∀ n, 0 ≤ n → n < allG → inG [commonG ta tb] n = (inG d3 n && inG d4 n) from fun n x y => by
            rw [Hi.out.1 n x y, Hi.out.2 n x y, hga1, hgb1]
            simp [inG, in_common])
          have HAnd := Lib.hid (and_any d3 d4 _ _ _ _ kx 0 ky 0 wr (HX.out wr Hd7.out) (HY.out wr Hd7.out))
          clear hta htb hga1 hgb1
          go_wp2_with fail
          refine HAnd.out.mono ?_
          rintro e w8 hop
          obtain ⟨q8, m8, c8, k8, d8, rfl, hc8, hm8, hr8, hwf8, hv8, hs8⟩ := op_row hop
          rw [Hgd.out.1, Hgd.out.2, Bool.and_true] at hv8
          have Hm8 := Lib.hid hm8
          have Hr8 := Lib.hid hr8
          have Hw8 := Lib.hid hwf8
          have Hv8 := Lib.hid hv8
          have Hc8 := Lib.hid (Hc7.out.trans hc8)
          have HP8 := Lib.hid (show Calls Tryz.prog 9 #[.string (tx s ++ ⟨#[32]⟩ ++ tx u)] w8 (PsP (s ++ [32] ++ u) w8) from by
            rw [show (⟨#[32]⟩ : ByteArray) = tx [32] from rfl, tx_app', tx_app']
            exact ps_any W.heap.size _ w8 (by rw [blank_len]; omega) (Hpw.out w8 Hc8.out))
          clear hop hc8 hm8 hr8 hwf8 hv8 HAnd
          go_wp2_with fail
          refine HP8.out.mono ?_
          rintro e w9 hps
          obtain ⟨q9, m9, c9, k9, d9, rfl, hc9, hm9, hr9, hwf9, -, -, hv9⟩ := ps_row (by rw [blank_len]; omega) (blank_none s u) hps
          obtain ⟨hdd, hkk⟩ := Hv8.out.same ((hv9 _ Hzz.out).congr Hin.out)
          subst hdd hkk
          obtain ⟨z1, hz1⟩ := GapS.of_row (ownsRow_chg Hr8.out hc9 fun _ _ => id) Hm8.out Hw8.out
          obtain ⟨z2, hz2⟩ := GapS.of_row hr9 hm9 hwf9
          have HSz := Lib.hid (show Calls Tryz.prog 11 #[.slice q8 m8 c8, .slice q9 m9 c9] w9 (fun e w' => e = .returned (.bool true) ∧ Chg NoB w9 w') from by
            have h := same_any d8 d8 _ _ _ _ z1 0 z2 0 w9 hz1 hz2
            rwa [decide_eq_true rfl] at h)
          have Hc9 := Lib.hid (Hc8.out.trans hc9)
          clear hps hc9 hm9 hr9 hwf9 hv9 hz1 hz2 HP8
          go_wp2_with fail
          refine HSz.out.mono ?_
          rintro e w10 ⟨rfl, hc10⟩
          have Hc10 := Lib.hid (Hc9.out.trans hc10)
          clear hc10
          go_wp2_with fail
          go_ret
          exact ⟨rfl, Hc10.out⟩
    · rcases Hk4.out with rfl | rfl | rfl
      · exact absurd rfl z4
      all_goals
        subst z3
        clear z4
        go_wp2_with fail
        go_ret
        exact ⟨rfl, Hc4.out⟩
  · rcases Hk3.out with rfl | rfl | rfl
    · exact absurd rfl z3
    all_goals
      clear z3
      go_wp2_with fail
      go_ret
      exact ⟨rfl, Hc4.out⟩
/-FRAME-/
set_option maxRecDepth 100000 in
theorem spanTerms_lifted (os : Os) (started : os.Started) (H : Type) (enc : TypeId × Value → H) :
    ReturnsInHanded {} Tryz.checked os 7 .any (fun w args => (Rows.spanTermsSpec.pre enc Tryz.prog Tryz.f7 [] false w args ∧ laidMetH Tryz.prog Rows.spanTermsRow.laid w) ∧ sizedMet enc Tryz.prog Tryz.f7 (OpenSpec.ofChange Rows.spanTermsSpec) false w args)
      (Rows.spanTermsSpec.post enc Tryz.prog Tryz.f7 false true false false) := by
  refine returns_both (C := Tryz.checked) (X := fun w _ => laidMetH Tryz.prog Rows.spanTermsRow.laid w) (fun _ _ _ hh h => h.of_heap hh) Tryz.own started (by kernel_rfl) Tryz.func7
    (ChangeSpec.witness_shaped (enc := enc) (C := Tryz.checked) (os := os) (X := fun w _ => laidMetH Tryz.prog Rows.spanTermsRow.laid w) false (World.laidAll Tryz.prog os Rows.spanTermsRow.laid) #[.string ByteArray.empty, .string ByteArray.empty] 8 (World.laidAll_os _ _ _)
      (World.shaped_of_ZipB (by kernel_rfl) (by kernel_rfl)) (by kernel_rfl) (by kernel_rfl) (by kernel_rfl)
      (by rw [MakeChecks.laidMetH_plain _ _ _ (by kernel_rfl)]; exact laidMet_laidAll _ (by kernel_rfl) (by kernel_rfl))) ?_
  intro W base args ds gs before hval0 hW _ hsz hL hsh _
  have hval : ∀ (j : Nat) t v, Tryz.f7.params[j]? = some t → args[j]? = some v → Value.okWide Tryz.prog W .any base t v := hval0
  have hW' := hW
  obtain ⟨p, q, hA0, hV, rfl, _, _⟩ := hW
  have hA : DataW.TrodAll enc Tryz.prog W 0 (fun _ => true) true Tryz.f7.params.toList args.toList ds p := hA0
  have hsz1 : (DataW.weightsEach Tryz.prog (Tryz.f7.params.toList ++ Rows.spanTermsSpec.plain.varTypes Tryz.prog) (ds ++ gs)).all (· ≤ reachBytes) = true := hsz
  rw [Tryz.params7] at hA hval hsz1
  obtain ⟨v0, v1, d0, d1, p0, p1, rfl, rfl, rfl, h0, h1⟩ := trodAll_two hA
  obtain ⟨rfl, rfl⟩ := trodVars_none hV
  obtain ⟨x0, rfl, rfl, rfl, wx0⟩ := open_string Tryz.underlying9 (hval 0 9 v0 rfl rfl) h0
  obtain ⟨x1, rfl, rfl, rfl, wx1⟩ := open_string Tryz.underlying9 (hval 1 9 v1 rfl rfl) h1
  simp only [List.append_nil] at hW'
  rw [MakeChecks.laidMetH_plain _ _ _ (by kernel_rfl)] at hL
  have hpw : Pw W.heap.size W := pw_of hL hsh
  clear hA0 hval0
  refine (spanTerms_all x0 x1 W wx0 wx1 hpw).mono fun e W' ⟨he, hb⟩ => ?_
  subst he
  exact ⟨_, rfl, _, _, _, [], _, [], hW', trodAll_mk1 (shut_bool Tryz.underlying4 _), (trodAll_cons_mk (shut_string Tryz.underlying9 wx0) (trodAll_cons_mk (shut_string Tryz.underlying9 wx1) trodAll_mk0)), rfl, hb.below.frame _, fun h => by cases h⟩
theorem spanTerms_holds : Rows.SpanTermsSaid :=
  OpenClaim.holds_of_wide 7 Tryz.f7 rfl rfl rfl rfl rfl rfl rfl ⟨rfl, rfl, rfl, rfl, rfl⟩ rfl rfl rfl rfl rfl (by kernel_rfl) Tryz.func7 (by kernel_rfl)
    (of_decide_eq_true (by kernel_rfl)) (by unfold Func.isWrapper; first | (rw [if_pos (by decide +kernel)]; kernel_rfl) | (rw [if_neg (by decide +kernel)]; exact ⟨rfl, rfl⟩))
    (fun os started H enc _ => spanTerms_lifted os started H enc)
theorem spanTerms_card : Rows.SpanTermsCardSaid :=
  Claim7.holds_tied_plain_at .later [] [.data, .data, .data, .data, .sentinel, .sentinel, .pinned] true (true, "08b08e35c6dc5aaa2b28500e9004efc212e1807fe65932fcd6fc137e44494a1d") true spanTerms_holds (fun _ h => by cases h) (by kernel_rfl) (fun _ h => by cases h) spanTerms_row_tie rfl ⟨rfl, rfl⟩ (by kernel_rfl) rfl
    (fun f fn hf hfn => by
      obtain rfl : f = 7 := Option.some.inj ((show Tryz.prog.funcNamed "sapling/saplinglaw07.SpanTerms" = some 7 by kernel_rfl).symm.trans hf) |>.symm
      obtain rfl : fn = Tryz.f7 := (Option.some.inj (Tryz.func7.symm.trans hfn)).symm
      exact ⟨by kernel_rfl, fun j t ht => by
        rw [Tryz.params7] at ht
        have hm : t ∈ [9, 9] := by simpa using Array.mem_of_getElem? ht
        have hall : ([9, 9].all fun u => !Tryz.prog.wantsStandIn u) = true := by kernel_rfl
        exact (show Tryz.prog.wantsStandIn t = false by simpa using List.all_eq_true.1 hall t hm)⟩)
    (by kernel_rfl)
#print axioms spanTerms_card
end Go.Proofs.YtaijhebjjbcdfaaGreatDoor
