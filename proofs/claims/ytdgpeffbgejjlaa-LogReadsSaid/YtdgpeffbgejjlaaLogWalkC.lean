/- The contracts of Same, Count, lay and Append. Condition: what stands in RS.ok. -/
import Derived.Test.YtdgpeffbgejjlaaLogWalkB
namespace Go.Proofs.Ytdgpeffbgejjlaa
set_option linter.unusedVariables false
open Go.ChangeShapes Go.WideShapes Go.ChangeAt Go.RowKit
/- a slice that reads as these texts -/
def TxS (w : World) (v : Value) (ps : List ByteArray) : Prop :=
  ((∃ ad cap, v = .slice ad 0 cap) ∧ ps = []) ∨ ∃ b off cap, v = .slice (some ⟨b, off, none⟩) ps.length cap ∧ ps.length ≤ cap ∧ ∀ j (hj : j < ps.length), w.cell? ⟨b, off + j, none⟩ = some (.string ps[j])
theorem TxS.keep {w w' : World} {v : Value} {ps : List ByteArray} (h : TxS w v ps) (g : Chg NoB w w') : TxS w' v ps := by
  rcases h with x | ⟨b, off, cap, rfl, hc, h⟩
  · exact .inl x
  · exact .inr ⟨b, off, cap, rfl, hc, fun j hj => g.keep (h j hj)⟩
theorem OwnT.txs {w : World} {base : Nat} {v : Value} {rs : List (List UInt8)} (h : OwnT w base v rs) : TxS w v (rs.map tx) := by
  have hl : (rs.map tx).length = rs.length := by simp
  rcases h.2 with ⟨rfl, hn⟩ | ⟨g, cap, cur, rfl, hb, hh, hn, hc, hs, ht⟩
  · exact .inl ⟨⟨none, 0, rfl⟩, by rw [List.eq_nil_of_length_eq_zero hn]; rfl⟩
  · refine .inr ⟨g, 0, cap, by rw [hl], by rw [hl]; exact hn, fun j hj => ?_⟩
    have := World.ownsRow.cells h (g := g) rfl j (.string ((rs.map tx)[j])) (by simp [strs, List.getElem?_eq_getElem (show j < rs.length by omega)])
    rwa [Addr.add_lit] at this
set_option maxHeartbeats 2000000 in
theorem same_any (u v : Value) (ps : List ByteArray) (w : World) (hu : TxS w u ps) (hv : TxS w v ps) (hl : ps.length ≤ 1048576) :
    Calls Try.prog 8 #[u, v] w fun e w' => e = .returned (.bool true) ∧ Chg NoB w w' := by
  by_cases h0 : ps.length = 0
  · have hn : ps = [] := List.eq_nil_of_length_eq_zero h0
    obtain ⟨a1, c1, hu'⟩ : ∃ a c, u = .slice a 0 c := by
      rcases hu with ⟨⟨a, c, rfl⟩, _⟩ | ⟨b, off, cap, rfl, _, _⟩
      · exact ⟨_, _, rfl⟩
      · rw [h0]; exact ⟨_, _, rfl⟩
    obtain ⟨a2, c2, hv'⟩ : ∃ a c, v = .slice a 0 c := by
      rcases hv with ⟨⟨a, c, rfl⟩, _⟩ | ⟨b, off, cap, rfl, _, _⟩
      · exact ⟨_, _, rfl⟩
      · rw [h0]; exact ⟨_, _, rfl⟩
    clear hu hv
    subst hu' hv'
    go_enter Try.func8, Try.ntmps8
    go_wp2
    go_loop [13] (fun i => i = .int .i64 0) (fun _ => 0)
    case atStart => rfl
    case round =>
      subst hrel
      go_wp2
      go_ret
      exact ⟨rfl, Chg.refl _ _⟩
  · rcases hu with ⟨_, hn⟩ | ⟨b, off, cap, rfl, hc, hcell⟩
    · rw [hn] at h0; exact absurd rfl h0
    rcases hv with ⟨_, hn⟩ | ⟨b', off', cap', rfl, hc', hcell'⟩
    · rw [hn] at h0; exact absurd rfl h0
    have H1 := Lib.hid hcell
    have H2 := Lib.hid hcell'
    clear hcell hcell' h0
    go_enter Try.func8, Try.ntmps8
    go_wp2
    go_loopw [5, 13] (fun u i wr => ∃ k : Nat, k ≤ ps.length ∧ i = .int .i64 k ∧ Chg NoB w wr) (fun _ i _ => ps.length - (intOf i).toNat)
    case atStart => exact ⟨0, Nat.zero_le _, rfl, Chg.refl _ _⟩
    case round =>
      obtain ⟨k, hk, rfl, hch⟩ := hrel
      have Hch := Lib.hid hch
      clear hch
      by_cases hlt : k < ps.length
      · have c1 : ∀ n, (wr.drewN n).cell? ⟨b, off + k, none⟩ = some (.string ps[k]) := fun n => (Hch.out.drewN n).keep (H1.out k hlt)
        have c2 : ∀ n, (wr.drewN n).cell? ⟨b', off' + k, none⟩ = some (.string ps[k]) := fun n => (Hch.out.drewN n).keep (H2.out k hlt)
        have hz0 : (0 : Int) ≤ (k : Int) := by omega
        have hz1 : (k : Int) < (ps.length : Int) := by omega
        go_wp2_with fail
        go_quiet (fail)
        go_wp2_with fail
        go_roundw
        case rel => exact ⟨k + 1, by omega, by go_num, Hch.out.drewN _⟩
        case measure => simp [intOf]; omega
      · obtain rfl : k = ps.length := by omega
        go_wp2_with fail
        go_ret
        exact ⟨rfl, Hch.out⟩
/- the log at block l, of the ribbon at block b, with so many records -/
def Lg (w : World) (l b cnt : Nat) : Prop := w.heap[l]? = some (.cells #[.pointer (some ⟨b, 0, none⟩), .int .i64 (cnt : Int), .bool false] 45 (0, 0))
theorem Lg.chg {w w' : World} {l b cnt : Nat} {S : Nat → Prop} (h : Lg w l b cnt) (g : Chg S w w') (hS : ¬ S l) : Lg w' l b cnt := by
  unfold Lg at *
  rw [g.block l (lt_of_block h) hS]; exact h
theorem count_any (w : World) (l b cnt : Nat) (h : Lg w l b cnt) (hc : cnt ≤ 1000000) :
    Calls Try.prog 10 #[.pointer (some ⟨l, 0, none⟩)] w fun e w' => e = .returned (.int .i64 (cnt : Int)) ∧ w = w' := by
  have c1 := cell_of_row w l 1 _ 45 (0, 0) h
  simp at c1
  clear h
  go_enter Try.func10, Try.ntmps10
  go_wp2
  go_ret
  exact ⟨rfl, rfl⟩
end Go.Proofs.Ytdgpeffbgejjlaa
