/- The contracts of Key: the program's and the document's. Condition: texts of at most 2^47 bytes. -/
import Derived.Test.YtbloglfmhhgccaaCaMath
import Derived.Test.YtbloglfmhhgccaaShAll


namespace Go.Proofs.Ytbloglfmhhgccaa
set_option linter.unusedVariables false
open Go.ChangeShapes Go.WideShapes Go.ChangeAt Go.RowKit
/- a store: its object, its shelf -/
structure StO (w : World) (lo sb ob : Nat) (W : Int) (ps : List FileL) : Prop where
  row : w.heap[sb]? = some (.cells #[.int .i64 W, .pointer (some ⟨ob, 0, none⟩)] 49 (0, 0))
  sh : ShO w lo ob ps
  ne : sb ≠ ob ∧ sb < lo ∧ ob < lo ∧ lo ≤ w.heap.size
theorem StO.keep {w w' : World} {lo sb ob : Nat} {W : Int} {ps : List FileL} (h : StO w lo sb ob W ps) (hc : Chg NoB w w') : StO w' lo sb ob W ps := ⟨row_kept hc h.row id, h.sh.keep hc, h.ne.1, h.ne.2.1, h.ne.2.2.1, Nat.le_trans h.ne.2.2.2 hc.size⟩
def SayT (t : List UInt8) (w : World) (e : Ending) (w' : World) : Prop := e = .returned (.string (tx t)) ∧ Chg NoB w w'
def SayI (n : Int) (w : World) (e : Ending) (w' : World) : Prop := e = .returned (.int .i64 n) ∧ Chg NoB w w'
theorem key_any (b : List UInt8) (hb : b.length ≤ 140737488351232) (sb : Nat) (W : Int) (pv : Value) (w : World) (h : w.heap[sb]? = some (.cells #[.int .i64 W, pv] 49 (0, 0))) :
    Calls Try.prog 13 #[.pointer (some ⟨sb, 0, none⟩), .string (tx b)] w (SayT (keyL W b) w) := by
  have s0 := (var2 h).1
  have hO : ∀ w', Calls Try.prog 24 #[.string (tx b)] w' fun e w'' => e = .returned (.int .u64 (Mix.ofB b).toNat) ∧ w' = w'' := fun w' => by
    have := Mix.of_any (tx b) w' (by rw [tx_size]; unfold maxLen; omega)
    rwa [tx_list] at this
  obtain ⟨n, hn⟩ : ∃ n, n = (Mix.ofB b).toNat := ⟨_, rfl⟩
  have hlt : n < 2 ^ 64 := by rw [hn]; exact (Mix.ofB b).isLt
  have hN := fun w' => Mix.narrow_any (n : Int) W n w' rfl hlt
  have hT := fun w' => Mix.text_nat ((Mix.narrowN n W : Nat) : Int) (Mix.narrowN n W) w' rfl (narrow_lt n W hlt)
  rw [← hn] at hO
  have hk : keyL W b = Mix.textL (Mix.narrowN n W) := by unfold keyL; rw [hn]
  rw [hk]
  generalize Mix.narrowN n W = m at *
  generalize Mix.textL m = t at *
  have HT := Lib.hid hT
  have HN := Lib.hid hN
  have HO := Lib.hid hO
  clear hT hN hO hn hk h hlt
  go_enter Try.func13, Try.ntmps13
  go_wp2_with fail
  go_region_with (first
    | (go_at_call 24; refine (HO.out _).mono ?_; rintro e w' ⟨rfl, rfl⟩)
    | (go_at_call 23; refine (HN.out _).mono ?_; rintro e w' ⟨rfl, rfl⟩)
    | (go_at_call 22; refine (HT.out _).mono ?_; rintro e w2 ⟨rfl, hb2⟩; have Hb2 := Lib.hid hb2; clear hb2))
  all_goals
    go_wp2_with fail
    go_ret
    exact ⟨rfl, (Chg.refl NoB w).drew.trans (chg_of_below Hb2.out)⟩
theorem key_nil (b : ByteArray) (w : World) : Calls Try.prog 13 #[.pointer none, .string b] w fun e w' => e = .returned (.string ⟨#[]⟩) ∧ w = w' := by
  go_enter Try.func13, Try.ntmps13
  go_wp2_with fail
  go_ret
  exact ⟨rfl, rfl⟩
theorem rkey_any (b : List UInt8) (hb : b.length ≤ 140737488351232) (W : Int) (q : Option Addr) (n0 c : Nat) (w : World) :
    Calls Try.prog 14 #[.agg #[.int .i64 W, .slice q n0 c], .string (tx b)] w (SayT (keyL W b) w) := by
  have hal_ := (Chg.refl NoB w).alloc (.cells #[.int .i64 W, .slice q n0 c] 28)
  have hb_ := heap_alloc_new w (.cells #[.int .i64 W, .slice q n0 c] 28)
  obtain ⟨sb, hxb_⟩ : ∃ b, b = w.heap.size := ⟨_, rfl⟩
  obtain ⟨w1, hw_⟩ : ∃ w_, w.alloc (.cells #[.int .i64 W, .slice q n0 c] 28) = w_ := ⟨_, rfl⟩
  have hz_ : w1.heap.size = sb + 1 := by rw [← hw_, hxb_]; exact alloc_size _ _
  rw [hw_] at hal_ hb_
  rw [← hxb_] at hb_
  have Hw1 := Lib.hid hw_
  have Hx1 := Lib.hid hxb_
  have Ha1 := Lib.hid hal_
  have Hb1 := Lib.hid hb_
  have Hz1 := Lib.hid hz_
  clear hal_ hb_ hxb_ hw_ hz_
  have s0 := (var2 Hb1.out).1
  have hO : ∀ w', Calls Try.prog 27 #[.string (tx b)] w' fun e w'' => e = .returned (.int .u64 (Mix.ofB b).toNat) ∧ w' = w'' := fun w' => by
    have := Mix.ofR_any (tx b) w' (by rw [tx_size]; unfold maxLen; omega)
    rwa [tx_list] at this
  obtain ⟨n, hn⟩ : ∃ n, n = (Mix.ofB b).toNat := ⟨_, rfl⟩
  have hlt : n < 2 ^ 64 := by rw [hn]; exact (Mix.ofB b).isLt
  have hN := fun w' => Mix.narrowR_any (n : Int) W n w' rfl hlt
  have hT : ∀ w', Calls Try.prog 25 #[.int .u64 ((Mix.narrowN n W : Nat) : Int)] w' fun e w'' => e = .returned (.string ⟨(Mix.textL (Mix.narrowN n W)).toArray⟩) ∧ Mix.Grown w' w'' := fun w' => by
    have hm := narrow_lt n W hlt
    have := Mix.textR_any (BitVec.ofNat 64 (Mix.narrowN n W)) w'
    rwa [BitVec.toNat_ofNat, Nat.mod_eq_of_lt hm] at this
  rw [← hn] at hO
  have hk : keyL W b = Mix.textL (Mix.narrowN n W) := by unfold keyL; rw [hn]
  rw [hk]
  generalize Mix.narrowN n W = m at *
  generalize Mix.textL m = t at *
  have HT := Lib.hid hT
  have HN := Lib.hid hN
  have HO := Lib.hid hO
  clear hT hN hO hn hk hlt
  go_enter Try.func14, Try.ntmps14
  go_upto_region 1 with fail
  rw [Hw1.out, ← Hx1.out]
  go_region_with (first
    | (go_at_call 27; refine (HO.out _).mono ?_; rintro e w' ⟨rfl, rfl⟩)
    | (go_at_call 26; refine (HN.out _).mono ?_; rintro e w' ⟨rfl, rfl⟩)
    | (go_at_call 25; refine (HT.out _).mono ?_; rintro e w2 ⟨rfl, hb2⟩; have Hb2 := Lib.hid hb2; clear hb2))
  all_goals
    go_wp2_with fail
    go_ret
    exact ⟨rfl, Ha1.out.drew.trans (chg_of_below Hb2.out)⟩
end Go.Proofs.Ytbloglfmhhgccaa
