/- The library's own contracts as layer 1 wants them: digits, cutting, beginnings. Conditions: the library's variables read as listed, whatever is done from block base on. -/
import Derived.Test.YtdgcpgbknfojhaaDoorBase
import Derived.Test.YtdgcpgbknfojhaaDoorNdBase
import Derived.Test.YtdgcpgbknfojhaaDoorShelf
import Derived.Lib.AppendIntMem
import Derived.Lib.ItoaMem
import Derived.Lib.LaidTab
import Derived.Lib.SmallJoins
import Derived.Lib.IndexMore
import Derived.Deep.QuietTactic
namespace Go.Proofs.YtdgcpgbknfojhaaDoor
set_option linter.unusedVariables false
open Go.ChangeShapes Go.WideShapes Go.ChangeAt Go.RowKit Go.Sort
/- the library's variables, whatever is done from block base on -/
structure Lb (base : Nat) (w : World) : Prop where
  le : base ≤ w.heap.size
  tab : Lib.TabBelow Tryd.prog base w "internal/strconv.uint64pow10" .u64 Lib.pow10Tab
  syn : ∃ tp p, ∀ w', Below base w w' → w'.var? Tryd.prog "strconv.ErrSyntax" = some #[.iface tp p]
  rng : ∃ tp p, ∀ w', Below base w w' → w'.var? Tryd.prog "strconv.ErrRange" = some #[.iface tp p]
  ml : ∃ m, ∀ w', Below base w w' → w'.cell? ⟨1, 0, none⟩ = some (.int .i64 m)
theorem Lb.on {base : Nat} {w w' : World} (h : Lb base w) (hb : Below base w w') : Lb base w' := by
  obtain ⟨h1, h2, ⟨tp, p, h3⟩, ⟨tq, q, h4⟩, ⟨m, h5⟩⟩ := h
  exact ⟨Nat.le_trans h1 hb.size, h2.on hb, ⟨tp, p, fun v hv => h3 v (hb.trans hv)⟩, ⟨tq, q, fun v hv => h4 v (hb.trans hv)⟩, ⟨m, fun v hv => h5 v (hb.trans hv)⟩⟩
theorem Chg.belowB {S : Nat → Prop} {base : Nat} {w w' : World} (h : Chg S w w') (hl : base ≤ w.heap.size) (hS : ∀ k, S k → base ≤ k) : Below base w w' :=
  ⟨h.os, h.tape, h.output, h.size, fun k hk => h.block k (Nat.lt_of_lt_of_le hk hl) fun s => absurd (hS k s) (by omega)⟩
theorem Lb.chg {S : Nat → Prop} {base : Nat} {w w' : World} (h : Lb base w) (hc : Chg S w w') (hS : ∀ k, S k → base ≤ k) : Lb base w' := h.on (hc.belowB h.le hS)
theorem Lb.keep {base : Nat} {w w' : World} (h : Lb base w) (hc : Chg NoB w w') : Lb base w' := h.chg hc fun _ => False.elim
theorem Lb.up {base base' : Nat} {w : World} (h : Lb base w) (hb : base ≤ base') (hl : base' ≤ w.heap.size) : Lb base' w := by
  have hm : ∀ w', Below base' w w' → Below base w w' := fun w' hw => ⟨hw.os, hw.tape, hw.output, hw.size, fun k hk => hw.block k (by omega)⟩
  obtain ⟨h1, h2, ⟨tp, p, h3⟩, ⟨tq, q, h4⟩, ⟨m, h5⟩⟩ := h
  exact ⟨hl, fun v hv => h2 v (hm v hv), ⟨tp, p, fun v hv => h3 v (hm v hv)⟩, ⟨tq, q, fun v hv => h4 v (hm v hv)⟩, ⟨m, fun v hv => h5 v (hm v hv)⟩⟩
/- what the reading of digits says -/
def digP (l : List UInt8) : Option Int := match Lib.atoiAll l with
  | .ok n => if Lib.itoa n = l then some n else none
  | _ => none
def DigP (r : Option Int) (w : World) (e : Ending) (w' : World) : Prop := Chg NoB w w' ∧ match r with
  | some n => e = .returned (.tuple #[.int .i64 n, .bool true])
  | none => e = .returned (.tuple #[.int .i64 0, .bool false])
/- the number is numL's -/
theorem digP_some {l : List UInt8} {n : Int} (h : digP l = some n) (h0 : 0 ≤ n) : numL l = some n.toNat := by
  unfold digP at h
  split at h
  · split at h
    · rename_i e
      cases h
      unfold Lib.itoa at e
      rw [if_neg (by omega)] at e
      rw [← e]
      exact numL_dec _
    · cases h
  · cases h
theorem foldl_ge (l : List UInt8) (acc : Nat) : acc ≤ l.foldl (fun n b => n * 10 + (b.toNat - 48)) acc := by
  induction l generalizing acc with
  | nil => exact Nat.le_refl _
  | cons c r ih =>
    rw [List.foldl_cons]
    have := ih (acc * 10 + (c.toNat - 48))
    omega
theorem parse_ok (l : List UInt8) : ∀ acc : Nat, (∀ b ∈ l, 48 ≤ b.toNat ∧ b.toNat ≤ 57) → l.foldl (fun n b => n * 10 + (b.toNat - 48)) acc < 18446744073709551616 → Lib.parseUint10 acc l = .ok (l.foldl (fun n b => n * 10 + (b.toNat - 48)) acc) := by
  induction l with
  | nil => intro acc _ _; rfl
  | cons c r ih =>
    intro acc hd hb
    rw [List.foldl_cons] at hb
    have hc := hd c (by simp)
    have hge := foldl_ge r (acc * 10 + (c.toNat - 48))
    rw [Lib.parseUint10, if_pos hc, if_neg (by omega), if_neg (by omega), ih _ (fun b hb => hd b (by simp [hb])) hb]
    rfl
theorem digP_dec (n : Nat) (hn : n < 9223372036854775808) : digP (Lib.decDigits n) = some (n : Int) := by
  obtain ⟨c, r, e, h1, h2⟩ := dec_head n
  have hv : (Lib.decDigits n).foldl (fun n b => n * 10 + (b.toNat - 48)) 0 = n := val_dec n
  have hp := parse_ok (Lib.decDigits n) 0 (dec_in n) (by rw [hv]; omega)
  rw [hv] at hp
  have ha : Lib.atoiAll (Lib.decDigits n) = .ok (n : Int) := by
    rw [e] at hp ⊢
    rw [Lib.atoiAll_plain c r (by omega) (by omega)]
    unfold Lib.parseMag
    rw [if_neg (by simp), hp]
    simp only [Lib.signless]
    rw [if_neg (by omega)]
  unfold digP
  rw [ha]
  simp only
  rw [if_pos]
  unfold Lib.itoa
  rw [if_neg (by omega), Int.toNat_natCast]
/- what an atom asks of its digits: with m bytes behind them -/
theorem digP_num {l : List UInt8} {m : Nat} (hm : m < 9223372036854775808) : (∃ n : Nat, digP l = some (n : Int) ∧ n ≤ m ∧ numL l = some n) ∨
    ((∀ n : Nat, numL l = some n → m < n) ∧ (digP l = none ∨ ∃ n : Int, digP l = some n ∧ (n < 0 ∨ (m : Int) < n))) := by
  cases h : digP l with
  | none =>
    right
    refine ⟨fun n hn => ?_, .inl rfl⟩
    have e := numL_some hn
    apply Classical.byContradiction
    intro hlt
    have := digP_dec n (by omega)
    rw [← e, h] at this
    cases this
  | some n =>
    by_cases h0 : 0 ≤ n
    · have hn := digP_some h h0
      by_cases hle : n ≤ (m : Int)
      · left
        exact ⟨n.toNat, by rw [Int.toNat_of_nonneg h0], by omega, hn⟩
      · right
        refine ⟨fun k hk => ?_, .inr ⟨n, rfl, .inr (by omega)⟩⟩
        rw [hn] at hk
        cases hk
        omega
    · right
      refine ⟨fun k hk => ?_, .inr ⟨n, rfl, .inl (by omega)⟩⟩
      exfalso
      have e := numL_some hk
      unfold digP at h
      split at h
      · split at h
        · rename_i e2
          cases h
          unfold Lib.itoa at e2
          rw [if_pos (by omega)] at e2
          rw [← e2] at e
          obtain ⟨c, r, e3, h1, h2⟩ := dec_head k
          rw [e3] at e
          simp only [List.cons.injEq] at e
          rw [← e.1] at h1
          exact absurd h1 (by decide)
        · cases h
      · cases h
/- cutting -/
theorem index_pre {c : UInt8} {l r : List UInt8} (h : c ∉ l) : Lib.index (l ++ c :: r) [c] = (l.length : Int) := by
  induction l with
  | nil => simp [Lib.index, List.isPrefixOf]
  | cons b l ih =>
    have hb : ¬ c = b := fun e => h (by simp [e])
    have hi := ih (fun e => h (by simp [e]))
    rw [List.cons_append, Lib.index, hi]
    have hp : ([c] : List UInt8).isPrefixOf (b :: (l ++ c :: r)) = false := by simp [List.isPrefixOf, hb]
    rw [hp]
    have : ((l.length : Int) == -1) = false := by rw [beq_eq_false_iff_ne]; omega
    simp [this]
theorem index_not {c : UInt8} {l : List UInt8} (h : c ∉ l) : Lib.index l [c] = -1 := by
  induction l with
  | nil => simp [Lib.index]
  | cons b l ih =>
    have hb : ¬ c = b := fun e => h (by simp [e])
    rw [Lib.index, ih (fun e => h (by simp [e]))]
    have hp : ([c] : List UInt8).isPrefixOf (b :: l) = false := by simp [List.isPrefixOf, hb]
    rw [hp]
    rfl
theorem cut_eq (c : UInt8) (l : List UInt8) : Lib.cut l [c] = match cutC c l with | none => (l, [], false) | some (p, r) => (p, r, true) := by
  cases h : cutC c l with
  | none =>
    unfold Lib.cut
    rw [index_not (cutC_none.1 h), if_neg (by omega)]
  | some pr =>
    obtain ⟨p, r⟩ := pr
    obtain ⟨rfl, h2⟩ := cutC_some.1 h
    unfold Lib.cut
    rw [index_pre h2, if_pos (by omega)]
    simp
theorem cutR_any (l : List UInt8) (base : Nat) (w : World) (h : Lb base w) (hs : l.length ≤ 1048576) :
    Calls Tryd.prog 68 #[.string (tx l), .string ⟨#[58]⟩] w fun e w' => Chg NoB w w' ∧ match cutC 58 l with
      | none => e = .returned (.tuple #[.string (tx l), .string (tx []), .bool false])
      | some (p, r) => e = .returned (.tuple #[.string (tx p), .string (tx r), .bool true]) := by
  obtain ⟨m, hm⟩ := h.ml
  refine (Tryd.strings_Cut (tx l) ⟨#[58]⟩ m w (by rw [tx_size]; omega) (hm w (Below.refl _ _))).mono ?_
  rintro e w' ⟨rfl, n, rfl⟩
  refine ⟨Chg.drewN (Chg.refl _ _) n, ?_⟩
  rw [tx_list]
  have : (ByteArray.mk #[58]).data.toList = [58] := rfl
  rw [this, cut_eq]
  cases cutC 58 l with
  | none => rfl
  | some pr => rfl
theorem pre_any (l : List UInt8) (c : UInt8) (w : World) :
    Calls Tryd.prog 67 #[.string (tx l), .string (tx [c])] w fun e w' => e = .returned (.bool (l.head? == some c)) ∧ w' = w := by
  refine (Tryd.strings_HasPrefix (tx l) (tx [c]) w).mono ?_
  rintro e w' ⟨rfl, rfl⟩
  refine ⟨?_, rfl⟩
  rw [tx_list, tx_list]
  congr 2
  unfold Lib.hasPrefix
  cases l with
  | nil => rfl
  | cons b l =>
    simp only [List.isPrefixOf, List.head?_cons, Bool.and_true]
    by_cases h : c = b
    · subst h; simp
    · have h1 : (c == b) = false := by simp [h]
      have h2 : ((some b : Option UInt8) == some c) = false := by
        rw [beq_eq_false_iff_ne]
        intro e
        cases e
        exact h rfl
      rw [h1, h2]
end Go.Proofs.YtdgcpgbknfojhaaDoor
