/- Pieces of bytes that came in: what they read as, how many bytes they are; plain facts on them. Condition: each within the form's reach. -/
import Derived.Test.YtpjnbcecbppeoaaWalkG
import Derived.SizedLaws
import Derived.Deep.Matrix
import Derived.Below
namespace Go.Proofs.Ytpjnbcecbppeoaa
set_option linter.unusedVariables false
open Go.ChangeShapes Go.WideShapes Go.ChangeAt Go.RowKit
def Pcs (w : World) (a : Option Addr) (len cap : Nat) (ps : List (List UInt8)) : Prop :=
  (a = none ∧ len = 0 ∧ cap = 0 ∧ ps = []) ∨
  ∃ x, a = some x ∧ ps.length = len ∧ len ≤ cap ∧ cap ≤ maxLen ∧ ∀ r (hr : r < ps.length), ∃ A C, w.cell? (x.add r) = some (.slice A ps[r].length C) ∧ Src w (.slice A ps[r].length C) ps[r] ∧ ps[r].length ≤ 140737488351232
theorem weightsAll_mem {H : Type} (P : Program) (e : TypeId) (n : Nat) : ∀ (l : List (DataW H)) (d : DataW H), d ∈ l → n ∈ d.weights P e → n ∈ DataW.weightsAll P e l
  | [], d, h, _ => by simp at h
  | x :: r, d, h, hn => by
    rw [DataW.weightsAll, List.mem_append]
    rcases List.mem_cons.1 h with rfl | h
    · exact .inl hn
    · exact .inr (weightsAll_mem P e n r d h hn)
theorem pcs_of {H : Type} {enc : TypeId × Value → H} {w : World} {held : Bool} {fuel : Nat} {a : Option Addr} {len cap : Nat} {d : DataW H} {p : List MemPlace} {ts : List TypeId} {ds : List (DataW H)}
    (h : DataW.trod enc Try.prog w 0 (fun _ => true) held fuel 43 [.slice a len cap] = some (d, p)) (hsz : (DataW.weightsEach Try.prog ts ds).all (· ≤ reachBytes) = true) (ht : ts[0]? = some 43) (hd : ds[0]? = some d) :
    ∃ ps, Pcs w a len cap ps := by
  rcases Go.Deep.open_int_rows Try.underlying43 Try.underlying22 Try.underlying5 (by kernel_rfl) (by kernel_rfl) h with ⟨hcs, _⟩ | ⟨x, l, c, A, L, C, Z, hcs, _, hl, hm, hx, hr⟩
  · simp at hcs
    obtain ⟨rfl, rfl, rfl⟩ := hcs
    exact ⟨[], .inl ⟨rfl, rfl, rfl, rfl⟩⟩
  · simp at hcs
    obtain ⟨rfl, rfl, rfl⟩ := hcs
    have each : ∀ r, r < len → ∃ xs : List UInt8, xs.length = L r ∧ Src w (.slice (A r) (L r) (C r)) xs ∧ L r ≤ 140737488351232 := by
      intro r hrl
      obtain ⟨h1, h2, h3, h4, h5, h6, h7⟩ := hr r (by omega)
      have hrow : IsRow .u8 w (A r) (L r) (C r) (Z r) := by
        cases hA : A r with
        | none =>
          have := h6 hA
          exact .inl ⟨rfl, by omega, this, List.eq_nil_of_length_eq_zero (by omega)⟩
        | some y => exact .inr ⟨y, rfl, h2, h3, h4, fun i hi => (h7 y hA).2 i (by omega), h5⟩
      obtain ⟨xs, e1, e2⟩ := isrow_src _ _ _ _ _ hrow
      refine ⟨xs, e1, e2, ?_⟩
      cases hA : A r with
      | none => have := h6 hA; omega
      | some y =>
        have hmem : (Go.Deep.intRow .u8 (A r) (L r) (Z r) : DataW H) ∈ (List.range len).map fun r => Go.Deep.intRow .u8 (A r) (L r) (Z r) := List.mem_map.2 ⟨r, List.mem_range.2 hrl, rfl⟩
        have hw : (C r) ∈ (Go.Deep.intRow .u8 (A r) (L r) (Z r) : DataW H).weights Try.prog 22 := by
          rw [hA]
          simp only [Go.Deep.intRow, DataW.weights, Try.underlying22, bytes5]
          have : ((lits (H := H) .u8 ((Z r).take (L r))).length + (lits (H := H) .u8 ((Z r).drop (L r))).length) * 1 = C r := by
            simp [lits]; omega
          rw [this]
          exact List.mem_cons_self
        have hd0 := congrArg Prod.fst hx
        simp only [] at hd0
        have hin : C r ∈ d.weights Try.prog 43 := by
          rw [hd0]
          simp only [DataW.weights, Try.underlying43]
          exact List.mem_cons_of_mem _ (List.mem_append_left _ (weightsAll_mem _ _ _ _ _ hmem hw))
        have hq := List.all_eq_true.1 hsz _ (DataW.weights_mem_each ht hd _ hin)
        rw [decide_eq_true_eq] at hq
        have hrb : reachBytes = 140737488351232 := by decide
        omega
    let f : Nat → List UInt8 := fun r => if h : r < len then (each r h).choose else []
    have hf : ∀ r (h : r < len), (f r).length = L r ∧ Src w (.slice (A r) (L r) (C r)) (f r) ∧ L r ≤ 140737488351232 := by
      intro r h
      have := (each r h).choose_spec
      show ((if h : r < len then (each r h).choose else [] : List UInt8)).length = _ ∧ Src _ _ (if h : r < len then (each r h).choose else []) ∧ _
      rw [dif_pos h]
      exact this
    refine ⟨(List.range len).map f, .inr ⟨x, rfl, by simp, hl, hm, fun r hrl => ?_⟩⟩
    have hrl' : r < len := by simpa using hrl
    obtain ⟨e1, e2, e3⟩ := hf r hrl'
    have e : ((List.range len).map f)[r] = f r := by simp
    rw [e]
    refine ⟨A r, C r, ?_, ?_, by omega⟩
    · rw [e1]; exact (hr r (by omega)).1
    · rw [e1]; exact e2
/- what is written behind the first so many pieces; how many bytes of it are safe -/
def flat (ps : List (List UInt8)) (k : Nat) : List UInt8 := (ps.take k).flatten
def allB (ps : List (List UInt8)) (k : Nat) : List UInt8 := [102, 105, 114, 115, 116] ++ flat ps k
def safeN (ps : List (List UInt8)) (f : Int) (k : Nat) : Nat := if 0 ≤ f ∧ f < k then (allB ps (f.toNat + 1)).length else 5
theorem flat_succ (ps : List (List UInt8)) (k : Nat) (h : k < ps.length) : flat ps (k + 1) = flat ps k ++ ps[k] := by
  unfold flat; rw [List.take_succ_eq_append_getElem h, List.flatten_append, List.flatten_cons, List.flatten_nil, List.append_nil]
theorem flat_len_succ (ps : List (List UInt8)) (k : Nat) (h : k < ps.length) : (flat ps (k + 1)).length = (flat ps k).length + ps[k].length := by rw [flat_succ ps k h, List.length_append]
theorem flat_le (ps : List (List UInt8)) (j k : Nat) (h : j ≤ k) : (flat ps j).length ≤ (flat ps k).length := by
  unfold flat
  have : ps.take k = ps.take j ++ (ps.take k).drop j := by
    have := List.take_append_drop j (ps.take k)
    rw [List.take_take, Nat.min_eq_left h] at this
    exact this.symm
  rw [this, List.flatten_append, List.length_append]; omega
theorem allB_succ (ps : List (List UInt8)) (k : Nat) (h : k < ps.length) : allB ps (k + 1) = allB ps k ++ ps[k] := by
  unfold allB; rw [flat_succ ps k h, List.append_assoc]
theorem allB_len (ps : List (List UInt8)) (k : Nat) : (allB ps k).length = 5 + (flat ps k).length := by
  unfold allB; rw [List.length_append]; rfl
theorem safe_hit (ps : List (List UInt8)) (k : Nat) : safeN ps (k : Int) (k + 1) = (allB ps (k + 1)).length := by
  unfold safeN; rw [if_pos (by omega)]; simp
theorem safe_miss (ps : List (List UInt8)) (f : Int) (k : Nat) (h : ¬ (k : Int) = f) : safeN ps f (k + 1) = safeN ps f k := by
  unfold safeN
  by_cases h1 : 0 ≤ f ∧ f < (k : Int)
  · rw [if_pos (by omega), if_pos h1]
  · rw [if_neg (by omega), if_neg h1]
theorem safe_zero (ps : List (List UInt8)) (f : Int) : safeN ps f 0 = 5 := by unfold safeN; rw [if_neg (by omega)]
theorem safe_le (ps : List (List UInt8)) (f : Int) (k : Nat) : safeN ps f k ≤ (allB ps k).length := by
  unfold safeN
  split
  · rw [allB_len, allB_len]
    have := flat_le ps (f.toNat + 1) k (by omega)
    omega
  · rw [allB_len]; omega
theorem allB_len_succ (ps : List (List UInt8)) (k : Nat) (h : k < ps.length) : (allB ps (k + 1)).length = (allB ps k).length + ps[k].length := by rw [allB_succ ps k h, List.length_append]
theorem five_src (w : World) : Src (w.alloc (.cells #[.int .u8 102, .int .u8 105, .int .u8 114, .int .u8 115, .int .u8 116] 5 (5, 6))) (.slice (some ⟨w.heap.size, 0, none⟩) 5 5) [102, 105, 114, 115, 116] := by
  refine .inr ⟨_, 5, rfl, by simp, by decide, fun j hj => ?_⟩
  have hj' : j < 5 := hj
  have hc := fun j => cell_of_row _ w.heap.size j _ 5 (5, 6) (heap_alloc_new w (.cells #[.int .u8 102, .int .u8 105, .int .u8 114, .int .u8 115, .int .u8 116] 5 (5, 6)))
  have e : (⟨w.heap.size, 0, none⟩ : Addr).add j = ⟨w.heap.size, j, none⟩ := by simp [Addr.add]; omega
  rw [e, hc j]
  obtain rfl | rfl | rfl | rfl | rfl : j = 0 ∨ j = 1 ∨ j = 2 ∨ j = 3 ∨ j = 4 := by omega
  all_goals rfl
end Go.Proofs.Ytpjnbcecbppeoaa
