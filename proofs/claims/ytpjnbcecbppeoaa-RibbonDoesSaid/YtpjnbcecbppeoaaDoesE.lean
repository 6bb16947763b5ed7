/- A script that came in, opened to its cells. Condition: each length within the form's reach. -/
import Derived.Test.YtpjnbcecbppeoaaDoesA
import Derived.Deep.Slices
namespace Go.Proofs.Ytpjnbcecbppeoaa
set_option linter.unusedVariables false
open Go.ChangeShapes Go.WideShapes Go.ChangeAt Go.RowKit
theorem four {α : Type} (l : List α) (h : l.length = 4) : ∃ a b c d, l = [a, b, c, d] := by
  match l, h with
  | [a, b, c, d], _ => exact ⟨a, b, c, d, rfl⟩
theorem calls_of {H : Type} {enc : TypeId × Value → H} {w : World} {held : Bool} {fuel : Nat} {a : Option Addr} {len cap : Nat} {d : DataW H} {p : List MemPlace} {ts : List TypeId} {ds : List (DataW H)}
    (h : DataW.trod enc Try.prog w 0 (fun _ => true) held fuel 23 [.slice a len cap] = some (d, p)) (hsz : (DataW.weightsEach Try.prog ts ds).all (· ≤ reachBytes) = true)
    (ht : ts[1]? = some 23) (hd : ds[1]? = some d) :
    len = 0 ∨ ∃ b0 off cs, a = some ⟨b0, off, none⟩ ∧ cs.length = len ∧ Calls1 w b0 off cs ∧ len ≤ maxLen := by
  rcases Go.Deep.open_slice Try.underlying23 h with ⟨hcs, _⟩ | ⟨x, l, c, m, n, D, Pl, hcs, _, hl, hm, hmm, hx, hr⟩
  · simp at hcs
    exact .inl hcs.2.1
  · simp at hcs
    obtain ⟨rfl, rfl, rfl⟩ := hcs
    by_cases hz : len = 0
    · exact .inl hz
    · right
      have hC : Try.prog.cellsOf 31 = 4 := by kernel_rfl
      have hmc : m = cap := by simpa using hmm
      have each : ∀ r, r < len → ∃ d : CallD, w.cell? (x.add (r * 4)) = some (.int .i64 d.kind) ∧ w.cell? (x.add (r * 4 + 1)) = some (.int .i64 d.n) ∧ w.cell? (x.add (r * 4 + 2)) = some (.int .i64 d.k) ∧
          w.cell? (x.add (r * 4 + 3)) = some (.slice d.q d.bs.length d.c) ∧ Src w (.slice d.q d.bs.length d.c) d.bs ∧ d.bs.length ≤ 140737488351232 ∧ d.n ≤ 9223372036854775807 ∧ -9223372036854775808 ≤ d.n := by
        intro r hrl
        obtain ⟨cs', hc, ht'⟩ := hr r (by omega)
        rw [hC] at hc
        obtain ⟨_, hlen, hat⟩ := World.cells?_some hc
        obtain ⟨ys, n', _, hy, hcl, hyl, hf⟩ := DataW.trod_struct Try.underlying31 ht'
        obtain ⟨v0, v1, v2, v3, rfl⟩ := four cs' hlen
        obtain ⟨y0, y1, y2, y3, rfl⟩ := four ys hyl
        have k0 : Try.prog.cellsOf 3 = 1 := by kernel_rfl
        have k3 : Try.prog.cellsOf 22 = 1 := by kernel_rfl
        have f0 : DataW.trod enc Try.prog w 0 (fun _ => true) held n' 3 [v0] = some y0 := by simpa [k0] using hf 0 _ rfl
        have f1 : DataW.trod enc Try.prog w 0 (fun _ => true) held n' 3 [v1] = some y1 := by simpa [k0] using hf 1 _ rfl
        have f2 : DataW.trod enc Try.prog w 0 (fun _ => true) held n' 3 [v2] = some y2 := by simpa [k0] using hf 2 _ rfl
        have f3 : DataW.trod enc Try.prog w 0 (fun _ => true) held n' 22 [v3] = some y3 := by simpa [k3] using hf 3 _ rfl
        obtain ⟨z0, e0, _, w0⟩ := DataW.trod_int Try.underlying3 f0
        obtain ⟨z1, e1, _, w1⟩ := DataW.trod_int Try.underlying3 f1
        obtain ⟨z2, e2, _, w2⟩ := DataW.trod_int Try.underlying3 f2
        simp only [List.cons.injEq, and_true] at e0 e1 e2
        subst e0; subst e1; subst e2
        have g0 := hat 0 (by decide)
        have g1 := hat 1 (by decide)
        have g2 := hat 2 (by decide)
        have g3 := hat 3 (by decide)
        simp only [List.getElem?_cons_zero, List.getElem?_cons_succ, Go.Deep.add_add, Nat.add_zero] at g0 g1 g2 g3
        have hw1 : z1 ≤ 9223372036854775807 ∧ -9223372036854775808 ≤ z1 := by
          simp only [Lit.wf, Bool.and_eq_true, decide_eq_true_eq] at w1
          have q1 : IntKind.i64.min = -9223372036854775808 := by decide
          have q2 : IntKind.i64.max = 9223372036854775807 := by decide
          omega
        simp only [Prod.mk.injEq] at hy
        rcases open_ints Try.underlying22 Try.underlying5 (by kernel_rfl) f3 with ⟨hcs, _⟩ | ⟨x3, l3, c3, zs, hcs, _, hl3, hm3, hz3, hx3, hcell, hwz⟩
        · simp only [List.cons.injEq, and_true] at hcs
          subst hcs
          exact ⟨⟨z0, z1, z2, none, 0, []⟩, g0, g1, g2, g3, .inl ⟨rfl, rfl⟩, Nat.zero_le _, hw1.1, hw1.2⟩
        · simp only [List.cons.injEq, and_true] at hcs
          subst hcs
          have hz3' : zs.length = c3 := by simpa using hz3
          have hrow : IsRow .u8 w (some x3) l3 c3 zs := .inr ⟨x3, rfl, hl3, hm3, hz3', hcell, hwz⟩
          obtain ⟨xs, hxl, hxs⟩ := isrow_src _ _ _ _ _ hrow
          have hw : c3 ∈ (y3.1 : DataW H).weights Try.prog 22 := by
            rw [show y3 = _ from hx3]
            simp only [DataW.weights, Try.underlying22, bytes5]
            have : ((lits (H := H) .u8 (zs.take l3)).length + (lits (H := H) .u8 (zs.drop l3)).length) * 1 = c3 := by
              simp [lits]; omega
            rw [this]
            exact List.mem_cons_self
          have hwr : c3 ∈ (D r : DataW H).weights Try.prog 31 := by
            rw [hy.1]
            simp only [DataW.weights, Try.underlying31]
            exact DataW.weights_mem_each (j := 3) (t := 22) (d := y3.1) rfl rfl _ hw
          have hd0 := congrArg Prod.fst hx
          simp only [] at hd0
          have hin : c3 ∈ d.weights Try.prog 23 := by
            rw [hd0]
            simp only [DataW.weights, Try.underlying23]
            exact List.mem_cons_of_mem _ (List.mem_append_left _ (weightsAll_mem _ _ _ _ _ (List.mem_map.2 ⟨r, List.mem_range.2 hrl, rfl⟩) hwr))
          have hq := List.all_eq_true.1 hsz _ (DataW.weights_mem_each ht hd _ hin)
          rw [decide_eq_true_eq] at hq
          have hrb : reachBytes = 140737488351232 := by decide
          subst hxl
          exact ⟨⟨z0, z1, z2, some x3, c3, xs⟩, g0, g1, g2, g3, hxs, by show xs.length ≤ _; omega, hw1.1, hw1.2⟩
      obtain ⟨b0, off, spot⟩ := x
      have hspot : spot = none := by
        obtain ⟨d0, q0, _⟩ := each 0 (by omega)
        simpa [Addr.add] using World.cell?_spot q0
      subst hspot
      let f : Nat → CallD := fun r => if h : r < len then (each r h).choose else ⟨0, 0, 0, none, 0, []⟩
      refine ⟨b0, off, (List.range len).map f, rfl, by simp, fun r hrl => ?_, by omega⟩
      have hrl' : r < len := by simpa using hrl
      have e : ((List.range len).map f)[r] = (each r hrl').choose := by simp [f, hrl']
      have sp := (each r hrl').choose_spec
      obtain ⟨d', hd'⟩ : ∃ d', d' = (each r hrl').choose := ⟨_, rfl⟩
      rw [← hd'] at sp e
      obtain ⟨q0, q1, q2, q3, q4, q5, q6, q7⟩ := sp
      rw [e]
      have ad : ∀ j, (⟨b0, off, none⟩ : Addr).add j = ⟨b0, off + j, none⟩ := fun j => by simp [Addr.add]
      rw [ad] at q0 q1 q2 q3
      exact ⟨q0, q1, q2, q3, q4, q5, q6, q7⟩
end Go.Proofs.Ytpjnbcecbppeoaa
