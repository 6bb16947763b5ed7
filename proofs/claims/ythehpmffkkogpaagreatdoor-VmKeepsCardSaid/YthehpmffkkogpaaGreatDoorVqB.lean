/- What holds of a machine whatever it does, in lists: sizes, kinds, places. No condition. -/
import Derived.Test.YthehpmffkkogpaaGreatDoorVqA
import Derived.Test.YthehpmffkkogpaaGreatDoorVqF
import Derived.Lib.ItoaLen
import Derived.Test.YthehpmffkkogpaaGreatDoorTrOps
import Derived.Test.YthehpmffkkogpaaGreatDoorTrSet
import Derived.Test.YthehpmffkkogpaaGreatDoorTrDm
import Derived.Test.YthehpmffkkogpaaGreatDoorTrPut
namespace Go.Proofs.YthehpmffkkogpaaGreatDoor
set_option linter.unusedVariables false
open Go.ChangeShapes Go.WideShapes Go.ChangeAt Go.RowKit
structure WfV (v : ValL) : Prop where
  lo : -9223372036854775808 ≤ v.2.1
  hi : v.2.1 ≤ 9223372036854775807
  len : v.2.2.length ≤ 2048
  txt : v.1 = true → v.2.1 = 0
  num : v.1 = false → v.2.2 = []
structure WfS (len : Int) (s : MSt) : Prop where
  stack : ∀ v ∈ s.stack, WfV v
  depth : s.stack.length ≤ 64
  loc : ∀ v ∈ s.loc, WfV v
  size : s.loc.length = 16
  calls : ∀ c ∈ s.calls, 0 ≤ c ∧ c ≤ len
  many : s.calls.length ≤ 16
  out : goodF s.out = true
  next : 0 ≤ s.next ∧ s.next ≤ len
theorem numV_wf {n : Int} (h : -9223372036854775808 ≤ n ∧ n ≤ 9223372036854775807) : WfV (numV n) := ⟨h.1, h.2, Nat.zero_le _, (fun h => by cases h), fun _ => rfl⟩
theorem txtV_wf {t : List UInt8} (h : t.length ≤ 2048) : WfV (txtV t) := ⟨(by decide : (-9223372036854775808 : Int) ≤ 0), (by decide : (0 : Int) ≤ 9223372036854775807), h, fun _ => rfl, (fun h => by cases h)⟩
theorem boolV_wf (b : Bool) : WfV (boolV b) := by unfold boolV; cases b <;> exact numV_wf (by decide)
def OkR {α : Type} (P : MSt → Prop) (r : VR α) (Q : α → Prop) : Prop := match r with
  | .ok (a, s) => P s ∧ Q a
  | .error (_, s) => P s
theorem OkR.then {α β : Type} {P : MSt → Prop} {r : VR α} {Q : α → Prop} (h : OkR P r Q) {f : α → MSt → VR β} {Q' : β → Prop} (hf : ∀ a s, P s → Q a → OkR P (f a s) Q') : OkR P (r.then f) Q' := by
  unfold VR.then
  match r, h with
  | .ok (a, s), h => exact hf a s h.1 h.2
  | .error (_, s), h => exact h
abbrev Any {α : Type} : α → Prop := fun _ => True
theorem need_wf {len : Int} {s : MSt} (h : WfS len s) (n : Nat) : OkR (WfS len) (needR n s) Any := by
  unfold needR; split
  · exact h
  · exact ⟨h, trivial⟩
theorem push_wf {len : Int} {s : MSt} (h : WfS len s) {v : ValL} (hv : WfV v) : OkR (WfS len) (pushR v s) Any := by
  unfold pushR; split
  · exact h
  · refine ⟨⟨fun x hx => ?_, by simp; omega, h.loc, h.size, h.calls, h.many, h.out, h.next⟩, trivial⟩
    rcases List.mem_append.1 hx with hx | hx
    · exact h.stack x hx
    · rw [List.mem_singleton.1 hx]; exact hv
theorem last_wf {len : Int} {s : MSt} (h : WfS len s) : WfV (lastV s) := by
  unfold lastV
  rw [List.getLastD_eq_getLast?]
  cases hl : s.stack.getLast? with
  | none => exact numV_wf (by decide)
  | some v => exact h.stack v (List.mem_of_getLast? hl)
theorem off_wf {len : Int} {s : MSt} (h : WfS len s) : WfS len (offS s) :=
  ⟨fun x hx => h.stack x (List.dropLast_subset _ hx), by have := h.depth; show s.stack.dropLast.length ≤ 64; rw [List.length_dropLast]; omega, h.loc, h.size, h.calls, h.many, h.out, h.next⟩
theorem pop_wf {len : Int} {s : MSt} (h : WfS len s) : OkR (WfS len) (popR s) WfV := ⟨off_wf h, last_wf h⟩
theorem num_wf {len : Int} {s : MSt} (h : WfS len s) : OkR (WfS len) (numR s) (fun n => -9223372036854775808 ≤ n ∧ n ≤ 9223372036854775807) := by
  unfold numR; split
  · exact off_wf h
  · exact ⟨off_wf h, (last_wf h).lo, (last_wf h).hi⟩
theorem txt_wf {len : Int} {s : MSt} (h : WfS len s) : OkR (WfS len) (txtR s) (fun t => t.length ≤ 2048) := by
  unfold txtR; split
  · exact ⟨off_wf h, (last_wf h).len⟩
  · exact off_wf h
theorem shift_wf {len : Int} {s : MSt} (h : WfS len s) (op : Int) : OkR (WfS len) (shiftR op s) Any := by
  unfold shiftR
  split
  · refine (need_wf h 2).then fun _ s h _ => (pop_wf h).then fun b s h hb => (pop_wf h).then fun a s h ha => (push_wf h hb).then fun _ s h _ => push_wf h ha
  · refine (need_wf h 1).then fun _ s h _ => (pop_wf h).then fun a s h ha => ?_
    split
    · exact (push_wf h ha).then fun _ s h _ => push_wf h ha
    · exact ⟨h, trivial⟩
theorem wrap_in (n : Int) : -9223372036854775808 ≤ wrap64 n ∧ wrap64 n ≤ 9223372036854775807 := by unfold wrap64; omega
theorem tmod_in {a b : Int} (h : -9223372036854775808 ≤ a ∧ a ≤ 9223372036854775807) : -9223372036854775808 ≤ a.tmod b ∧ a.tmod b ≤ 9223372036854775807 := by
  have h1 : (a.tmod b).natAbs ≤ a.natAbs := by rw [Int.natAbs_tmod]; exact Nat.mod_le _ _
  rcases Int.le_total 0 a with h0 | h0
  · have := Int.tmod_nonneg b h0; omega
  · have h2 : a.tmod b ≤ 0 := by
      have h3 := Int.tmod_nonneg b (a := -a) (by omega)
      rw [Int.neg_tmod] at h3; omega
    omega
theorem reck_wf {len : Int} {s : MSt} (h : WfS len s) (op : Int) : OkR (WfS len) (reckR op s) Any := by
  unfold reckR
  refine (need_wf h 2).then fun _ s h _ => (num_wf h).then fun b s h hb => (num_wf h).then fun a s h ha => ?_
  unfold reckF
  split
  · rename_i e; split at e <;> first | cases e | skip
    exact h
  · rename_i k e
    refine push_wf h (numV_wf ?_)
    repeat' split at e
    all_goals first | (cases e; exact wrap_in _) | (cases e; exact tmod_in ha) | cases e
theorem ask_wf {len : Int} {s : MSt} (h : WfS len s) (op : Int) : OkR (WfS len) (askR op s) Any := by
  unfold askR
  split
  · exact (need_wf h 1).then fun _ s h _ => (num_wf h).then fun n s h _ => push_wf h (boolV_wf _)
  · refine (need_wf h 2).then fun _ s h _ => (pop_wf h).then fun b s h hb => (pop_wf h).then fun a s h ha => ?_
    split
    · exact push_wf h (boolV_wf _)
    · split
      · exact push_wf h (boolV_wf _)
      · exact h
theorem turn_wf {len : Int} {s : MSt} (h : WfS len s) (op : Int) {n : Int} (hn : 0 ≤ n ∧ n ≤ len) : OkR (WfS len) (turnR op n s) Any := by
  unfold turnR
  split
  · refine (need_wf h 1).then fun _ s h _ => (num_wf h).then fun k s h _ => ?_
    split
    · exact ⟨⟨h.stack, h.depth, h.loc, h.size, h.calls, h.many, h.out, hn⟩, trivial⟩
    · exact ⟨h, trivial⟩
  · split
    · split
      · exact h
      · refine ⟨⟨h.stack, h.depth, h.loc, h.size, fun c hc => ?_, by simp; omega, h.out, hn⟩, trivial⟩
        rcases List.mem_append.1 hc with hc | hc
        · exact h.calls c hc
        · rw [List.mem_singleton.1 hc]; exact h.next
    · split
      · split
        · exact h
        · refine ⟨⟨h.stack, h.depth, h.loc, h.size, fun c hc => h.calls c (List.dropLast_subset _ hc), by rw [List.length_dropLast]; have := h.many; omega, h.out, ?_⟩, trivial⟩
          show 0 ≤ s.calls.getLastD 0 ∧ s.calls.getLastD 0 ≤ len
          rw [List.getLastD_eq_getLast?]
          cases hl : s.calls.getLast? with
          | none => have := h.next; exact ⟨Int.le_refl _, by show (0 : Int) ≤ len; omega⟩
          | some v => exact h.calls v (List.mem_of_getLast? hl)
      · exact ⟨⟨h.stack, h.depth, h.loc, h.size, h.calls, h.many, h.out, hn⟩, trivial⟩
theorem digP_in (t : List UInt8) : -9223372036854775808 ≤ (match digP t with | some n => n | none => 0) ∧ (match digP t with | some n => n | none => 0) ≤ 9223372036854775807 := by
  unfold digP
  cases ha : Lib.atoiAll t with
  | ok n =>
    obtain ⟨b0, b1⟩ := Lib.atoiAll_bounds ha
    simp only
    split <;> rename_i h <;> split at h <;> first | (cases h; omega) | cases h | omega
  | _ => simp
theorem spell_wf {len : Int} {s : MSt} (h : WfS len s) (op : Int) : OkR (WfS len) (spellR op s) Any := by
  unfold spellR
  split
  · refine (need_wf h 2).then fun _ s h _ => (txt_wf h).then fun t s h ht => (txt_wf h).then fun u s h hu => ?_
    split
    · exact h
    · exact push_wf h (txtV_wf (by rw [List.length_append]; omega))
  · split
    · exact (need_wf h 1).then fun _ s h _ => (txt_wf h).then fun t s h ht => push_wf h (numV_wf (by omega))
    · split
      · refine (need_wf h 3).then fun _ s h _ => (num_wf h).then fun b s h hb => (num_wf h).then fun a s h ha => (txt_wf h).then fun t s h ht => ?_
        split
        · exact h
        · exact push_wf h (txtV_wf (by unfold cutT; rw [List.length_drop, List.length_take]; omega))
      · split
        · refine (need_wf h 1).then fun _ s h _ => (num_wf h).then fun n s h hn => push_wf h (txtV_wf ?_)
          have := Lib.itoa_length_le n (by omega) (by omega)
          unfold itoaL; omega
        · exact (need_wf h 1).then fun _ s h _ => (txt_wf h).then fun t s h ht => (push_wf h (numV_wf (digP_in t))).then fun _ s h _ => push_wf h (boolV_wf _)
theorem getF_len {v : List FileL} (hg : goodF v = true) (p : List UInt8) : (getF v p).1.length ≤ 2048 := by
  unfold getF
  cases hf : v.find? (fun x => decide (x.1 = p)) with
  | none => exact Nat.zero_le _
  | some x => exact ((good_sizes hg).2 x (List.mem_of_find?_eq_some hf)).2
theorem put_stays {t : List FileL} {f : FileL} {u : List FileL} (h : putF t f = .ok u) : goodF u = true := by
  unfold putF at h
  split at h
  · exact make_good h
  · cases h
theorem file_wf {len : Int} {s : MSt} (h : WfS len s) {view : List FileL} (hv : goodF view = true) (op : Int) : OkR (WfS len) (fileR view op s) Any := by
  have hsz := good_sizes hv
  unfold fileR
  split
  · exact (need_wf h 1).then fun _ s h _ => (txt_wf h).then fun t s h ht => (push_wf h (txtV_wf (getF_len hv t))).then fun _ s h _ => push_wf h (boolV_wf _)
  · split
    · exact push_wf h (numV_wf (by have := hsz.1; omega))
    · split
      · refine (need_wf h 1).then fun _ s h _ => (num_wf h).then fun n s h hn => (push_wf h (txtV_wf ?_)).then fun _ s h _ => push_wf h (boolV_wf _)
        split
        · cases hg : view[n.toNat]? with
          | none => exact Nat.zero_le _
          | some f => have := (hsz.2 f (List.mem_of_getElem? hg)).1; show f.1.length ≤ 2048; omega
        · exact Nat.zero_le _
      · refine (need_wf h 2).then fun _ s h _ => (txt_wf h).then fun d s h hd => (txt_wf h).then fun p s h hp => ?_
        cases hu : putF s.out (p, d) with
        | error y => exact h
        | ok o => exact ⟨⟨h.stack, h.depth, h.loc, h.size, h.calls, h.many, put_stays hu, h.next⟩, trivial⟩
/- an instruction that stands in a program of so many -/
structure WfI (sz : Int) (x : InsL) : Prop where
  num : -9223372036854775808 ≤ x.n ∧ x.n ≤ 9223372036854775807
  len : x.s.length ≤ 256
  place : 17 ≤ x.op ∧ x.op ≤ 19 → 0 ≤ x.n ∧ x.n ≤ sz
  cell : x.op = 7 ∨ x.op = 8 → 0 ≤ x.n ∧ x.n < 16
  op : 1 ≤ x.op ∧ x.op ≤ 30
theorem do_wf {len : Int} {s : MSt} (h : WfS len s) {view : List FileL} (hv : goodF view = true) {x : InsL} (hx : WfI len x) : OkR (WfS len) (doR view x s) Any := by
  unfold doR
  by_cases h1 : x.op = 1
  · rw [if_pos h1]; exact ⟨⟨h.stack, h.depth, h.loc, h.size, h.calls, h.many, h.out, h.next⟩, trivial⟩
  rw [if_neg h1]
  by_cases h2 : x.op = 2
  · rw [if_pos h2]; exact push_wf h (numV_wf hx.num)
  rw [if_neg h2]
  by_cases h3 : x.op = 3
  · rw [if_pos h3]; exact push_wf h (txtV_wf (by have := hx.len; omega))
  rw [if_neg h3]
  by_cases h7 : x.op = 7
  · rw [if_pos h7]
    refine push_wf h ?_
    rw [List.getD_eq_getElem?_getD]
    cases hg : s.loc[x.n.toNat]? with
    | none => exact numV_wf (by decide)
    | some v => exact h.loc v (List.mem_of_getElem? hg)
  rw [if_neg h7]
  by_cases h8 : x.op = 8
  · rw [if_pos h8]
    refine (need_wf h 1).then fun _ s h _ => (pop_wf h).then fun v s h hv => ⟨⟨h.stack, h.depth, fun y hy => ?_, by rw [List.length_set]; exact h.size, h.calls, h.many, h.out, h.next⟩, trivial⟩
    rcases List.mem_or_eq_of_mem_set hy with hy | rfl
    · exact h.loc y hy
    · exact hv
  rw [if_neg h8]
  by_cases h4 : x.op = 4 ∨ x.op = 5 ∨ x.op = 6
  · rw [if_pos h4]; exact shift_wf h _
  rw [if_neg h4]
  by_cases h9 : 9 ≤ x.op ∧ x.op ≤ 13
  · rw [if_pos h9]; exact reck_wf h _
  rw [if_neg h9]
  by_cases h14 : 14 ≤ x.op ∧ x.op ≤ 16
  · rw [if_pos h14]; exact ask_wf h _
  rw [if_neg h14]
  by_cases h17 : 17 ≤ x.op ∧ x.op ≤ 20
  · rw [if_pos h17]
    by_cases h20 : x.op = 20
    · rw [h20]
      unfold turnR
      rw [if_neg (by decide), if_neg (by decide), if_pos rfl]
      have := turn_wf h 20 (n := s.next) h.next
      unfold turnR at this
      rwa [if_neg (by decide), if_neg (by decide), if_pos rfl] at this
    · exact turn_wf h _ (hx.place (by omega))
  rw [if_neg h17]
  by_cases h21 : 21 ≤ x.op ∧ x.op ≤ 25
  · rw [if_pos h21]; exact spell_wf h _
  rw [if_neg h21]
  by_cases h26 : 26 ≤ x.op ∧ x.op ≤ 29
  · rw [if_pos h26]; exact file_wf h hv _
  rw [if_neg h26]
  by_cases h30 : x.op = 30
  · rw [if_pos h30]; exact h
  · rw [if_neg h30]; exact ⟨h, trivial⟩
end Go.Proofs.YthehpmffkkogpaaGreatDoor
namespace Go.Proofs.YthehpmffkkogpaaGreatDoor
set_option linter.unusedVariables false
open Go.ChangeShapes Go.WideShapes Go.ChangeAt Go.RowKit
structure MM where
  s : MSt
  steps : Nat
  fault : Int
def ins0 : InsL := ⟨0, 0, []⟩
def endOf : VR Unit → MSt × Int
  | .ok (_, s) => (s, 0)
  | .error (y, s) => (s, y)
def attF (view : List FileL) (x : InsL) (s : MSt) : MSt × Int := endOf (doR view x { s with next := s.next + 1 })
def stepF (p : List InsL) (view : List FileL) (m : MM) : MM :=
  let r := attF view (p.getD m.s.next.toNat ins0) m.s
  let d := r.1.done || decide (r.2 ≠ 0) || decide (r.1.next = p.length)
  if d = false ∧ m.steps + 1 = 4096 then ⟨{ r.1 with done := true }, m.steps + 1, 45⟩ else ⟨{ r.1 with done := d }, m.steps + 1, r.2⟩
def goF (p : List InsL) (view : List FileL) : Nat → MM → MM
  | 0, m => m
  | k + 1, m => if m.s.done = true then m else goF p view k (stepF p view m)
def mm0 : MM := ⟨⟨[], List.replicate 16 (numV 0), [], [], 0, false⟩, 0, 0⟩
structure WfM (len : Int) (m : MM) : Prop where
  s : WfS len m.s
  in' : m.s.done = false → m.s.next < len
  fuel : m.steps ≤ 4096
  end' : m.steps = 4096 → m.s.done = true
theorem step_steps (p : List InsL) (view : List FileL) (m : MM) : (stepF p view m).steps = m.steps + 1 := by
  simp only [stepF]; split <;> rfl
theorem go_done {p : List InsL} {view : List FileL} {m : MM} (h : m.s.done = true) : ∀ k, goF p view k m = m
  | 0 => rfl
  | k + 1 => by rw [goF, if_pos h]
theorem go_add (p : List InsL) (view : List FileL) : ∀ (a b : Nat) (m : MM), goF p view (a + b) m = goF p view b (goF p view a m)
  | 0, b, m => by rw [Nat.zero_add]; rfl
  | a + 1, b, m => by
    rw [Nat.add_right_comm, goF]
    by_cases h : m.s.done = true
    · rw [if_pos h, goF, if_pos h, go_done h]
    · rw [if_neg h, goF, if_neg h]; exact go_add p view a b _
theorem go_succ {p : List InsL} {view : List FileL} {k : Nat} {m : MM} (h : (goF p view k m).s.done = false) : goF p view (k + 1) m = stepF p view (goF p view k m) := by
  rw [go_add, goF, if_neg (by rw [h]; decide)]; rfl
theorem not_done_steps {p : List InsL} {view : List FileL} : ∀ (k : Nat) (m : MM), (goF p view k m).s.done = false → (goF p view k m).steps = m.steps + k ∧ m.s.done = false
  | 0, m, h => ⟨rfl, h⟩
  | k + 1, m, h => by
    rw [goF] at h ⊢
    by_cases hd : m.s.done = true
    · rw [if_pos hd] at h; rw [hd] at h; cases h
    · rw [if_neg hd] at h ⊢
      have := (not_done_steps k _ h).1
      rw [step_steps] at this
      exact ⟨by omega, by simpa using hd⟩
/- a run ends behind just so many steps -/
theorem run_ends {p : List InsL} {view : List FileL} {m : MM} (hw : ∀ k, (goF p view k m).steps ≤ 4096 ∧ ((goF p view k m).steps = 4096 → (goF p view k m).s.done = true)) :
    ∃ n, n + m.steps ≤ 4096 + m.steps ∧ (goF p view n m).s.done = true ∧ (goF p view n m).steps = m.steps + n ∧ ∀ j, j < n → (goF p view j m).s.done = false := by
  have hex : ∃ n, (goF p view n m).s.done = true := by
    refine ⟨4096, ?_⟩
    cases hd : (goF p view 4096 m).s.done with
    | true => rfl
    | false =>
      have h1 := (not_done_steps 4096 m hd).1
      have h2 := hw 4096
      have h3 := h2.2 (by omega)
      rw [hd] at h3; cases h3
  obtain ⟨n, hn, hmin⟩ : ∃ n, (goF p view n m).s.done = true ∧ ∀ j, j < n → (goF p view j m).s.done = false := by
    have : ∀ n, (goF p view n m).s.done = true → ∃ k, (goF p view k m).s.done = true ∧ ∀ j, j < k → (goF p view j m).s.done = false := by
      intro n
      induction n using Nat.strongRecOn with
      | _ n ih =>
        intro hn
        by_cases hj : ∃ j, j < n ∧ (goF p view j m).s.done = true
        · obtain ⟨j, hj, hd⟩ := hj; exact ih j hj hd
        · exact ⟨n, hn, fun j hlt => by cases hd : (goF p view j m).s.done with
            | true => exact absurd ⟨j, hlt, hd⟩ hj
            | false => rfl⟩
    obtain ⟨n, hn⟩ := hex
    exact this n hn
  have hst : (goF p view n m).steps = m.steps + n := by
    cases n with
    | zero => rfl
    | succ k =>
      have hk := hmin k (by omega)
      rw [go_succ hk, step_steps, (not_done_steps k m hk).1]; omega
  refine ⟨n, ?_, hn, hst, hmin⟩
  have := (hw n).1; omega
theorem att_wf {len : Int} {view : List FileL} {x : InsL} {s : MSt} (h : WfS len s) (hin : s.next < len) (hx : WfI len x) (hv : goodF view = true) : WfS len (attF view x s).1 := by
  have h1 : WfS len { s with next := s.next + 1 } := ⟨h.stack, h.depth, h.loc, h.size, h.calls, h.many, h.out, by have := h.next; show 0 ≤ s.next + 1 ∧ s.next + 1 ≤ len; omega⟩
  have h2 := do_wf h1 hv hx
  unfold attF
  revert h2
  generalize doR view x { s with next := s.next + 1 } = r
  intro h2
  match r, h2 with
  | .ok (_, s), h2 => exact h2.1
  | .error (_, s), h2 => exact h2
theorem done_wf {len : Int} {s : MSt} (h : WfS len s) (b : Bool) : WfS len { s with done := b } := ⟨h.stack, h.depth, h.loc, h.size, h.calls, h.many, h.out, h.next⟩
theorem step_wf {ps : List InsL} {view : List FileL} {m : MM} (hpw : ∀ x ∈ ps, WfI ps.length x) (hv : goodF view = true) (h : WfM ps.length m) (hd : m.s.done = false) : WfM ps.length (stepF ps view m) := by
  have hin := h.in' hd
  have hn := h.s.next
  have hlt : m.s.next.toNat < ps.length := by omega
  have hg : ps.getD m.s.next.toNat ins0 = ps[m.s.next.toNat] := by rw [List.getD_eq_getElem?_getD, List.getElem?_eq_getElem hlt]; rfl
  have ha := att_wf (view := view) h.s hin (hpw _ (List.getElem_mem hlt)) hv
  have hf : m.steps < 4096 := by
    rcases Nat.lt_or_ge m.steps 4096 with x | x
    · exact x
    · have := h.end' (by have := h.fuel; omega); rw [hd] at this; cases this
  have hs : stepF ps view m = (let r := attF view ps[m.s.next.toNat] m.s; let d := r.1.done || decide (r.2 ≠ 0) || decide (r.1.next = ps.length); if d = false ∧ m.steps + 1 = 4096 then ⟨{ r.1 with done := true }, m.steps + 1, 45⟩ else ⟨{ r.1 with done := d }, m.steps + 1, r.2⟩) := by unfold stepF; rw [hg]
  rw [hs]
  generalize attF view ps[m.s.next.toNat] m.s = r at *
  simp only
  by_cases hc : (r.1.done || decide (r.2 ≠ 0) || decide (r.1.next = (ps.length : Int))) = false ∧ m.steps + 1 = 4096
  · rw [if_pos hc]
    exact ⟨done_wf ha true, (fun h => by cases h), by show m.steps + 1 ≤ 4096; omega, fun _ => rfl⟩
  · rw [if_neg hc]
    refine ⟨done_wf ha _, fun h0 => ?_, by show m.steps + 1 ≤ 4096; omega, fun h0 => ?_⟩
    · have h1 := ha.next.2
      have h2 : decide (r.1.next = (ps.length : Int)) = false := by
        have h3 : (r.1.done || decide (r.2 ≠ 0) || decide (r.1.next = (ps.length : Int))) = false := h0
        rw [Bool.or_eq_false_iff] at h3
        exact h3.2
      have h4 := of_decide_eq_false h2
      show r.1.next < _
      omega
    · show (r.1.done || decide (r.2 ≠ 0) || decide (r.1.next = (ps.length : Int))) = true
      cases hb : (r.1.done || decide (r.2 ≠ 0) || decide (r.1.next = (ps.length : Int))) with
      | true => rfl
      | false => exact absurd ⟨hb, h0⟩ hc
theorem go_wf {ps : List InsL} {view : List FileL} (hpw : ∀ x ∈ ps, WfI ps.length x) (hv : goodF view = true) : ∀ (k : Nat) (m : MM), WfM ps.length m → WfM ps.length (goF ps view k m)
  | 0, m, h => h
  | k + 1, m, h => by
    rw [goF]
    by_cases hd : m.s.done = true
    · rw [if_pos hd]; exact h
    · rw [if_neg hd]; exact go_wf hpw hv k _ (step_wf hpw hv h (by simpa using hd))
end Go.Proofs.YthehpmffkkogpaaGreatDoor
namespace Go.Proofs.YthehpmffkkogpaaGreatDoor
set_option linter.unusedVariables false
open Go.ChangeShapes Go.WideShapes Go.ChangeAt Go.RowKit
theorem stands_wfi {x : InsL} {size : Int} (hx : x.wf) (h : standsF x size = true) : WfI size x := by
  obtain ⟨op, n, s⟩ := x
  obtain ⟨⟨ho1, ho2⟩, ⟨hn1, hn2⟩, hsl⟩ := hx
  simp only [] at ho1 ho2 hn1 hn2 hsl
  unfold standsF at h
  simp only [] at h
  by_cases hw : wordL op = []
  · rw [if_pos hw] at h; cases h
  rw [if_neg hw, wordL_nil, Decidable.not_not] at *
  have hlen : s.length ≤ 256 := by
    repeat' split at h
    all_goals have h := of_decide_eq_true h
    all_goals first | (rw [h]; exact Nat.zero_le _) | (rw [h.1]; exact Nat.zero_le _) | exact h.2
  refine ⟨⟨hn1, hn2⟩, hlen, fun hp => ?_, fun hp => ?_, by show 1 ≤ op ∧ op ≤ 30; omega⟩
  · have hp : 17 ≤ op ∧ op ≤ 19 := hp
    have ht : takesF op = 4 := by unfold takesF; rw [if_neg (by omega), if_neg (by omega), if_neg (by omega), if_pos (by omega)]
    rw [ht] at h
    have h := of_decide_eq_true h
    exact ⟨h.2.1, Int.le_of_lt h.2.2⟩
  · have hp : op = 7 ∨ op = 8 := hp
    have ht : takesF op = 3 := by unfold takesF; rw [if_neg (by omega), if_neg (by omega), if_pos (by omega)]
    rw [ht] at h
    have h := of_decide_eq_true h
    exact h.2
theorem check_wfi {ps : List InsL} (hx : ∀ x ∈ ps, x.wf) (h : (checkF ps).2 = 0) : 0 < ps.length ∧ ps.length ≤ 256 ∧ ∀ x ∈ ps, WfI ps.length x := by
  unfold checkF at h
  split at h
  · exact absurd h (by decide)
  · rename_i hl
    refine ⟨by omega, by omega, fun x hm => stands_wfi (hx x hm) ?_⟩
    split at h
    · rename_i hf
      rw [List.findIdx?_eq_none_iff] at hf
      have := hf x hm
      simpa using this
    · exact absurd (show (30 : Int) = 0 from h) (by decide)
theorem InsS.wfs {w : World} {S : Nat → Prop} {v : Value} {ps : List InsL} {kb ko : Nat} (h : InsS w S v ps kb ko) : ∀ x ∈ ps, x.wf := fun x hx => by
  obtain ⟨i, hi, rfl⟩ := List.getElem_of_mem hx
  exact (h.at' i hi).1
end Go.Proofs.YthehpmffkkogpaaGreatDoor
namespace Go.Proofs.YthehpmffkkogpaaGreatDoor
set_option linter.unusedVariables false
def newF (ps : List InsL) (view : List FileL) : Int := if (checkF ps).2 = 0 then if goodF view = true then 0 else 1 else (checkF ps).2
def resF (m : MM) : List FileL × Int := if m.s.done = true then if m.fault = 0 then (m.s.out, 0) else ([], m.fault) else ([], 80)
end Go.Proofs.YthehpmffkkogpaaGreatDoor
namespace Go.Proofs.YthehpmffkkogpaaGreatDoor
set_option linter.unusedVariables false
open Go.ChangeShapes Go.WideShapes Go.ChangeAt Go.RowKit
/- the errors that an instruction gives up with -/
def ErrR {α : Type} (r : VR α) : Prop := match r with
  | .ok _ => True
  | .error (y, _) => y ≠ 0 ∧ y ≠ 45
theorem ErrR.then {α β : Type} {r : VR α} (h : ErrR r) {f : α → MSt → VR β} (hf : ∀ a s, ErrR (f a s)) : ErrR (r.then f) := by
  unfold VR.then
  match r, h with
  | .ok (a, s), _ => exact hf a s
  | .error (_, s), h => exact h
theorem need_err (n : Nat) (s : MSt) : ErrR (needR n s) := by unfold needR; split; exact (by decide : (40 : Int) ≠ 0 ∧ (40 : Int) ≠ 45); trivial
theorem push_err (v : ValL) (s : MSt) : ErrR (pushR v s) := by unfold pushR; split; exact (by decide : (40 : Int) ≠ 0 ∧ (40 : Int) ≠ 45); trivial
theorem pop_err (s : MSt) : ErrR (popR s) := trivial
theorem num_err (s : MSt) : ErrR (numR s) := by unfold numR; split; exact (by decide : (41 : Int) ≠ 0 ∧ (41 : Int) ≠ 45); trivial
theorem txt_err (s : MSt) : ErrR (txtR s) := by unfold txtR; split; trivial; exact (by decide : (41 : Int) ≠ 0 ∧ (41 : Int) ≠ 45)
theorem e40 (s : MSt) {α : Type} : ErrR (.error (40, s) : VR α) := (by decide : (40 : Int) ≠ 0 ∧ (40 : Int) ≠ 45)
theorem e41 (s : MSt) {α : Type} : ErrR (.error (41, s) : VR α) := (by decide : (41 : Int) ≠ 0 ∧ (41 : Int) ≠ 45)
theorem e42 (s : MSt) {α : Type} : ErrR (.error (42, s) : VR α) := (by decide : (42 : Int) ≠ 0 ∧ (42 : Int) ≠ 45)
theorem e43 (s : MSt) {α : Type} : ErrR (.error (43, s) : VR α) := (by decide : (43 : Int) ≠ 0 ∧ (43 : Int) ≠ 45)
theorem e44 (s : MSt) {α : Type} : ErrR (.error (44, s) : VR α) := (by decide : (44 : Int) ≠ 0 ∧ (44 : Int) ≠ 45)
theorem bad_codes {l : List FileL} {y : Int} (h : badF l = some y) : y ≠ 0 ∧ y ≠ 45 := by
  induction l with
  | nil => cases h
  | cons f r ih =>
    rw [badF] at h
    split at h
    · cases h; decide
    · split at h
      · cases h; decide
      · exact ih h
theorem make_codes {l : List FileL} {y : Int} (h : makeF l = .error y) : y ≠ 0 ∧ y ≠ 45 := by
  unfold makeF at h
  split at h
  · cases h; decide
  · split at h
    · rename_i z hz; cases h; exact bad_codes hz
    · split at h
      · split at h
        · cases h; decide
        · cases h
      · cases h; decide
theorem put_codes {t : List FileL} {f : FileL} {y : Int} (h : putF t f = .error y) : y ≠ 0 ∧ y ≠ 45 := by
  unfold putF at h
  split at h
  · exact make_codes h
  · cases h; decide
theorem do_err (view : List FileL) (x : InsL) (s : MSt) : ErrR (doR view x s) := by
  unfold doR
  by_cases c0 : x.op = 1
  · rw [if_pos c0]; trivial
  rw [if_neg c0]
  by_cases c1 : x.op = 2
  · rw [if_pos c1]; exact push_err _ _
  rw [if_neg c1]
  by_cases c2 : x.op = 3
  · rw [if_pos c2]; exact push_err _ _
  rw [if_neg c2]
  by_cases c3 : x.op = 7
  · rw [if_pos c3]; exact push_err _ _
  rw [if_neg c3]
  by_cases c4 : x.op = 8
  · rw [if_pos c4]; exact (need_err _ _).then fun _ s => (pop_err s).then fun _ _ => trivial
  rw [if_neg c4]
  by_cases c5 : x.op = 4 ∨ x.op = 5 ∨ x.op = 6
  · rw [if_pos c5]
    unfold shiftR; split
    · exact (need_err _ _).then fun _ s => (pop_err s).then fun _ s => (pop_err s).then fun _ s => (push_err _ s).then fun _ s => push_err _ s
    · refine (need_err _ _).then fun _ s => (pop_err s).then fun a s => ?_
      split
      · exact (push_err _ s).then fun _ s => push_err _ s
      · trivial
  rw [if_neg c5]
  by_cases c6 : 9 ≤ x.op ∧ x.op ≤ 13
  · rw [if_pos c6]
    unfold reckR
    refine (need_err _ _).then fun _ s => (num_err s).then fun b s => (num_err s).then fun a s => ?_
    split
    · exact e42 _
    · exact push_err _ _
  rw [if_neg c6]
  by_cases c7 : 14 ≤ x.op ∧ x.op ≤ 16
  · rw [if_pos c7]
    unfold askR; split
    · exact (need_err _ _).then fun _ s => (num_err s).then fun _ s => push_err _ s
    · refine (need_err _ _).then fun _ s => (pop_err s).then fun b s => (pop_err s).then fun a s => ?_
      split
      · exact push_err _ _
      · split
        · exact push_err _ _
        · exact e41 _
  rw [if_neg c7]
  by_cases c8 : 17 ≤ x.op ∧ x.op ≤ 20
  · rw [if_pos c8]
    unfold turnR; split
    · refine (need_err _ _).then fun _ s => (num_err s).then fun k s => ?_
      split <;> trivial
    · split
      · split
        · exact e40 _
        · trivial
      · split
        · split
          · exact e40 _
          · trivial
        · trivial
  rw [if_neg c8]
  by_cases c9 : 21 ≤ x.op ∧ x.op ≤ 25
  · rw [if_pos c9]
    unfold spellR; split
    · refine (need_err _ _).then fun _ s => (txt_err s).then fun b s => (txt_err s).then fun a s => ?_
      split
      · exact e43 _
      · exact push_err _ _
    · split
      · exact (need_err _ _).then fun _ s => (txt_err s).then fun _ s => push_err _ s
      · split
        · refine (need_err _ _).then fun _ s => (num_err s).then fun b s => (num_err s).then fun a s => (txt_err s).then fun t s => ?_
          split
          · exact e43 _
          · exact push_err _ _
        · split
          · exact (need_err _ _).then fun _ s => (num_err s).then fun _ s => push_err _ s
          · exact (need_err _ _).then fun _ s => (txt_err s).then fun _ s => (push_err _ s).then fun _ s => push_err _ s
  rw [if_neg c9]
  by_cases c10 : 26 ≤ x.op ∧ x.op ≤ 29
  · rw [if_pos c10]
    unfold fileR; split
    · exact (need_err _ _).then fun _ s => (txt_err s).then fun _ s => (push_err _ s).then fun _ s => push_err _ s
    · split
      · exact push_err _ _
      · split
        · exact (need_err _ _).then fun _ s => (num_err s).then fun _ s => (push_err _ s).then fun _ s => push_err _ s
        · refine (need_err _ _).then fun _ s => (txt_err s).then fun d s => (txt_err s).then fun p s => ?_
          split
          · rename_i y hy; exact put_codes hy
          · trivial
  rw [if_neg c10]
  by_cases c11 : x.op = 30
  · rw [if_pos c11]; exact e44 _
  rw [if_neg c11]
  trivial
theorem att_err (view : List FileL) (x : InsL) (s : MSt) : (attF view x s).2 ≠ 45 := by
  unfold attF
  have h := do_err view x { s with next := s.next + 1 }
  revert h
  generalize doR view x { s with next := s.next + 1 } = r
  intro h
  match r, h with
  | .ok (_, s), h => show (0 : Int) ≠ 45; decide
  | .error (_, s), h => exact h.2
/- giving up for want of fuel is done at 4096 steps -/
theorem step_fuel {ps : List InsL} {view : List FileL} {m : MM} (h : (stepF ps view m).fault = 45) : (stepF ps view m).steps = 4096 := by
  have ha := att_err view (ps.getD m.s.next.toNat ins0) m.s
  unfold stepF at h ⊢
  generalize attF view (ps.getD m.s.next.toNat ins0) m.s = r at *
  simp only at h ⊢
  split
  · rename_i hc; exact hc.2
  · rename_i hc
    rw [if_neg hc] at h
    exact absurd h ha
theorem go_fuel {ps : List InsL} {view : List FileL} : ∀ (k : Nat) (m : MM), (m.fault = 45 → m.steps = 4096) → (goF ps view k m).fault = 45 → (goF ps view k m).steps = 4096
  | 0, m, h, h2 => h h2
  | k + 1, m, h, h2 => by
    rw [goF] at h2 ⊢
    split
    · rename_i hd; rw [if_pos hd] at h2; exact h h2
    · rename_i hd; rw [if_neg hd] at h2; exact go_fuel k _ step_fuel h2
theorem mm0_wf {ps : List InsL} (h : 0 < ps.length) : WfM ps.length mm0 := by
  refine ⟨⟨(fun v hv => by cases hv), by decide, (fun v hv => ?_), rfl, (fun c hc => by cases hc), by decide, rfl, ⟨Int.le_refl _, by show (0 : Int) ≤ ps.length; omega⟩⟩, (fun _ => by show (0 : Int) < ps.length; omega), by decide, (fun h => by cases h)⟩
  rw [List.eq_of_mem_replicate hv]
  exact numV_wf (by decide)
def runM (ps : List InsL) (view : List FileL) : MM := goF ps view 4096 mm0
/- what Run answers: what is written, how many steps, the error -/
def runL (ps : List InsL) (view : List FileL) : List FileL := if newF ps view = 0 then (resF (runM ps view)).1 else []
def runN (ps : List InsL) (view : List FileL) : Nat := if newF ps view = 0 then (runM ps view).steps else 0
def runE (ps : List InsL) (view : List FileL) : Int := if newF ps view = 0 then (resF (runM ps view)).2 else newF ps view
theorem newF_ok {ps : List InsL} {view : List FileL} (h : newF ps view = 0) : (checkF ps).2 = 0 ∧ goodF view = true := by
  unfold newF at h
  split at h
  · rename_i hc
    split at h
    · rename_i hg; exact ⟨hc, hg⟩
    · exact absurd h (by decide)
  · rename_i hc; exact absurd h hc
structure Ran (ps : List InsL) (view : List FileL) : Prop where
  wf : WfM ps.length (runM ps view)
  done : (runM ps view).s.done = true
  fuel : (runM ps view).fault = 45 → (runM ps view).steps = 4096
  at' : goF ps view (runM ps view).steps mm0 = runM ps view
  not : ∀ j, j < (runM ps view).steps → (goF ps view j mm0).s.done = false
theorem run_ran {ps : List InsL} {view : List FileL} (hx : ∀ x ∈ ps, x.wf) (h : newF ps view = 0) : Ran ps view := by
  obtain ⟨hc, hg⟩ := newF_ok h
  obtain ⟨h0, h1, h2⟩ := check_wfi hx hc
  have hw := fun k => go_wf h2 hg k mm0 (mm0_wf h0)
  obtain ⟨n, hn, hd, hs, hj⟩ := run_ends (p := ps) (view := view) (m := mm0) fun k => ⟨(hw k).fuel, (hw k).end'⟩
  have h4 : n ≤ 4096 := by have : mm0.steps = 0 := rfl; omega
  have e : runM ps view = goF ps view n mm0 := by
    have e1 : 4096 = n + (4096 - n) := by omega
    unfold runM
    rw [e1, go_add, go_done hd]
  have es : (goF ps view n mm0).steps = n := by rw [hs]; show 0 + n = n; omega
  refine ⟨hw 4096, by rw [e]; exact hd, fun hf => go_fuel 4096 mm0 (fun h => by cases h) hf, ?_, ?_⟩
  · rw [e, es]
  · rw [e, es]; exact hj
/- Run's answer, whatever the program and the tree -/
theorem run_facts {ps : List InsL} {view : List FileL} (hx : ∀ x ∈ ps, x.wf) : goodF (runL ps view) = true ∧ runN ps view ≤ 4096 ∧ (runE ps view = 45 → runN ps view = 4096) ∧ (runE ps view = 0 ∨ runL ps view = []) := by
  by_cases h : newF ps view = 0
  · have hr := run_ran hx h
    unfold runL runN runE
    rw [if_pos h, if_pos h, if_pos h]
    unfold resF
    rw [if_pos hr.done]
    by_cases hf : (runM ps view).fault = 0
    · rw [if_pos hf]
      exact ⟨hr.wf.s.out, hr.wf.fuel, fun h => (by cases h), .inl rfl⟩
    · rw [if_neg hf]
      exact ⟨rfl, hr.wf.fuel, hr.fuel, .inr rfl⟩
  · unfold runL runN runE
    rw [if_neg h, if_neg h, if_neg h]
    refine ⟨rfl, Nat.zero_le _, fun h45 => ?_, .inr rfl⟩
    exfalso
    unfold newF at h45
    split at h45
    · split at h45 <;> exact absurd h45 (by decide)
    · rename_i hc
      unfold checkF at h45
      split at h45
      · exact absurd (show (13 : Int) = 45 from h45) (by decide)
      · split at h45
        · exact absurd (show (0 : Int) = 45 from h45) (by decide)
        · exact absurd (show (30 : Int) = 45 from h45) (by decide)
end Go.Proofs.YthehpmffkkogpaaGreatDoor
namespace Go.Proofs.YthehpmffkkogpaaGreatDoor
set_option linter.unusedVariables false
open Go.ChangeShapes Go.WideShapes Go.ChangeAt Go.RowKit
theorem go_one {ps : List InsL} {view : List FileL} {m m' : MM} (k : Nat) (hd : m.s.done = false) (h : stepF ps view m = m') : goF ps view (k + 1) m = goF ps view k m' := by
  rw [goF, if_neg (by rw [hd]; decide), h]
theorem step_plain {ps : List InsL} {view : List FileL} {m : MM} {s : MSt} {y : Int} (h : attF view (ps.getD m.s.next.toNat ins0) m.s = (s, y)) (hf : m.steps + 1 ≠ 4096 ∨ s.done = true ∨ y ≠ 0 ∨ s.next = ps.length) :
    stepF ps view m = ⟨{ s with done := s.done || decide (y ≠ 0) || decide (s.next = ps.length) }, m.steps + 1, y⟩ := by
  unfold stepF
  rw [h]
  simp only
  rw [if_neg]
  rintro ⟨h1, h2⟩
  rcases hf with hf | hf | hf | hf
  · exact hf h2
  · rw [hf] at h1; simp at h1
  · rw [decide_eq_true hf] at h1; simp at h1
  · rw [decide_eq_true hf] at h1; simp at h1
/- what Run answers of a run that is known -/
theorem run_known {ps : List InsL} {view : List FileL} {m : MM} (h : newF ps view = 0) (hm : runM ps view = m) (hd : m.s.done = true) : runL ps view = (if m.fault = 0 then m.s.out else []) ∧ runN ps view = m.steps ∧ runE ps view = m.fault := by
  unfold runL runN runE resF
  rw [if_pos h, if_pos h, if_pos h, hm, if_pos hd]
  by_cases hf : m.fault = 0
  · rw [if_pos hf, if_pos hf]; exact ⟨rfl, rfl, hf.symm⟩
  · rw [if_neg hf, if_neg hf]; exact ⟨rfl, rfl, rfl⟩
/- the end of a run that is done within so many steps -/
theorem run_in {ps : List InsL} {view : List FileL} {m : MM} (n : Nat) (hn : n ≤ 4096) (h : goF ps view n mm0 = m) (hd : m.s.done = true) : runM ps view = m := by
  have e : 4096 = n + (4096 - n) := by omega
  unfold runM
  rw [e, go_add, h, go_done hd]
/- alive -/
def pA : List InsL := [⟨3, 0, [97]⟩, ⟨3, 0, [120]⟩, ⟨29, 0, []⟩]
def pB : List InsL := [⟨17, 0, []⟩]
theorem pA_new : newF pA [] = 0 := by kernel_rfl
theorem pB_new : newF pB [] = 0 := by kernel_rfl
theorem pA_run : runL pA [] = [([97], [120])] ∧ runN pA [] = 3 ∧ runE pA [] = 0 := by
  have h := run_known (m := goF pA [] 3 mm0) pA_new (run_in 3 (by decide) rfl (by kernel_rfl)) (by kernel_rfl)
  obtain ⟨h1, h2, h3⟩ := h
  rw [h1, h2, h3]
  exact ⟨by kernel_rfl, by kernel_rfl, by kernel_rfl⟩
theorem pB_step (j : Nat) (h : j + 1 < 4096) : stepF pB [] ⟨mm0.s, j, 0⟩ = ⟨mm0.s, j + 1, 0⟩ := by
  rw [step_plain (s := mm0.s) (y := 0) (by kernel_rfl) (.inl (by show j + 1 ≠ 4096; omega))]
  rfl
theorem pB_go : ∀ (k j : Nat), j + k < 4096 → goF pB [] k ⟨mm0.s, j, 0⟩ = ⟨mm0.s, j + k, 0⟩
  | 0, j, _ => rfl
  | k + 1, j, h => by
    rw [go_one k rfl (pB_step j (by omega)), pB_go k (j + 1) (by omega)]
    congr 1
    omega
theorem pB_run : runN pB [] = 4096 ∧ runE pB [] = 45 := by
  have e : goF pB [] 4096 mm0 = ⟨{ mm0.s with done := true }, 4096, 45⟩ := by
    have e1 : (4096 : Nat) = 4095 + 1 := rfl
    have e2 : mm0 = ⟨mm0.s, 0, 0⟩ := rfl
    rw [e1, go_add, e2, pB_go 4095 0 (by decide)]
    rfl
  obtain ⟨-, h2, h3⟩ := run_known pB_new (run_in 4096 (by decide) e rfl) rfl
  exact ⟨h2, h3⟩
/- VmLoops -/
def pL (n : Int) : List InsL := [⟨2, n, []⟩, ⟨8, 0, []⟩, ⟨7, 0, []⟩, ⟨18, 9, []⟩, ⟨7, 0, []⟩, ⟨2, -1, []⟩, ⟨9, 0, []⟩, ⟨8, 0, []⟩, ⟨17, 2, []⟩, ⟨1, 0, []⟩]
def lM (k : Int) (j : Nat) : MM := ⟨⟨[], numV k :: List.replicate 15 (numV 0), [], [], 2, false⟩, j, 0⟩
theorem pL_new (n : Int) : newF (pL n) [] = 0 := by kernel_rfl
def lM5 (k : Int) (j : Nat) : MM := ⟨⟨[numV k], numV (k + 1) :: List.replicate 15 (numV 0), [], [], 7, false⟩, j, 0⟩
theorem pL_five (n k : Int) (hk : 0 < k ∧ k ≤ 1000) (j : Nat) (hj : j + 5 < 4096) (f : Nat) : goF (pL n) [] (f + 5) (lM k j) = goF (pL n) [] f (lM5 (k - 1) (j + 5)) := by
  have hw : wrap64 (k + -1) = k - 1 := by unfold wrap64; omega
  have hz : ¬ k = 0 := by omega
  have s1 : stepF (pL n) [] (lM k j) = ⟨⟨[numV k], numV k :: List.replicate 15 (numV 0), [], [], 3, false⟩, j + 1, 0⟩ := by
    rw [step_plain (s := ⟨[numV k], numV k :: List.replicate 15 (numV 0), [], [], 3, false⟩) (y := 0) (by rfl) (.inl (by show j + 1 ≠ 4096; omega))]; rfl
  have s2 : stepF (pL n) [] ⟨⟨[numV k], numV k :: List.replicate 15 (numV 0), [], [], 3, false⟩, j + 1, 0⟩ = ⟨⟨[], numV k :: List.replicate 15 (numV 0), [], [], 4, false⟩, j + 2, 0⟩ := by
    rw [step_plain (s := ⟨[], numV k :: List.replicate 15 (numV 0), [], [], 4, false⟩) (y := 0) (by
      show endOf (if k = 0 then _ else _) = _
      rw [if_neg hz]; rfl) (.inl (by show j + 1 + 1 ≠ 4096; omega))]; rfl
  have s3 : stepF (pL n) [] ⟨⟨[], numV k :: List.replicate 15 (numV 0), [], [], 4, false⟩, j + 2, 0⟩ = ⟨⟨[numV k], numV k :: List.replicate 15 (numV 0), [], [], 5, false⟩, j + 3, 0⟩ := by
    rw [step_plain (s := ⟨[numV k], numV k :: List.replicate 15 (numV 0), [], [], 5, false⟩) (y := 0) (by rfl) (.inl (by show j + 2 + 1 ≠ 4096; omega))]; rfl
  have s4 : stepF (pL n) [] ⟨⟨[numV k], numV k :: List.replicate 15 (numV 0), [], [], 5, false⟩, j + 3, 0⟩ = ⟨⟨[numV k, numV (-1)], numV k :: List.replicate 15 (numV 0), [], [], 6, false⟩, j + 4, 0⟩ := by
    rw [step_plain (s := ⟨[numV k, numV (-1)], numV k :: List.replicate 15 (numV 0), [], [], 6, false⟩) (y := 0) (by rfl) (.inl (by show j + 3 + 1 ≠ 4096; omega))]; rfl
  have s5 : stepF (pL n) [] ⟨⟨[numV k, numV (-1)], numV k :: List.replicate 15 (numV 0), [], [], 6, false⟩, j + 4, 0⟩ = ⟨⟨[numV (k - 1)], numV k :: List.replicate 15 (numV 0), [], [], 7, false⟩, j + 5, 0⟩ := by
    rw [step_plain (s := ⟨[numV (k - 1)], numV k :: List.replicate 15 (numV 0), [], [], 7, false⟩) (y := 0) (by rw [← hw]; rfl) (.inl (by show j + 4 + 1 ≠ 4096; omega))]; rfl
  rw [go_one (f + 4) rfl s1, go_one (f + 3) rfl s2, go_one (f + 2) rfl s3, go_one (f + 1) rfl s4, go_one f rfl s5, lM5, Int.sub_add_cancel]
theorem pL_round (n k : Int) (hk : 0 < k ∧ k ≤ 1000) (j : Nat) (hj : j + 7 < 4096) (f : Nat) : goF (pL n) [] (f + 7) (lM k j) = goF (pL n) [] f (lM (k - 1) (j + 7)) := by
  have s6 : stepF (pL n) [] ⟨⟨[numV (k - 1)], numV k :: List.replicate 15 (numV 0), [], [], 7, false⟩, j + 5, 0⟩ = ⟨⟨[], numV (k - 1) :: List.replicate 15 (numV 0), [], [], 8, false⟩, j + 6, 0⟩ := by
    rw [step_plain (s := ⟨[], numV (k - 1) :: List.replicate 15 (numV 0), [], [], 8, false⟩) (y := 0) (by rfl) (.inl (by show j + 5 + 1 ≠ 4096; omega))]; rfl
  have s7 : stepF (pL n) [] ⟨⟨[], numV (k - 1) :: List.replicate 15 (numV 0), [], [], 8, false⟩, j + 6, 0⟩ = lM (k - 1) (j + 7) := by
    rw [step_plain (s := ⟨[], numV (k - 1) :: List.replicate 15 (numV 0), [], [], 2, false⟩) (y := 0) (by rfl) (.inl (by show j + 6 + 1 ≠ 4096; omega))]; rfl
  have e : f + 7 = (f + 2) + 5 := by omega
  rw [e, pL_five n k hk j (by omega), show lM5 (k - 1) (j + 5) = ⟨⟨[numV (k - 1)], numV k :: List.replicate 15 (numV 0), [], [], 7, false⟩, j + 5, 0⟩ from by rw [lM5, Int.sub_add_cancel], go_one (f + 1) rfl s6, go_one f rfl s7]
theorem pL_begin (n : Int) (f : Nat) : goF (pL n) [] (f + 2) mm0 = goF (pL n) [] f (lM n 2) := by
  have s1 : stepF (pL n) [] mm0 = ⟨⟨[numV n], List.replicate 16 (numV 0), [], [], 1, false⟩, 1, 0⟩ := by
    rw [step_plain (s := ⟨[numV n], List.replicate 16 (numV 0), [], [], 1, false⟩) (y := 0) (by rfl) (.inl (by show 0 + 1 ≠ 4096; decide))]; rfl
  have s2 : stepF (pL n) [] ⟨⟨[numV n], List.replicate 16 (numV 0), [], [], 1, false⟩, 1, 0⟩ = lM n 2 := by
    rw [step_plain (s := ⟨[], numV n :: List.replicate 15 (numV 0), [], [], 2, false⟩) (y := 0) (by rfl) (.inl (by show 1 + 1 ≠ 4096; decide))]; rfl
  rw [go_one (f + 1) rfl s1, go_one f rfl s2]
theorem pL_rounds (n : Int) : ∀ (r : Nat) (k : Int) (j f : Nat), (r : Int) ≤ k → k ≤ 1000 → j + 7 * r < 4096 → goF (pL n) [] (f + 7 * r) (lM k j) = goF (pL n) [] f (lM (k - r) (j + 7 * r))
  | 0, k, j, f, _, _, _ => by
    have e : k - ((0 : Nat) : Int) = k := by omega
    rw [e]; rfl
  | r + 1, k, j, f, h1, h2, h3 => by
    have e : f + 7 * (r + 1) = (f + 7 * r) + 7 := by omega
    rw [e, pL_round n k (by omega) j (by omega), pL_rounds n r (k - 1) (j + 7) f (by omega) (by omega) (by omega)]
    have e1 : k - 1 - (r : Int) = k - ((r + 1 : Nat) : Int) := by omega
    have e2 : j + 7 + 7 * r = j + 7 * (r + 1) := by omega
    rw [e1, e2]
theorem pL_end (n : Int) (j : Nat) (hj : j + 3 ≤ 4096) : goF (pL n) [] 3 (lM 0 j) = ⟨⟨[], numV 0 :: List.replicate 15 (numV 0), [], [], 10, true⟩, j + 3, 0⟩ := by
  have s1 : stepF (pL n) [] (lM 0 j) = ⟨⟨[numV 0], numV 0 :: List.replicate 15 (numV 0), [], [], 3, false⟩, j + 1, 0⟩ := by
    rw [step_plain (s := ⟨[numV 0], numV 0 :: List.replicate 15 (numV 0), [], [], 3, false⟩) (y := 0) (by rfl) (.inl (by show j + 1 ≠ 4096; omega))]; rfl
  have s2 : stepF (pL n) [] ⟨⟨[numV 0], numV 0 :: List.replicate 15 (numV 0), [], [], 3, false⟩, j + 1, 0⟩ = ⟨⟨[], numV 0 :: List.replicate 15 (numV 0), [], [], 9, false⟩, j + 2, 0⟩ := by
    rw [step_plain (s := ⟨[], numV 0 :: List.replicate 15 (numV 0), [], [], 9, false⟩) (y := 0) (by rfl) (.inl (by show j + 1 + 1 ≠ 4096; omega))]; rfl
  have s3 : stepF (pL n) [] ⟨⟨[], numV 0 :: List.replicate 15 (numV 0), [], [], 9, false⟩, j + 2, 0⟩ = ⟨⟨[], numV 0 :: List.replicate 15 (numV 0), [], [], 10, true⟩, j + 3, 0⟩ := by
    rw [step_plain (s := ⟨[], numV 0 :: List.replicate 15 (numV 0), [], [], 10, true⟩) (y := 0) (by rfl) (.inr (.inl rfl))]; rfl
  rw [go_one 2 rfl s1, go_one 1 rfl s2, go_one 0 rfl s3]; rfl
theorem pL_fit (n : Nat) (h : 7 * n + 5 ≤ 4096) : runN (pL n) [] = 7 * n + 5 ∧ runE (pL n) [] = 0 := by
  have e : goF (pL n) [] (7 * n + 5) mm0 = ⟨⟨[], numV 0 :: List.replicate 15 (numV 0), [], [], 10, true⟩, 2 + 7 * n + 3, 0⟩ := by
    have e1 : 7 * n + 5 = (3 + 7 * n) + 2 := by omega
    rw [e1, pL_begin, pL_rounds n n n 2 3 (by omega) (by omega) (by omega)]
    have e2 : (n : Int) - (n : Int) = 0 := by omega
    rw [e2]
    exact pL_end n _ (by omega)
  obtain ⟨-, h2, h3⟩ := run_known (pL_new n) (run_in _ (by omega) e rfl) rfl
  exact ⟨by rw [h2]; show 2 + 7 * n + 3 = _; omega, h3⟩
/- where a run isn't done within its fuel, there is none left -/
theorem run_out {ps : List InsL} {view : List FileL} (hx : ∀ x ∈ ps, x.wf) (h : newF ps view = 0) {m : MM} (hm : goF ps view 4095 mm0 = m) (hd : m.s.done = false) (hs : (stepF ps view m).s.done = true → (stepF ps view m).fault = 45) : runN ps view = 4096 ∧ runE ps view = 45 := by
  have e : runM ps view = stepF ps view m := by
    unfold runM
    have e1 : (4096 : Nat) = 4095 + 1 := rfl
    rw [e1, go_succ (by rw [hm]; exact hd), hm]
  have hr := run_ran hx h
  have hd2 := hr.done
  have hf : (stepF ps view m).fault = 45 := hs (by rw [← e]; exact hd2)
  obtain ⟨-, h2, h3⟩ := run_known h rfl hd2
  rw [h2, h3, e, hf]
  exact ⟨step_fuel hf, rfl⟩
theorem pL_wf (n : Int) (h : 0 ≤ n ∧ n ≤ 1000) : ∀ x ∈ pL n, x.wf := by
  intro x hx
  simp only [pL, List.mem_cons, List.not_mem_nil, or_false] at hx
  rcases hx with rfl | rfl | rfl | rfl | rfl | rfl | rfl | rfl | rfl | rfl
  · exact ⟨(by decide : (-9223372036854775808 : Int) ≤ 2 ∧ (2 : Int) ≤ 9223372036854775807), ⟨by show _ ≤ n; omega, by show n ≤ _; omega⟩, Nat.zero_le _⟩
  all_goals exact ⟨by decide, by decide, Nat.zero_le _⟩
theorem pL_over (n : Nat) (h : 585 ≤ n ∧ n ≤ 1000) : runN (pL n) [] = 4096 ∧ runE (pL n) [] = 45 := by
  have e : goF (pL n) [] 4095 mm0 = lM5 ((n : Int) - (584 : Nat) - 1) 4095 := by
    have e1 : (4095 : Nat) = ((0 + 5) + 7 * 584) + 2 := rfl
    have e3 := pL_begin n ((0 + 5) + 7 * 584)
    have e4 := pL_rounds n 584 n 2 (0 + 5) (by omega) (by omega) (by decide)
    have e5 := pL_five n ((n : Int) - (584 : Nat)) (by omega) (2 + 7 * 584) (by decide) 0
    rw [← e1] at e3
    rw [e3, e4, e5]
    rfl
  refine run_out (pL_wf n (by omega)) (pL_new n) e rfl fun _ => ?_
  rfl
/- VmDepths -/
theorem all_new {ps : List InsL} (h0 : 0 < ps.length) (h1 : ps.length ≤ 256) (h : ∀ x ∈ ps, standsF x ps.length = true) : newF ps [] = 0 := by
  have hc : checkF ps = (0, 0) := by
    unfold checkF
    rw [if_neg (by omega)]
    have : ps.findIdx? (fun x => !standsF x ps.length) = none := List.findIdx?_eq_none_iff.2 fun x hx => by rw [h x hx]; rfl
    rw [this]
  unfold newF
  rw [hc]
  rfl
def pD (n : Nat) : List InsL := (List.range n).map fun i : Nat => ⟨2, (i : Int), []⟩
theorem pD_len (n : Nat) : (pD n).length = n := by simp [pD]
theorem pD_at {n k : Nat} (h : k < n) : (pD n).getD k ins0 = ⟨2, (k : Int), []⟩ := by
  unfold pD
  rw [List.getD_eq_getElem?_getD, List.getElem?_map, List.getElem?_eq_getElem (by simpa using h)]
  simp
theorem pD_new {n : Nat} (h : 1 ≤ n ∧ n ≤ 200) : newF (pD n) [] = 0 := by
  refine all_new (by rw [pD_len]; omega) (by rw [pD_len]; omega) fun x hx => ?_
  obtain ⟨i, -, rfl⟩ := List.mem_map.1 hx
  rfl
def dM (k : Nat) (d : Bool) : MM := ⟨⟨(List.range k).map fun i : Nat => numV (i : Int), List.replicate 16 (numV 0), [], [], (k : Int), d⟩, k, 0⟩
theorem pD_step {n k : Nat} (hk : k < n) (h64 : k < 64) : stepF (pD n) [] (dM k false) = dM (k + 1) (decide ((k : Int) + 1 = n)) := by
  have hl : ((List.range k).map fun i : Nat => numV (i : Int)).length = k := by simp
  have h1 : attF [] ((pD n).getD (dM k false).s.next.toNat ins0) (dM k false).s = (⟨(List.range k).map (fun i : Nat => numV (i : Int)) ++ [numV k], List.replicate 16 (numV 0), [], [], (k : Int) + 1, false⟩, 0) := by
    have e : (dM k false).s.next.toNat = k := Int.toNat_natCast k
    rw [e, pD_at hk]
    show endOf (pushR (numV k) _) = _
    unfold pushR
    rw [if_neg (by show ¬ 64 ≤ ((List.range k).map fun i : Nat => numV (i : Int)).length; rw [hl]; omega)]
    rfl
  rw [step_plain h1 (.inl (by show k + 1 ≠ 4096; omega)), pD_len]
  unfold dM
  rw [List.range_succ, List.map_append]
  rfl
theorem pD_go (n : Nat) : ∀ k, k ≤ 64 → k < n → goF (pD n) [] k mm0 = dM k false
  | 0, _, _ => rfl
  | k + 1, h1, h2 => by
    have e := pD_go n k (by omega) (by omega)
    rw [go_succ (by rw [e]; rfl), e, pD_step (by omega) (by omega), decide_eq_false (by omega)]
theorem pD_fit {n : Nat} (h : 1 ≤ n ∧ n ≤ 64) : runN (pD n) [] = n ∧ runE (pD n) [] = 0 := by
  obtain ⟨k, rfl⟩ : ∃ k, n = k + 1 := ⟨n - 1, by omega⟩
  have e := pD_go (k + 1) k (by omega) (by omega)
  have e2 : goF (pD (k + 1)) [] (k + 1) mm0 = dM (k + 1) true := by
    rw [go_succ (by rw [e]; rfl), e, pD_step (by omega) (by omega), decide_eq_true (by omega)]
  obtain ⟨-, h2, h3⟩ := run_known (pD_new (by omega)) (run_in _ (by omega) e2 rfl) rfl
  exact ⟨h2, h3⟩
theorem pD_over {n : Nat} (h : 65 ≤ n ∧ n ≤ 200) : runN (pD n) [] = 65 ∧ runE (pD n) [] = 40 := by
  have e := pD_go n 64 (by omega) (by omega)
  have h1 : attF [] ((pD n).getD (dM 64 false).s.next.toNat ins0) (dM 64 false).s = ({ (dM 64 false).s with next := 65 }, 40) := by
    have e : (dM 64 false).s.next.toNat = 64 := rfl
    rw [e, pD_at (by omega)]
    rfl
  have e2 : goF (pD n) [] 65 mm0 = ⟨{ { (dM 64 false).s with next := 65 } with done := true }, 65, 40⟩ := by
    rw [go_succ (k := 64) (by rw [e]; rfl), e, step_plain h1 (.inl (by decide))]
    rfl
  obtain ⟨-, h2, h3⟩ := run_known (pD_new (by omega)) (run_in _ (by omega) e2 rfl) rfl
  exact ⟨h2, h3⟩
def qD (n : Nat) : List InsL := (List.range n).map (fun i : Nat => ⟨19, (i : Int) + 1, []⟩) ++ [⟨1, 0, []⟩]
theorem qD_len (n : Nat) : (qD n).length = n + 1 := by simp [qD]
theorem qD_at {n k : Nat} (h : k < n) : (qD n).getD k ins0 = ⟨19, (k : Int) + 1, []⟩ := by
  unfold qD
  rw [List.getD_eq_getElem?_getD, List.getElem?_append_left (by simpa using h), List.getElem?_map, List.getElem?_eq_getElem (by simpa using h)]
  simp
theorem qD_last (n : Nat) : (qD n).getD n ins0 = ⟨1, 0, []⟩ := by
  unfold qD
  rw [List.getD_eq_getElem?_getD, List.getElem?_append_right (by simp)]
  simp
theorem qD_new {n : Nat} (h : 1 ≤ n ∧ n ≤ 200) : newF (qD n) [] = 0 := by
  refine all_new (by rw [qD_len]; omega) (by rw [qD_len]; omega) fun x hx => ?_
  rw [qD_len]
  rcases List.mem_append.1 hx with hx | hx
  · obtain ⟨i, hi, rfl⟩ := List.mem_map.1 hx
    have hi2 := List.mem_range.1 hi
    show decide (([] : List UInt8) = [] ∧ 0 ≤ (i : Int) + 1 ∧ (i : Int) + 1 < ((n + 1 : Nat) : Int)) = true
    exact decide_eq_true ⟨rfl, by omega, by omega⟩
  · rw [List.mem_singleton.1 hx]; rfl
def eM (k : Nat) : MM := ⟨⟨[], List.replicate 16 (numV 0), (List.range k).map fun i : Nat => (i : Int) + 1, [], (k : Int), false⟩, k, 0⟩
theorem qD_step {n k : Nat} (hk : k < n) (h16 : k < 16) : stepF (qD n) [] (eM k) = eM (k + 1) := by
  have hl : ((List.range k).map fun i : Nat => (i : Int) + 1).length = k := by simp
  have h1 : attF [] ((qD n).getD (eM k).s.next.toNat ins0) (eM k).s = (⟨[], List.replicate 16 (numV 0), (List.range k).map (fun i : Nat => (i : Int) + 1) ++ [(k : Int) + 1], [], (k : Int) + 1, false⟩, 0) := by
    have e : (eM k).s.next.toNat = k := Int.toNat_natCast k
    rw [e, qD_at hk]
    show endOf (if 16 ≤ ((List.range k).map fun i : Nat => (i : Int) + 1).length then _ else _) = _
    rw [if_neg (by rw [hl]; omega)]
    rfl
  rw [step_plain h1 (.inl (by show k + 1 ≠ 4096; omega)), qD_len]
  unfold eM
  have hd : decide ((k : Int) + 1 = ((n + 1 : Nat) : Int)) = false := decide_eq_false (by omega)
  rw [List.range_succ, List.map_append]
  simp only [hd]
  rfl
theorem qD_go (n : Nat) : ∀ k, k ≤ 16 → k ≤ n → goF (qD n) [] k mm0 = eM k
  | 0, _, _ => rfl
  | k + 1, h1, h2 => by
    have e := qD_go n k (by omega) (by omega)
    rw [go_succ (by rw [e]; rfl), e, qD_step (by omega) (by omega)]
theorem qD_fit {n : Nat} (h : 1 ≤ n ∧ n ≤ 16) : runN (qD n) [] = n + 1 ∧ runE (qD n) [] = 0 := by
  have e := qD_go n n (by omega) (by omega)
  have h1 : attF [] ((qD n).getD (eM n).s.next.toNat ins0) (eM n).s = ({ (eM n).s with next := (n : Int) + 1, done := true }, 0) := by
    have e : (eM n).s.next.toNat = n := Int.toNat_natCast n
    rw [e, qD_last]
    rfl
  have e2 : goF (qD n) [] (n + 1) mm0 = ⟨{ (eM n).s with next := (n : Int) + 1, done := true }, n + 1, 0⟩ := by
    rw [go_succ (by rw [e]; rfl), e, step_plain h1 (.inl (by show n + 1 ≠ 4096; omega))]
    rfl
  obtain ⟨-, h2, h3⟩ := run_known (qD_new (by omega)) (run_in _ (by omega) e2 rfl) rfl
  exact ⟨h2, h3⟩
theorem qD_over {n : Nat} (h : 17 ≤ n ∧ n ≤ 200) : runN (qD n) [] = 17 ∧ runE (qD n) [] = 40 := by
  have e := qD_go n 16 (by omega) (by omega)
  have h1 : attF [] ((qD n).getD (eM 16).s.next.toNat ins0) (eM 16).s = ({ (eM 16).s with next := 17 }, 40) := by
    have e : (eM 16).s.next.toNat = 16 := rfl
    rw [e, qD_at (by omega)]
    rfl
  have e2 : goF (qD n) [] 17 mm0 = ⟨{ { (eM 16).s with next := 17 } with done := true }, 17, 40⟩ := by
    rw [go_succ (k := 16) (by rw [e]; rfl), e, step_plain h1 (.inl (by decide))]
    rfl
  obtain ⟨-, h2, h3⟩ := run_known (qD_new (by omega)) (run_in _ (by omega) e2 rfl) rfl
  exact ⟨h2, h3⟩
end Go.Proofs.YthehpmffkkogpaaGreatDoor
namespace Go.Proofs.YthehpmffkkogpaaGreatDoor
set_option linter.unusedVariables false
open Go.ChangeShapes Go.WideShapes Go.ChangeAt Go.RowKit
theorem sort_sorted {l : List FileL} (h : Asc l) : sortF l = l := asc_perm (sortF_asc l) h (sortF_perm (asc_nodup h))
theorem make_again {l d : List FileL} (h : makeF l = .ok d) : goodF d = true := by
  obtain ⟨h1, h2, h3, h4, h5⟩ := make_parts h
  obtain ⟨h6, h7⟩ := make_len h
  have hasc : Asc d := by rw [h5]; exact sortF_asc l
  refine good_iff.2 ?_
  have hb : badF d = none := badF_none.2 fun x hx => h2 x (h7.mem_iff.1 hx)
  have hc : clashF d = false := by rw [clashF_perm h7]; exact h4
  have := make_ok (l := d) (by omega) hb (asc_nodup hasc) hc
  rw [this, sort_sorted hasc]
theorem make_asc {l d : List FileL} (h : makeF l = .ok d) : Asc d := by
  obtain ⟨-, -, -, -, h5⟩ := make_parts h
  rw [h5]
  exact sortF_asc l
theorem good_asc {l : List FileL} (h : goodF l = true) : Asc l := make_asc (good_ok h)
/- got -/
theorem getF_mem {l : List FileL} (h : (keysL l).Nodup) {x : FileL} (hx : x ∈ l) : getF l x.1 = (x.2, true) := by
  unfold getF
  cases hf : l.find? (fun y => decide (y.1 = x.1)) with
  | none => exact absurd (List.find?_eq_none.1 hf x hx) (by simp)
  | some y =>
    have h1 := List.find?_some hf
    have h2 := List.mem_of_find?_eq_some hf
    have h3 : y.1 = x.1 := by simpa using h1
    have h4 : y = x := by
      obtain ⟨i, hi, rfl⟩ := List.getElem_of_mem h2
      obtain ⟨j, hj, rfl⟩ := List.getElem_of_mem hx
      have h5 : i = j := by
        have h6 : (keysL l)[i]'(by unfold keysL; simpa using hi) = (keysL l)[j]'(by unfold keysL; simpa using hj) := by unfold keysL; simpa using h3
        exact (List.getElem_inj h).1 h6
      subst h5
      rfl
    subst h4
    rfl
theorem put_ok {t : List FileL} {f : FileL} {u : List FileL} (h : putF t f = .ok u) : goodF t = true ∧ u.Perm (delF (fun x => decide (x.1 = f.1)) t ++ [f]) ∧ (keysL u).Nodup ∧ u.length ≤ 32 ∧ ∀ x ∈ u, x.1.length ≤ 128 ∧ x.2.length ≤ 2048 := by
  unfold putF at h
  split at h
  · rename_i hg
    exact ⟨hg, (make_len h).2, asc_nodup (make_asc h), (good_sizes (make_again h)).1, (good_sizes (make_again h)).2⟩
  · cases h
theorem put_got {t : List FileL} {f : FileL} {u : List FileL} (h : putF t f = .ok u) : getF u f.1 = (f.2, true) := by
  obtain ⟨-, hp, hn, -⟩ := put_ok h
  exact getF_mem hn (hp.mem_iff.2 (by simp))
theorem put_other {t : List FileL} {f g : FileL} {u : List FileL} (h : putF t f = .ok u) (hg : g ∈ t) (hne : g.1 ≠ f.1) : getF u g.1 = (g.2, true) := by
  obtain ⟨-, hp, hn, -⟩ := put_ok h
  refine getF_mem hn (hp.mem_iff.2 (List.mem_append.2 (.inl ?_)))
  unfold delF
  rw [List.mem_filter]
  exact ⟨hg, by simpa using hne⟩
/- joined -/
theorem joinF_mem {d : List UInt8} : ∀ {a l : List FileL}, joinF d a = some l → ∀ x ∈ l, ∃ y ∈ a, Pth.joinL d y.1 = some x.1 ∧ x.2 = y.2
  | [], l, h => by cases h; exact fun x hx => by cases hx
  | y :: r, l, h => by
    rw [joinF] at h
    split at h
    · rename_i h0
      cases hr : joinF d r with
      | none => rw [hr] at h; cases h
      | some l' =>
        rw [hr] at h
        cases h
        intro x hx
        rcases List.mem_cons.1 hx with rfl | hx
        · refine ⟨y, List.mem_cons_self .., ?_, rfl⟩
          rcases jn_cases d y.1 with ⟨-, h1⟩ | ⟨h1, -⟩
          · exact h1
          · omega
        · obtain ⟨z, hz, h1⟩ := joinF_mem hr x hx
          exact ⟨z, List.mem_cons_of_mem _ hz, h1⟩
    · cases h
theorem und_ne {d s r : List UInt8} (hd : d ≠ []) (h : Pth.underL d s = some r) : s = (d ++ [47]) ++ r := by
  unfold Pth.underL at h
  split at h
  · try rw [if_neg hd] at h
    split at h
    · rename_i hp
      cases h
      obtain ⟨t, rfl⟩ := List.isPrefixOf_iff_prefix.1 hp
      rw [show d.length + 1 = (d ++ [47]).length by simp, List.drop_left]
    · cases h
  · cases h
theorem jn_ne {d s r : List UInt8} (hd : d ≠ []) (h : Pth.joinL d s = some r) : r = (d ++ [47]) ++ s := by
  unfold Pth.joinL at h
  split at h
  · cases h
    unfold Pth.glue
    rw [if_neg hd]
    simp
  · cases h
theorem jn_place {d s r : List UInt8} (h : Pth.joinL d s = some r) : Pth.placeL d = true ∧ Pth.goodL r = true ∧ Pth.goodL s = true := by
  unfold Pth.joinL at h
  split at h
  · rename_i h1
    cases h
    exact ⟨h1.2.1, h1.2.2, h1.1⟩
  · cases h
theorem place_ne {d : List UInt8} (hd : d ≠ []) (h : Pth.placeL d = true) : Pth.goodL d = true := by
  rwa [← place_full' hd]
theorem jn_und {d s r : List UInt8} (h : Pth.joinL d s = some r) : Pth.underL d r = some s := by
  obtain ⟨h1, h2, h3⟩ := jn_place h
  by_cases hd : d = []
  · subst hd
    unfold Pth.joinL at h
    split at h
    · cases h
      show Pth.underL [] s = some s
      unfold Pth.underL
      rw [if_pos ⟨h3, h1⟩, if_pos rfl]
    · cases h
  · have e := jn_ne hd h
    unfold Pth.underL
    rw [if_pos ⟨h2, h1⟩, if_neg hd, if_pos (by rw [e]; exact List.isPrefixOf_iff_prefix.2 ⟨s, rfl⟩), e, show d.length + 1 = (d ++ [47]).length by simp, List.drop_left]
theorem cutL_map (d : List UInt8) (l : List FileL) : cutL d l = l.filterMap fun x => (Pth.underL d x.1).map fun p => (p, x.2) := by
  induction l with
  | nil => rfl
  | cons x r ih =>
    rw [cutL, ih]
    cases h : Pth.underL d x.1 with
    | none =>
      have h1 : undL d x.1 = ([], false) := by unfold undL; rw [h]
      rw [h1, if_neg (by decide), List.filterMap_cons_none (by rw [h]; rfl)]
    | some p =>
      have h1 : undL d x.1 = (p, true) := by unfold undL; rw [h]
      rw [h1, if_pos rfl, List.filterMap_cons_some (by rw [h]; rfl)]
theorem cutL_app (d : List UInt8) (a b : List FileL) : cutL d (a ++ b) = cutL d a ++ cutL d b := by rw [cutL_map, cutL_map, cutL_map, List.filterMap_append]
theorem cutL_perm {d : List UInt8} {a b : List FileL} (h : a.Perm b) : (cutL d a).Perm (cutL d b) := by rw [cutL_map, cutL_map]; exact h.filterMap _
theorem cutL_join {d : List UInt8} : ∀ {a l : List FileL}, joinF d a = some l → cutL d l = a
  | [], l, h => by cases h; rfl
  | y :: r, l, h => by
    rw [joinF] at h
    split at h
    · rename_i h0
      cases hr : joinF d r with
      | none => rw [hr] at h; cases h
      | some l' =>
        rw [hr] at h
        cases h
        rcases jn_cases d y.1 with ⟨-, h1⟩ | ⟨h1, -⟩
        · have h2 : undL d (jnL d y.1).1 = (y.1, true) := by unfold undL; rw [jn_und h1]
          rw [cutL]
          simp only [h2, if_pos, cutL_join hr]
        · omega
    · cases h
theorem bl_app (p a b : List UInt8) : bl (p ++ a) (p ++ b) = bl a b := by
  induction p with
  | nil => rfl
  | cons c r ih =>
    rw [← ih]
    unfold bl
    show Op.bytesLess (c :: (r ++ a)) (c :: (r ++ b)) = _
    rw [Op.bytesLess]
    simp
theorem cutL_asc {d : List UInt8} {l : List FileL} (h : Asc l) : Asc (cutL d l) := by
  rw [cutL_map]
  unfold Asc
  rw [List.pairwise_filterMap]
  refine h.imp ?_
  intro x y hxy u hu v hv
  cases hx : Pth.underL d x.1 with
  | none => rw [hx] at hu; cases hu
  | some p =>
    cases hy : Pth.underL d y.1 with
    | none => rw [hy] at hv; cases hv
    | some q =>
      rw [hx] at hu
      rw [hy] at hv
      cases hu
      cases hv
      show bl p q = true
      by_cases hd : d = []
      · subst hd
        have e1 : x.1 = p := by unfold Pth.underL at hx; split at hx <;> simp_all
        have e2 : y.1 = q := by unfold Pth.underL at hy; split at hy <;> simp_all
        rw [← e1, ← e2]
        exact hxy
      · rw [und_ne hd hx, und_ne hd hy, bl_app] at hxy
        exact hxy
theorem mount_ok {t s u : List FileL} {d : List UInt8} (h : mountF t d s = .ok u) : goodF t = true ∧ goodF s = true ∧ Pth.placeL d = true ∧ ∃ l, joinF d s = some l ∧ makeF (t ++ l) = .ok u := by
  unfold mountF at h
  split at h
  · rename_i hg
    split at h
    · rename_i hp
      split at h
      · cases h
      · rename_i l hl
        exact ⟨hg.1, hg.2, hp, l, hl, h⟩
    · cases h
  · cases h
theorem mount_good {t s u : List FileL} {d : List UInt8} (h : mountF t d s = .ok u) : goodF u = true := by
  obtain ⟨-, -, -, l, -, h⟩ := mount_ok h
  exact make_again h
theorem mount_cut {t s u : List FileL} {d : List UInt8} (h : mountF t d s = .ok u) (h0 : cutL d t = []) : cutF u d = .ok s := by
  obtain ⟨h1, h2, h3, l, h4, h5⟩ := mount_ok h
  unfold cutF
  rw [if_pos (make_again h5), if_pos h3]
  have hp : (cutL d u).Perm s := by
    refine (cutL_perm (make_len h5).2).trans ?_
    rw [cutL_app, h0, cutL_join h4]
    exact List.Perm.refl _
  rw [asc_perm (cutL_asc (make_asc h5)) (good_asc h2) hp]
theorem cutF_of {t : List FileL} {d : List UInt8} (h : goodF t = true) (hd : Pth.goodL d = true) : cutF t d = .ok (cutL d t) := by
  unfold cutF
  rw [if_pos h, if_pos (by unfold Pth.placeL; rw [hd]; simp)]
/- neither stands under the other -/
theorem apart_pre {p q v : List UInt8} (hpq : p ≠ q) (hq : q ≠ []) (hpp : Pth.placeL p = true) (hqq : Pth.placeL q = true) (h1 : Pth.underL p q = none) (hl : (p ++ [47]).length ≤ (q ++ [47]).length) (hp0 : p ≠ []) (hu : (p ++ [47]) <+: v) (hv : (q ++ [47]) <+: v) : False := by
  have h := List.prefix_of_prefix_length_le hu hv hl
  by_cases he : p.length = q.length
  · exact hpq (List.append_inj_left (h.eq_of_length (by simp [he])) he)
  · have h2 : (p ++ [47]) <+: q := List.prefix_of_prefix_length_le h (List.prefix_append q [47]) (by simp at hl ⊢; omega)
    unfold Pth.underL at h1
    rw [if_pos ⟨place_ne hq hqq, hpp⟩, if_neg hp0, if_pos (List.isPrefixOf_iff_prefix.2 h2)] at h1
    cases h1
theorem apart_no {p q v : List UInt8} (hpq : p ≠ q) (hpp : Pth.placeL p = true) (hqq : Pth.placeL q = true) (h1 : Pth.underL p q = none) (h2 : Pth.underL q p = none) : p ≠ [] ∧ q ≠ [] ∧ ∀ v, (p ++ [47]) <+: v → (q ++ [47]) <+: v → False := by
  have hp0 : p ≠ [] := by
    rintro rfl
    unfold Pth.underL at h1
    rw [if_pos ⟨place_ne (Ne.symm hpq) hqq, hpp⟩, if_pos rfl] at h1
    cases h1
  have hq0 : q ≠ [] := by
    rintro rfl
    unfold Pth.underL at h2
    rw [if_pos ⟨place_ne hpq hpp, hqq⟩, if_pos rfl] at h2
    cases h2
  refine ⟨hp0, hq0, fun v hu hv => ?_⟩
  by_cases hl : (p ++ [47]).length ≤ (q ++ [47]).length
  · exact apart_pre hpq hq0 hpp hqq h1 hl hp0 hu hv
  · exact apart_pre (Ne.symm hpq) hp0 hqq hpp h2 (by omega) hq0 hv hu
theorem clash_no {l : List FileL} : clashF l = false ↔ ∀ f ∈ l, ∀ g ∈ l, aheadL f.1 g.1 = false := by
  unfold clashF
  simp only [List.any_eq_false, Bool.not_eq_true]
theorem mounts_swap {a b x y : List FileL} {p q : List UInt8} (hpq : p ≠ q) (hu : Pth.underL p q = none) (hv : Pth.underL q p = none) (h1 : mountF [] p a = .ok x) (h2 : mountF [] q b = .ok y) :
    mountF x q b = mountF y p a ∧ ((∃ z, mountF x q b = .ok z) ∨ mountF x q b = .error 13) := by
  obtain ⟨-, ga, pp, ja, hja, ma⟩ := mount_ok h1
  obtain ⟨-, gb, pq, jb, hjb, mb⟩ := mount_ok h2
  rw [List.nil_append] at ma mb
  have e1 : mountF x q b = makeF (x ++ jb) := by unfold mountF; rw [if_pos ⟨make_again ma, gb⟩, if_pos pq, hjb]
  have e2 : mountF y p a = makeF (y ++ ja) := by unfold mountF; rw [if_pos ⟨make_again mb, ga⟩, if_pos pp, hja]
  have px := (make_len ma).2
  have py := (make_len mb).2
  have hp1 : (x ++ jb).Perm (ja ++ jb) := px.append_right jb
  have hp2 : (y ++ ja).Perm (ja ++ jb) := (py.append_right ja).trans List.perm_append_comm
  rw [e1, e2]
  obtain ⟨-, a2, a3, a4, -⟩ := make_parts ma
  obtain ⟨-, b2, b3, b4, -⟩ := make_parts mb
  have hA : ∀ f ∈ ja, (p ++ [47]) <+: f.1 ∧ ∀ g ∈ jb, ¬ (p ++ [47]) <+: g.1 ∧ ¬ (q ++ [47]) <+: f.1 ∧ (q ++ [47]) <+: g.1 := by
    obtain ⟨p0, q0, hno⟩ := apart_no (v := []) hpq pp pq hu hv
    intro f hf
    obtain ⟨s, -, hs, -⟩ := joinF_mem hja f hf
    have e := jn_ne p0 hs
    have hpf : (p ++ [47]) <+: f.1 := ⟨s.1, e.symm⟩
    refine ⟨hpf, fun g hg => ?_⟩
    obtain ⟨s', -, hs', -⟩ := joinF_mem hjb g hg
    have e' := jn_ne q0 hs'
    have hqg : (q ++ [47]) <+: g.1 := ⟨s'.1, e'.symm⟩
    exact ⟨fun h => hno _ h hqg, fun h => hno _ hpf h, hqg⟩
  by_cases h32 : 32 < (ja ++ jb).length
  · have l1 := hp1.length_eq
    have l2 := hp2.length_eq
    rw [make_many (by omega), make_many (by omega)]
    exact ⟨rfl, .inr rfl⟩
  · have hbad : badF (ja ++ jb) = none := badF_none.2 fun f hf => by
      rcases List.mem_append.1 hf with h | h
      · exact a2 f h
      · exact b2 f h
    have hnd : (keysL (ja ++ jb)).Nodup := by
      unfold keysL at a3 b3 ⊢
      rw [List.map_append, List.nodup_append]
      refine ⟨a3, b3, fun u hu v hv e => ?_⟩
      obtain ⟨f, hf, rfl⟩ := List.mem_map.1 hu
      obtain ⟨g, hg, rfl⟩ := List.mem_map.1 hv
      have h := (hA f hf).2 g hg
      rw [← e] at h
      exact h.1 (hA f hf).1
    have hcl : clashF (ja ++ jb) = false := by
      rw [clash_no] at a4 b4 ⊢
      have hpre : ∀ {f g : FileL}, aheadL f.1 g.1 = true → f.1 <+: g.1 := fun h => by
        unfold aheadL dirL at h
        exact (List.prefix_append _ _).trans (List.isPrefixOf_iff_prefix.1 h)
      intro f hf g hg
      rcases List.mem_append.1 hf with hf | hf <;> rcases List.mem_append.1 hg with hg | hg
      · exact a4 f hf g hg
      · rw [Bool.eq_false_iff]
        exact fun h => ((hA f hf).2 g hg).1 ((hA f hf).1.trans (hpre h))
      · rw [Bool.eq_false_iff]
        exact fun h => ((hA g hg).2 f hf).2.1 (((hA g hg).2 f hf).2.2.trans (hpre h))
      · exact b4 f hf g hg
    have hM := make_ok h32 hbad hnd hcl
    have k1 := make_perm hp1
    have k2 := make_perm hp2
    have r1 : makeF (x ++ jb) = .ok (sortF (ja ++ jb)) := by
      rcases k1 with k | ⟨_, z, -, k, -, -⟩
      · rw [k, hM]
      · rw [hM] at k; cases k
    have r2 : makeF (y ++ ja) = .ok (sortF (ja ++ jb)) := by
      rcases k2 with k | ⟨_, z, -, k, -, -⟩
      · rw [k, hM]
      · rw [hM] at k; cases k
    rw [r1, r2]
    exact ⟨rfl, .inl ⟨_, rfl⟩⟩
end Go.Proofs.YthehpmffkkogpaaGreatDoor
namespace Go.Proofs.YthehpmffkkogpaaGreatDoor
set_option linter.unusedVariables false
open Go.ChangeShapes Go.WideShapes Go.ChangeAt Go.RowKit
theorem inpS_one (w : World) (a b : List UInt8) : InpS (w.alloc (.cells #[.string (tx a), .string (tx b)] 43)) (fun y => y = w.heap.size) (.slice (some ⟨w.heap.size, 0, none⟩) 1 1) [(a, b)] w.heap.size 0 := by
  obtain ⟨h0, h1⟩ := var2 (heap_alloc_new w (.cells #[.string (tx a), .string (tx b)] 43))
  refine ⟨⟨_, 1, rfl, Nat.le_refl _, by decide, fun _ => ⟨rfl, rfl⟩⟩, fun i hi => ?_⟩
  match i, hi with
  | 0, _ => exact ⟨h0, h1⟩
theorem great1_no {f : FileL} (h : greatF [f] = false) : f.1.length ≤ 131072 ∧ f.2.length ≤ 131072 := (great_no h).2 f (by simp)
theorem great_sizes {l : List FileL} (h : greatF l = false) : l.length ≤ 1048576 ∧ ∀ x ∈ l, x.1.length ≤ 1048576 ∧ x.2.length ≤ 1048576 := by
  obtain ⟨h1, h2⟩ := great_no h
  exact ⟨by omega, fun x hx => by have := h2 x hx; omega⟩
theorem make_out {l : List FileL} : (outL (makeF l)).length ≤ 32 := by
  cases h : makeF l with
  | error y => exact Nat.zero_le _
  | ok d => exact (good_sizes (make_again h)).1
theorem put_out {t : List FileL} {f : FileL} : (outL (putF t f)).length ≤ 1048576 := by
  unfold putF
  split
  · have := make_out (l := delF (fun x => decide (x.1 = f.1)) t ++ [f]); omega
  · exact Nat.zero_le _
theorem drop_out {t : List FileL} {p : List UInt8} (h : t.length ≤ 1048576) : (outL (dropF t p)).length ≤ 1048576 := by
  unfold dropF
  split
  · split
    · exact Nat.zero_le _
    · have := del_len (dropP p) t; show (delF (dropP p) t).length ≤ _; omega
  · exact Nat.zero_le _
theorem cut_out {t : List FileL} {d : List UInt8} (h : t.length ≤ 1048576) : (outL (cutF t d)).length ≤ 1048576 := by
  unfold cutF
  split
  · split
    · have := cutL_len (d := d) t; show (cutL d t).length ≤ _; omega
    · exact Nat.zero_le _
  · exact Nat.zero_le _
theorem mount_out {t s : List FileL} {d : List UInt8} : (outL (mountF t d s)).length ≤ 1048576 := by
  unfold mountF
  split
  · split
    · split
      · exact Nat.zero_le _
      · rename_i l _; have := make_out (l := t ++ l); omega
    · exact Nat.zero_le _
  · exact Nat.zero_le _
theorem out_ok {r : Except Int (List FileL)} {d : List FileL} {y : Int} (h : r = .ok d) : outL r = d ∧ outE r = 0 := by subst h; exact ⟨rfl, rfl⟩
theorem tpgood_any (l : List UInt8) (w : World) (hl : l.length ≤ 1048576) (hm : Pth.Ml w) : Calls Tryz.prog 60 #[.string (tx l)] w (SayB (Pth.goodL l) w) := by
  have h := Pth.good_any (tx l) w (by rw [tx_size]; omega) hm
  rw [tx_list] at h
  exact h.mono fun e w' h => ⟨h.1, chg_of_below h.2⟩
theorem put_err {t : List FileL} {f : FileL} {y : Int} (h : putF t f = .error y) : y ≠ 0 := by
  unfold putF at h
  split at h
  · exact make_err h
  · cases h; decide
theorem mount_err {t s : List FileL} {d : List UInt8} {y : Int} (h : mountF t d s = .error y) : y ≠ 0 := by
  unfold mountF at h
  split at h
  · split at h
    · split at h
      · cases h; decide
      · exact make_err h
    · cases h; decide
  · cases h; decide
theorem put_zero {t : List FileL} {f : FileL} (h : outE (putF t f) = 0) : putF t f = .ok (outL (putF t f)) := by
  cases hc : putF t f with
  | error y => rw [hc] at h; exact absurd h (put_err hc)
  | ok d => rfl
theorem mount_zero {t s : List FileL} {d : List UInt8} (h : outE (mountF t d s) = 0) : mountF t d s = .ok (outL (mountF t d s)) := by
  cases hc : mountF t d s with
  | error y => rw [hc] at h; exact absurd h (mount_err hc)
  | ok d => rfl
end Go.Proofs.YthehpmffkkogpaaGreatDoor
namespace Go.Proofs.YthehpmffkkogpaaGreatDoor
set_option linter.unusedVariables false
open Go.ChangeShapes Go.WideShapes Go.ChangeAt Go.RowKit
abbrev L16 : List ValL := List.replicate 16 (numV 0)
def tailI : List InsL := [⟨8, 0, []⟩, ⟨3, 0, [97]⟩, ⟨7, 0, []⟩, ⟨29, 0, []⟩]
def strI : InsL := ⟨24, 0, []⟩
theorem tail_at (p : List InsL) (i : Nat) : (p ++ tailI).getD (p.length + i) ins0 = tailI.getD i ins0 := by
  rw [List.getD_eq_getElem?_getD, List.getD_eq_getElem?_getD, List.getElem?_append_right (by omega)]
  congr 2
  omega
theorem put_a {t : List UInt8} (h : t.length ≤ 2048) : putF [] ([97], t) = .ok [([97], t)] := by
  have hb : badF [(([97] : List UInt8), t)] = none := badF_none.2 fun f hf => by
    rw [List.mem_singleton.1 hf]
    exact ⟨by kernel_rfl, h⟩
  have hg : goodF [] = true := rfl
  unfold putF
  rw [if_pos hg]
  show makeF [(([97] : List UInt8), t)] = _
  unfold makeF
  rw [if_neg (by show ¬ 32 < 1; decide), hb]
  show (if (keysL [(([97] : List UInt8), t)]).Nodup then _ else _) = _
  rw [if_pos (show (keysL [(([97] : List UInt8), t)]).Nodup from (by decide : [([97] : List UInt8)].Nodup)), if_neg (show ¬ (clashF [(([97] : List UInt8), t)] = true) from (by decide : ¬ (clashF [(([97] : List UInt8), [])] = true)))]
  rfl
def stT (t : List UInt8) (k : Int) : MSt := ⟨[txtV t], L16, [], [], k, false⟩
/- what stands on the stack is written to the file a -/
theorem tail_go (p : List InsL) (t : List UInt8) (ht : t.length ≤ 2048) (j : Nat) (hj : j + 4 ≤ 4096) :
    ∃ m, goF (p ++ tailI) [] 4 ⟨stT t p.length, j, 0⟩ = m ∧ m.s.done = true ∧ m.fault = 0 ∧ m.s.out = [([97], t)] ∧ m.steps = j + 4 := by
  have hL : ((p ++ tailI).length : Int) = (p.length : Int) + 4 := by simp [tailI]
  have g := tail_at p
  have a0 : (p ++ tailI).getD ((p.length : Int)).toNat ins0 = ⟨8, 0, []⟩ := by
    have := g 0; rw [Nat.add_zero] at this; rw [Int.toNat_natCast, this]; rfl
  have a1 : (p ++ tailI).getD ((p.length : Int) + 1).toNat ins0 = ⟨3, 0, [97]⟩ := by
    rw [show ((p.length : Int) + 1).toNat = p.length + 1 by omega, g 1]; rfl
  have a2 : (p ++ tailI).getD ((p.length : Int) + 1 + 1).toNat ins0 = ⟨7, 0, []⟩ := by
    rw [show ((p.length : Int) + 1 + 1).toNat = p.length + 2 by omega, g 2]; rfl
  have a3 : (p ++ tailI).getD ((p.length : Int) + 1 + 1 + 1).toNat ins0 = ⟨29, 0, []⟩ := by
    rw [show ((p.length : Int) + 1 + 1 + 1).toNat = p.length + 3 by omega, g 3]; rfl
  obtain ⟨k, hk⟩ : ∃ k : Int, k = (p.length : Int) := ⟨_, rfl⟩
  rw [← hk] at a0 a1 a2 a3 hL ⊢
  have n1 : ∀ x : Int, x < k + 4 → decide (x = ((p ++ tailI).length : Int)) = false := fun x hx => decide_eq_false (by omega)
  have s1 : stepF (p ++ tailI) [] ⟨stT t k, j, 0⟩ = ⟨⟨[], L16.set 0 (txtV t), [], [], k + 1, false⟩, j + 1, 0⟩ := by
    rw [step_plain (s := ⟨[], L16.set 0 (txtV t), [], [], k + 1, false⟩) (y := 0) (by show attF [] ((p ++ tailI).getD k.toNat ins0) (stT t k) = _; rw [a0]; rfl) (.inl (by show j + 1 ≠ 4096; omega)), n1 _ (by show k + 1 < k + 4; omega)]; rfl
  have s2 : stepF (p ++ tailI) [] ⟨⟨[], L16.set 0 (txtV t), [], [], k + 1, false⟩, j + 1, 0⟩ = ⟨⟨[txtV [97]], L16.set 0 (txtV t), [], [], k + 1 + 1, false⟩, j + 2, 0⟩ := by
    rw [step_plain (s := ⟨[txtV [97]], L16.set 0 (txtV t), [], [], k + 1 + 1, false⟩) (y := 0) (by show attF [] ((p ++ tailI).getD (k + 1).toNat ins0) _ = _; rw [a1]; rfl) (.inl (by show j + 1 + 1 ≠ 4096; omega)), n1 _ (by show k + 1 + 1 < k + 4; omega)]; rfl
  have s3 : stepF (p ++ tailI) [] ⟨⟨[txtV [97]], L16.set 0 (txtV t), [], [], k + 1 + 1, false⟩, j + 2, 0⟩ = ⟨⟨[txtV [97], txtV t], L16.set 0 (txtV t), [], [], k + 1 + 1 + 1, false⟩, j + 3, 0⟩ := by
    rw [step_plain (s := ⟨[txtV [97], txtV t], L16.set 0 (txtV t), [], [], k + 1 + 1 + 1, false⟩) (y := 0) (by show attF [] ((p ++ tailI).getD (k + 1 + 1).toNat ins0) _ = _; rw [a2]; rfl) (.inl (by show j + 2 + 1 ≠ 4096; omega)), n1 _ (by show k + 1 + 1 + 1 < k + 4; omega)]; rfl
  have s4 : stepF (p ++ tailI) [] ⟨⟨[txtV [97], txtV t], L16.set 0 (txtV t), [], [], k + 1 + 1 + 1, false⟩, j + 3, 0⟩ = ⟨⟨[], L16.set 0 (txtV t), [], [([97], t)], k + 1 + 1 + 1 + 1, true⟩, j + 4, 0⟩ := by
    have hd : decide (k + 1 + 1 + 1 + 1 = ((p ++ tailI).length : Int)) = true := decide_eq_true (by omega)
    rw [step_plain (s := ⟨[], L16.set 0 (txtV t), [], [([97], t)], k + 1 + 1 + 1 + 1, false⟩) (y := 0) (by
      show attF [] ((p ++ tailI).getD (k + 1 + 1 + 1).toNat ins0) _ = _
      rw [a3]
      show endOf (match putF [] ([97], t) with | .error y => _ | .ok o => _) = _
      rw [put_a ht]; rfl) (.inr (.inr (.inr (by show k + 1 + 1 + 1 + 1 = _; omega)))), hd]; rfl
  refine ⟨_, rfl, ?_⟩
  rw [go_one 3 rfl s1, go_one 2 rfl s2, go_one 1 rfl s3, go_one 0 rfl s4]
  exact ⟨rfl, rfl, rfl, rfl⟩
/- a program that comes to its tail with a text -/
theorem wrote_of {p : List InsL} {t : List UInt8} (ht : t.length ≤ 2048) {j : Nat} (hj : j ≤ 64) (hn : newF (p ++ tailI) [] = 0) (h : goF (p ++ tailI) [] j mm0 = ⟨stT t p.length, j, 0⟩) : runL (p ++ tailI) [] = [([97], t)] ∧ runE (p ++ tailI) [] = 0 := by
  obtain ⟨m, h1, h2, h3, h4, h5⟩ := tail_go p t ht j (by omega)
  have e : goF (p ++ tailI) [] (j + 4) mm0 = m := by rw [go_add, h, h1]
  obtain ⟨r1, -, r3⟩ := run_known hn (run_in _ (by omega) e h2) h2
  rw [r1, r3, if_pos h3]
  exact ⟨h4, h3⟩
theorem wrote_err {p : List InsL} {s : MSt} {y : Int} (hy : y ≠ 0) {j : Nat} (hj : j < 4095) (hn : newF p [] = 0) {m : MM} (h : goF p [] j mm0 = m) (hd : m.s.done = false) (hs : m.steps = j) (ha : attF [] (p.getD m.s.next.toNat ins0) m.s = (s, y)) : runL p [] = [] ∧ runE p [] = y := by
  have e : goF p [] (j + 1) mm0 = ⟨{ s with done := s.done || decide (y ≠ 0) || decide (s.next = p.length) }, m.steps + 1, y⟩ := by
    rw [go_succ (by rw [h]; exact hd), h]
    exact step_plain ha (.inl (by omega))
  have hd2 : (s.done || decide (y ≠ 0) || decide (s.next = p.length)) = true := by rw [decide_eq_true hy]; simp
  obtain ⟨r1, -, r3⟩ := run_known hn (run_in _ (by omega) e hd2) hd2
  rw [r1, r3]
  exact ⟨if_neg hy, rfl⟩
/- VmReckons -/
def rP (o a b : Int) : List InsL := [⟨2, a, []⟩, ⟨2, b, []⟩, ⟨o, 0, []⟩, strI]
/- what the operation answers; none: a division by zero -/
def resN (o a b : Int) : Option Int :=
  if o = 14 then some (if a < b then 1 else 0) else if o = 15 then some (if a = b then 1 else 0) else reckF o a b
def ops7 : List Int := [9, 10, 11, 12, 13, 14, 15]
theorem rP_new {o : Int} (ho : o ∈ ops7) (a b : Int) : newF (rP o a b ++ tailI) [] = 0 := by
  simp only [ops7, List.mem_cons, List.not_mem_nil, or_false] at ho
  rcases ho with rfl | rfl | rfl | rfl | rfl | rfl | rfl <;> kernel_rfl
theorem rP_do {o : Int} (ho : o ∈ ops7) (a b : Int) : doR [] ⟨o, 0, []⟩ ⟨[numV a, numV b], L16, [], [], 3, false⟩ = match resN o a b with
    | some k => .ok ((), ⟨[numV k], L16, [], [], 3, false⟩)
    | none => .error (42, ⟨[], L16, [], [], 3, false⟩) := by
  simp only [ops7, List.mem_cons, List.not_mem_nil, or_false] at ho
  rcases ho with rfl | rfl | rfl | rfl | rfl | rfl | rfl
  · rfl
  · rfl
  · rfl
  · have e : resN 12 a b = reckF 12 a b := rfl
    rw [e]
    show (match reckF 12 a b with | none => _ | some k => _) = _
    cases reckF 12 a b <;> rfl
  · have e : resN 13 a b = reckF 13 a b := rfl
    rw [e]
    show (match reckF 13 a b with | none => _ | some k => _) = _
    cases reckF 13 a b <;> rfl
  · show pushR (boolV (decide (a < b) || bl [] [])) ⟨[], L16, [], [], 3, false⟩ = (.ok ((), ⟨[numV (if a < b then 1 else 0)], L16, [], [], 3, false⟩))
    rw [bl_irr, Bool.or_false]
    unfold boolV
    by_cases h : a < b
    · rw [if_pos h, decide_eq_true h]; rfl
    · rw [if_neg h, decide_eq_false h]; rfl
  · show pushR (boolV (decide (numV a = numV b))) ⟨[], L16, [], [], 3, false⟩ = (.ok ((), ⟨[numV (if a = b then 1 else 0)], L16, [], [], 3, false⟩))
    have e : (numV a = numV b) ↔ a = b := by simp [numV]
    rw [decide_eq_decide.2 e]
    unfold boolV
    by_cases h : a = b
    · rw [if_pos h, decide_eq_true h]; rfl
    · rw [if_neg h, decide_eq_false h]; rfl
theorem rP_two {o : Int} (a b : Int) : goF (rP o a b ++ tailI) [] 2 mm0 = ⟨⟨[numV a, numV b], L16, [], [], 2, false⟩, 2, 0⟩ := by
  have s1 : stepF (rP o a b ++ tailI) [] mm0 = ⟨⟨[numV a], L16, [], [], 1, false⟩, 1, 0⟩ := by
    rw [step_plain (s := ⟨[numV a], L16, [], [], 1, false⟩) (y := 0) (by rfl) (.inl (by first | decide | (dsimp only; omega)))]; rfl
  have s2 : stepF (rP o a b ++ tailI) [] ⟨⟨[numV a], L16, [], [], 1, false⟩, 1, 0⟩ = ⟨⟨[numV a, numV b], L16, [], [], 2, false⟩, 2, 0⟩ := by
    rw [step_plain (s := ⟨[numV a, numV b], L16, [], [], 2, false⟩) (y := 0) (by rfl) (.inl (by first | decide | (dsimp only; omega)))]; rfl
  rw [go_one 1 rfl s1, go_one 0 rfl s2]; rfl
theorem rP_run {o : Int} (ho : o ∈ ops7) (a b : Int) : match resN o a b with
    | some k => -9223372036854775808 ≤ k ∧ k ≤ 9223372036854775807 → runL (rP o a b ++ tailI) [] = [([97], itoaL k)] ∧ runE (rP o a b ++ tailI) [] = 0
    | none => runL (rP o a b ++ tailI) [] = [] ∧ runE (rP o a b ++ tailI) [] = 42 := by
  have hn := rP_new ho a b
  have h2 := rP_two (o := o) a b
  have hdo := rP_do ho a b
  cases hk : resN o a b with
  | none =>
    rw [hk] at hdo
    refine wrote_err (j := 2) (s := ⟨[], L16, [], [], 3, false⟩) (by decide) (by decide) hn h2 rfl rfl ?_
    show endOf (doR [] ⟨o, 0, []⟩ ⟨[numV a, numV b], L16, [], [], 3, false⟩) = _
    rw [hdo]; rfl
  | some k =>
    rw [hk] at hdo
    intro hin
    have s3 : stepF (rP o a b ++ tailI) [] ⟨⟨[numV a, numV b], L16, [], [], 2, false⟩, 2, 0⟩ = ⟨⟨[numV k], L16, [], [], 3, false⟩, 3, 0⟩ := by
      rw [step_plain (s := ⟨[numV k], L16, [], [], 3, false⟩) (y := 0) (by
        show endOf (doR [] ⟨o, 0, []⟩ ⟨[numV a, numV b], L16, [], [], 3, false⟩) = _
        rw [hdo]; rfl) (.inl (by first | decide | (dsimp only; omega)))]; rfl
    have s4 : stepF (rP o a b ++ tailI) [] ⟨⟨[numV k], L16, [], [], 3, false⟩, 3, 0⟩ = ⟨⟨[txtV (itoaL k)], L16, [], [], 4, false⟩, 4, 0⟩ := by
      rw [step_plain (s := ⟨[txtV (itoaL k)], L16, [], [], 4, false⟩) (y := 0) (by rfl) (.inl (by first | decide | (dsimp only; omega)))]; rfl
    refine wrote_of (j := 4) (t := itoaL k) ?_ (by decide) hn ?_
    · have := Lib.itoa_length_le k hin.1 hin.2
      show (Lib.itoa k).length ≤ 2048
      omega
    · have e : (4 : Nat) = 2 + (1 + 1) := rfl
      rw [e, go_add, h2, go_one 1 rfl s3, go_one 0 rfl s4]; rfl
/- VmTexts -/
def tP (a b : List UInt8) : List InsL := [⟨3, 0, a⟩, ⟨3, 0, b⟩, ⟨21, 0, []⟩]
theorem txt_stands {a : List UInt8} (h : a.length ≤ 256) (k : Int) : standsF ⟨3, 0, a⟩ k = true := by
  show decide ((0 : Int) = 0 ∧ a.length ≤ 256) = true
  exact decide_eq_true ⟨rfl, h⟩
theorem tP_new {a b : List UInt8} (ha : a.length ≤ 256) (hb : b.length ≤ 256) {q : List InsL} (hq : q.length ≤ 200) (h : ∀ x ∈ q, ∀ n : Int, standsF x n = true) : newF (tP a b ++ q) [] = 0 := by
  refine all_new (by simp [tP]) (by simp [tP]; omega) fun x hx => ?_
  rcases List.mem_append.1 hx with hx | hx
  · simp only [tP, List.mem_cons, List.not_mem_nil, or_false] at hx
    rcases hx with rfl | rfl | rfl
    · exact txt_stands ha _
    · exact txt_stands hb _
    · rfl
  · exact h x hx _
theorem tP_three (a b : List UInt8) (ha : a.length ≤ 256) (hb : b.length ≤ 256) (q : List InsL) (hq : 0 < q.length) : goF (tP a b ++ q) [] 3 mm0 = ⟨stT (a ++ b) 3, 3, 0⟩ := by
  have hl : ∀ x : Int, x ≤ 3 → decide (x = ((tP a b ++ q).length : Int)) = false := fun x hx => decide_eq_false (by simp [tP]; omega)
  have s1 : stepF (tP a b ++ q) [] mm0 = ⟨⟨[txtV a], L16, [], [], 1, false⟩, 1, 0⟩ := by
    rw [step_plain (s := ⟨[txtV a], L16, [], [], 1, false⟩) (y := 0) (by rfl) (.inl (by first | decide | (dsimp only; omega))), hl _ (by decide : (1 : Int) ≤ 3)]; rfl
  have s2 : stepF (tP a b ++ q) [] ⟨⟨[txtV a], L16, [], [], 1, false⟩, 1, 0⟩ = ⟨⟨[txtV a, txtV b], L16, [], [], 2, false⟩, 2, 0⟩ := by
    rw [step_plain (s := ⟨[txtV a, txtV b], L16, [], [], 2, false⟩) (y := 0) (by rfl) (.inl (by first | decide | (dsimp only; omega))), hl _ (by decide : (2 : Int) ≤ 3)]; rfl
  have s3 : stepF (tP a b ++ q) [] ⟨⟨[txtV a, txtV b], L16, [], [], 2, false⟩, 2, 0⟩ = ⟨stT (a ++ b) 3, 3, 0⟩ := by
    rw [step_plain (s := stT (a ++ b) 3) (y := 0) (by
      show endOf (if 2048 < a.length + b.length then _ else _) = _
      rw [if_neg (by omega)]; rfl) (.inl (by first | decide | (dsimp only; omega))), show (stT (a ++ b) 3).next = 3 from rfl, hl _ (by decide : (3 : Int) ≤ 3)]; rfl
  rw [go_one 2 rfl s1, go_one 1 rfl s2, go_one 0 rfl s3]; rfl
theorem tP_run {a b : List UInt8} (ha : a.length ≤ 256) (hb : b.length ≤ 256) : runL (tP a b ++ tailI) [] = [([97], a ++ b)] ∧ runE (tP a b ++ tailI) [] = 0 := by
  refine wrote_of (p := tP a b) (j := 3) (by rw [List.length_append]; omega) (by decide) (tP_new ha hb (by decide) (fun x hx n => ?_)) (tP_three a b ha hb tailI (by decide))
  simp only [tailI, List.mem_cons, List.not_mem_nil, or_false] at hx
  rcases hx with rfl | rfl | rfl | rfl <;> rfl
def lP (a b : List UInt8) : List InsL := tP a b ++ [⟨22, 0, []⟩, strI]
theorem lP_run {a b : List UInt8} (ha : a.length ≤ 256) (hb : b.length ≤ 256) : runL (lP a b ++ tailI) [] = [([97], itoaL ((a.length : Int) + b.length))] ∧ runE (lP a b ++ tailI) [] = 0 := by
  obtain ⟨n, hn⟩ : ∃ n : Int, n = ((a ++ b).length : Int) := ⟨_, rfl⟩
  have hn2 : (a.length : Int) + b.length = n := by rw [hn, List.length_append]; omega
  rw [hn2]
  have e0 : lP a b ++ tailI = tP a b ++ ([⟨22, 0, []⟩, strI] ++ tailI) := by unfold lP; rw [List.append_assoc]
  have h3 := tP_three a b ha hb ([⟨22, 0, []⟩, strI] ++ tailI) (by decide)
  rw [← e0] at h3
  refine wrote_of (p := lP a b) (j := 5) ?_ (by decide) ?_ ?_
  · have := Lib.itoa_length_le n (by omega) (by rw [List.length_append] at hn; omega)
    show (Lib.itoa n).length ≤ 2048
    omega
  · rw [e0]
    refine tP_new ha hb (by decide) fun x hx k => ?_
    simp only [tailI, strI, List.mem_append, List.mem_cons, List.not_mem_nil, or_false] at hx
    rcases hx with (rfl | rfl) | rfl | rfl | rfl | rfl <;> rfl
  · have s4 : stepF (lP a b ++ tailI) [] ⟨stT (a ++ b) 3, 3, 0⟩ = ⟨⟨[numV n], L16, [], [], 4, false⟩, 4, 0⟩ := by
      rw [hn, step_plain (s := ⟨[numV ((a ++ b).length : Int)], L16, [], [], 4, false⟩) (y := 0) (by rfl) (.inl (by first | decide | (dsimp only; omega)))]; rfl
    have s5 : stepF (lP a b ++ tailI) [] ⟨⟨[numV n], L16, [], [], 4, false⟩, 4, 0⟩ = ⟨stT (itoaL n) 5, 5, 0⟩ := by
      rw [step_plain (s := stT (itoaL n) 5) (y := 0) (by rfl) (.inl (by first | decide | (dsimp only; omega)))]; rfl
    have e : (5 : Nat) = 3 + (1 + 1) := rfl
    rw [e, go_add, h3, go_one 1 rfl s4, go_one 0 rfl s5]; rfl
def cP (a b : List UInt8) (x y : Int) : List InsL := tP a b ++ [⟨2, x, []⟩, ⟨2, y, []⟩, ⟨23, 0, []⟩]
theorem cP_new {a b : List UInt8} (ha : a.length ≤ 256) (hb : b.length ≤ 256) (x y : Int) : newF (cP a b x y ++ tailI) [] = 0 := by
  unfold cP
  rw [List.append_assoc]
  refine tP_new ha hb (by simp [tailI]) fun z hz k => ?_
  simp only [tailI, List.mem_append, List.mem_cons, List.not_mem_nil, or_false] at hz
  rcases hz with (rfl | rfl | rfl) | rfl | rfl | rfl | rfl <;> rfl
theorem cP_five {a b : List UInt8} (ha : a.length ≤ 256) (hb : b.length ≤ 256) (x y : Int) : goF (cP a b x y ++ tailI) [] 5 mm0 = ⟨⟨[txtV (a ++ b), numV x, numV y], L16, [], [], 5, false⟩, 5, 0⟩ := by
  have e0 : cP a b x y ++ tailI = tP a b ++ ([⟨2, x, []⟩, ⟨2, y, []⟩, ⟨23, 0, []⟩] ++ tailI) := by unfold cP; rw [List.append_assoc]
  have h3 := tP_three a b ha hb ([⟨2, x, []⟩, ⟨2, y, []⟩, ⟨23, 0, []⟩] ++ tailI) (by simp)
  rw [← e0] at h3
  have s4 : stepF (cP a b x y ++ tailI) [] ⟨stT (a ++ b) 3, 3, 0⟩ = ⟨⟨[txtV (a ++ b), numV x], L16, [], [], 4, false⟩, 4, 0⟩ := by
    rw [step_plain (s := ⟨[txtV (a ++ b), numV x], L16, [], [], 4, false⟩) (y := 0) (by rfl) (.inl (by first | decide | (dsimp only; omega)))]; rfl
  have s5 : stepF (cP a b x y ++ tailI) [] ⟨⟨[txtV (a ++ b), numV x], L16, [], [], 4, false⟩, 4, 0⟩ = ⟨⟨[txtV (a ++ b), numV x, numV y], L16, [], [], 5, false⟩, 5, 0⟩ := by
    rw [step_plain (s := ⟨[txtV (a ++ b), numV x, numV y], L16, [], [], 5, false⟩) (y := 0) (by rfl) (.inl (by first | decide | (dsimp only; omega)))]; rfl
  have e : (5 : Nat) = 3 + (1 + 1) := rfl
  rw [e, go_add, h3, go_one 1 rfl s4, go_one 0 rfl s5]; rfl
theorem cP_run {a b : List UInt8} (ha : a.length ≤ 256) (hb : b.length ≤ 256) (x y : Int) :
    if x < 0 ∨ y < x ∨ ((a ++ b).length : Int) < y then runE (cP a b x y ++ tailI) [] = 43 else runL (cP a b x y ++ tailI) [] = [([97], cutT (a ++ b) x y)] ∧ runE (cP a b x y ++ tailI) [] = 0 := by
  have hn := cP_new ha hb x y
  have h5 := cP_five ha hb x y
  split
  · rename_i hc
    refine (wrote_err (j := 5) (s := ⟨[], L16, [], [], 6, false⟩) (y := 43) (by decide) (by decide) hn h5 rfl rfl ?_).2
    show endOf (if x < 0 ∨ y < x ∨ ((a ++ b).length : Int) < y then _ else _) = _
    rw [if_pos hc]; rfl
  · rename_i hc
    have s6 : stepF (cP a b x y ++ tailI) [] ⟨⟨[txtV (a ++ b), numV x, numV y], L16, [], [], 5, false⟩, 5, 0⟩ = ⟨stT (cutT (a ++ b) x y) 6, 6, 0⟩ := by
      rw [step_plain (s := stT (cutT (a ++ b) x y) 6) (y := 0) (by
        show endOf (if x < 0 ∨ y < x ∨ ((a ++ b).length : Int) < y then _ else _) = _
        rw [if_neg hc]; rfl) (.inl (by first | decide | (dsimp only; omega)))]; rfl
    refine wrote_of (p := cP a b x y) (j := 6) ?_ (by decide) hn ?_
    · unfold cutT
      rw [List.length_drop, List.length_take, List.length_append]
      omega
    · have e : (6 : Nat) = 5 + 1 := rfl
      rw [e, go_add, h5, go_one 0 rfl s6]; rfl
end Go.Proofs.YthehpmffkkogpaaGreatDoor
namespace Go.Proofs.YthehpmffkkogpaaGreatDoor
set_option linter.unusedVariables false
open Go.ChangeShapes Go.WideShapes Go.ChangeAt Go.RowKit
def shI (x : InsL) : InsL := if 17 ≤ x.op ∧ x.op ≤ 19 then { x with n := x.n + 1 } else x
def shS (s : MSt) : MSt := { s with calls := s.calls.map (· + 1), next := s.next + 1 }
def shR {α : Type} : VR α → VR α
  | .ok (a, s) => .ok (a, shS s)
  | .error (y, s) => .error (y, shS s)
theorem shR_then {α β : Type} {r r' : VR α} (h : r' = shR r) {f : α → MSt → VR β} (hf : ∀ a s, f a (shS s) = shR (f a s)) : r'.then f = shR (r.then f) := by
  subst h
  match r with
  | .ok (a, s) => exact hf a s
  | .error (y, s) => rfl
theorem shR_then2 {α β : Type} {r r' : VR α} (h : r' = shR r) {f f' : α → MSt → VR β} (hf : ∀ a s, f' a (shS s) = shR (f a s)) : r'.then f' = shR (r.then f) := by
  subst h
  match r with
  | .ok (a, s) => exact hf a s
  | .error (y, s) => rfl
theorem sh_need (n : Nat) (s : MSt) : needR n (shS s) = shR (needR n s) := by
  unfold needR
  show (if s.stack.length < n then _ else _) = _
  split <;> rfl
theorem sh_push (v : ValL) (s : MSt) : pushR v (shS s) = shR (pushR v s) := by
  unfold pushR
  show (if 64 ≤ s.stack.length then _ else _) = _
  split <;> rfl
theorem sh_pop (s : MSt) : popR (shS s) = shR (popR s) := rfl
theorem sh_num (s : MSt) : numR (shS s) = shR (numR s) := by
  unfold numR
  show (if (lastV s).1 = true then _ else _) = _
  split <;> rfl
theorem sh_txt (s : MSt) : txtR (shS s) = shR (txtR s) := by
  unfold txtR
  show (if (lastV s).1 = true then _ else _) = _
  split <;> rfl
theorem sh_last (l : List Int) (h : l.length ≠ 0) : (l.map (· + 1)).getLastD 0 = l.getLastD 0 + 1 := by
  rw [List.getLastD_eq_getLast?, List.getLastD_eq_getLast?, List.getLast?_map]
  cases hl : l.getLast? with
  | none => exact absurd (by rw [List.getLast?_eq_none_iff.1 hl]; rfl) h
  | some v => rfl
theorem sh_turn (op n : Int) (hop : 17 ≤ op ∧ op ≤ 20) (s : MSt) (k : Int) (hk : op ≤ 19 → k = n + 1) : turnR op k (shS s) = shR (turnR op n s) := by
  unfold turnR
  split
  · rename_i h
    obtain rfl := hk (by omega)
    refine shR_then2 (sh_need _ _) fun _ s => shR_then2 (sh_num s) fun j s => ?_
    split <;> rfl
  · split
    · rename_i h
      obtain rfl := hk (by omega)
      show (if 16 ≤ (s.calls.map (· + 1)).length then _ else _) = _
      rw [List.length_map]
      split
      · rfl
      · show Except.ok ((), _) = Except.ok ((), _)
        simp [shS]
    · split
      · show (if (s.calls.map (· + 1)).length = 0 then _ else _) = _
        rw [List.length_map]
        split
        · rfl
        · rename_i h
          show Except.ok ((), _) = Except.ok ((), _)
          have e := sh_last s.calls h
          simp only [shS, List.map_dropLast] at e ⊢
          rw [e]
      · rename_i h1 h2 h3
        obtain rfl := hk (by omega)
        rfl
theorem sh_do (view : List FileL) (x : InsL) (s : MSt) : doR view (shI x) (shS s) = shR (doR view x s) := by
  by_cases hp : 17 ≤ x.op ∧ x.op ≤ 20
  · have e : ∀ (y : InsL) (s : MSt), y.op = x.op → doR view y s = turnR y.op y.n s := fun y s hy => by
      unfold doR
      rw [hy, if_neg (by omega), if_neg (by omega), if_neg (by omega), if_neg (by omega), if_neg (by omega), if_neg (by omega), if_neg (by omega), if_neg (by omega), if_pos (by omega)]
    have ho : (shI x).op = x.op := by unfold shI; split <;> rfl
    rw [e _ _ ho, e x s rfl, ho]
    refine sh_turn x.op x.n hp s _ fun h => ?_
    unfold shI
    rw [if_pos ⟨hp.1, h⟩]
  · have e : shI x = x := by unfold shI; rw [if_neg (by omega)]
    rw [e]
    unfold doR
    by_cases c0 : x.op = 1
    · rw [if_pos c0, if_pos c0]; rfl
    rw [if_neg c0, if_neg c0]
    by_cases c1 : x.op = 2
    · rw [if_pos c1, if_pos c1]; exact sh_push _ _
    rw [if_neg c1, if_neg c1]
    by_cases c2 : x.op = 3
    · rw [if_pos c2, if_pos c2]; exact sh_push _ _
    rw [if_neg c2, if_neg c2]
    by_cases c3 : x.op = 7
    · rw [if_pos c3, if_pos c3]; exact sh_push _ _
    rw [if_neg c3, if_neg c3]
    by_cases c4 : x.op = 8
    · rw [if_pos c4, if_pos c4]; exact shR_then (sh_need _ _) fun _ s => shR_then (sh_pop s) fun _ _ => rfl
    rw [if_neg c4, if_neg c4]
    by_cases c5 : x.op = 4 ∨ x.op = 5 ∨ x.op = 6
    · rw [if_pos c5, if_pos c5]
      unfold shiftR; split
      · exact shR_then (sh_need _ _) fun _ s => shR_then (sh_pop s) fun _ s => shR_then (sh_pop s) fun _ s => shR_then (sh_push _ s) fun _ s => sh_push _ s
      · refine shR_then (sh_need _ _) fun _ s => shR_then (sh_pop s) fun a s => ?_
        split
        · exact shR_then (sh_push _ s) fun _ s => sh_push _ s
        · rfl
    rw [if_neg c5, if_neg c5]
    by_cases c6 : 9 ≤ x.op ∧ x.op ≤ 13
    · rw [if_pos c6, if_pos c6]
      unfold reckR
      refine shR_then (sh_need _ _) fun _ s => shR_then (sh_num s) fun b s => shR_then (sh_num s) fun a s => ?_
      split
      · rfl
      · exact sh_push _ _
    rw [if_neg c6, if_neg c6]
    by_cases c7 : 14 ≤ x.op ∧ x.op ≤ 16
    · rw [if_pos c7, if_pos c7]
      unfold askR; split
      · exact shR_then (sh_need _ _) fun _ s => shR_then (sh_num s) fun _ s => sh_push _ s
      · refine shR_then (sh_need _ _) fun _ s => shR_then (sh_pop s) fun b s => shR_then (sh_pop s) fun a s => ?_
        split
        · exact sh_push _ _
        · split
          · exact sh_push _ _
          · rfl
    rw [if_neg c7, if_neg c7]
    by_cases c8 : 17 ≤ x.op ∧ x.op ≤ 20
    · rw [if_pos c8, if_pos c8]
      have h := c8; exact absurd h hp
    rw [if_neg c8, if_neg c8]
    by_cases c9 : 21 ≤ x.op ∧ x.op ≤ 25
    · rw [if_pos c9, if_pos c9]
      unfold spellR; split
      · refine shR_then (sh_need _ _) fun _ s => shR_then (sh_txt s) fun b s => shR_then (sh_txt s) fun a s => ?_
        split
        · rfl
        · exact sh_push _ _
      · split
        · exact shR_then (sh_need _ _) fun _ s => shR_then (sh_txt s) fun _ s => sh_push _ s
        · split
          · refine shR_then (sh_need _ _) fun _ s => shR_then (sh_num s) fun b s => shR_then (sh_num s) fun a s => shR_then (sh_txt s) fun t s => ?_
            split
            · rfl
            · exact sh_push _ _
          · split
            · exact shR_then (sh_need _ _) fun _ s => shR_then (sh_num s) fun _ s => sh_push _ s
            · exact shR_then (sh_need _ _) fun _ s => shR_then (sh_txt s) fun _ s => shR_then (sh_push _ s) fun _ s => sh_push _ s
    rw [if_neg c9, if_neg c9]
    by_cases c10 : 26 ≤ x.op ∧ x.op ≤ 29
    · rw [if_pos c10, if_pos c10]
      unfold fileR; split
      · exact shR_then (sh_need _ _) fun _ s => shR_then (sh_txt s) fun _ s => shR_then (sh_push _ s) fun _ s => sh_push _ s
      · split
        · exact sh_push _ _
        · split
          · exact shR_then (sh_need _ _) fun _ s => shR_then (sh_num s) fun _ s => shR_then (sh_push _ s) fun _ s => sh_push _ s
          · refine shR_then (sh_need _ _) fun _ s => shR_then (sh_txt s) fun d s => shR_then (sh_txt s) fun p s => ?_
            show (match putF s.out (p, d) with | .error y => _ | .ok o => _) = _
            cases putF s.out (p, d) <;> rfl
    rw [if_neg c10, if_neg c10]
    by_cases c11 : x.op = 30
    · rw [if_pos c11, if_pos c11]; rfl
    rw [if_neg c11, if_neg c11]
    rfl
theorem sh_att (view : List FileL) (x : InsL) (s : MSt) : attF view (shI x) (shS s) = (shS (attF view x s).1, (attF view x s).2) := by
  unfold attF
  have e : ({ shS s with next := (shS s).next + 1 } : MSt) = shS { s with next := s.next + 1 } := rfl
  rw [e, sh_do]
  generalize doR view x { s with next := s.next + 1 } = r
  match r with
  | .ok (_, s) => rfl
  | .error (_, s) => rfl
def jumpI : InsL := ⟨17, 1, []⟩
def shM (m : MM) : MM := ⟨shS m.s, m.steps + 1, m.fault⟩
theorem sh_getD (ps : List InsL) (n : Int) (h : 0 ≤ n) (h2 : n < ps.length) (x : InsL) : (x :: ps.map shI).getD (n + 1).toNat ins0 = shI (ps.getD n.toNat ins0) := by
  have e : (n + 1).toNat = n.toNat + 1 := by omega
  rw [e, List.getD_cons_succ]
  have h3 : n.toNat < ps.length := by omega
  rw [List.getD_eq_getElem?_getD, List.getD_eq_getElem?_getD, List.getElem?_map, List.getElem?_eq_getElem h3]
  rfl
/- one step, far from the end of the fuel -/
theorem sh_step (ps : List InsL) (view : List FileL) (m : MM) (x : InsL) (h : 0 ≤ m.s.next) (h2 : m.s.next < ps.length) :
    (m.steps + 2 ≠ 4096 ∧ m.steps + 1 ≠ 4096 ∨ m.steps + 1 ≠ 4096 ∧ (stepF ps view m).s.done = true → stepF (x :: ps.map shI) view (shM m) = shM (stepF ps view m)) ∧
    (m.steps + 2 = 4096 → (stepF ps view m).s.done = false → (stepF (x :: ps.map shI) view (shM m)).s.done = true ∧ (stepF (x :: ps.map shI) view (shM m)).fault = 45 ∧ (stepF (x :: ps.map shI) view (shM m)).steps = 4096) := by
  have e1 : attF view ((x :: ps.map shI).getD (shM m).s.next.toNat ins0) (shM m).s = (shS (attF view (ps.getD m.s.next.toNat ins0) m.s).1, (attF view (ps.getD m.s.next.toNat ins0) m.s).2) := by
    have e2 : (shM m).s.next = m.s.next + 1 := rfl
    rw [e2, sh_getD ps _ h h2, show (shM m).s = shS m.s from rfl, sh_att]
  unfold stepF
  rw [e1]
  generalize attF view (ps.getD m.s.next.toNat ins0) m.s = r at *
  have e3 : decide ((shS r.1).next = ((x :: ps.map shI).length : Int)) = decide (r.1.next = (ps.length : Int)) := by
    apply decide_eq_decide.2
    show r.1.next + 1 = _ ↔ _
    simp only [List.length_cons, List.length_map]
    omega
  have e4 : (shS r.1).done = r.1.done := rfl
  simp only [e3, e4]
  generalize (r.1.done || decide (r.2 ≠ 0) || decide (r.1.next = (ps.length : Int))) = d
  have e5 : (shM m).steps = m.steps + 1 := rfl
  rw [e5]
  refine ⟨fun hc => ?_, fun hc hd => ?_⟩
  · have h1 : ¬ (d = false ∧ m.steps + 1 = 4096) := by omega
    rw [if_neg h1] at hc ⊢
    have h3 : ¬ (d = false ∧ m.steps + 1 + 1 = 4096) := by
      rcases hc with hc | hc
      · omega
      · intro h; have h4 : d = true := hc.2; rw [h.1] at h4; cases h4
    rw [if_neg h3]
    rfl
  · have h1 : ¬ (d = false ∧ m.steps + 1 = 4096) := by omega
    rw [if_neg h1] at hd
    have h2 : d = false := hd
    rw [if_pos ⟨h2, by omega⟩]
    exact ⟨rfl, rfl, by show m.steps + 1 + 1 = 4096; omega⟩
end Go.Proofs.YthehpmffkkogpaaGreatDoor
namespace Go.Proofs.YthehpmffkkogpaaGreatDoor
set_option linter.unusedVariables false
open Go.ChangeShapes Go.WideShapes Go.ChangeAt Go.RowKit
def jumpedL (ps : List InsL) : List InsL := jumpI :: ps.map shI
def movedL (ps : List InsL) : List InsL := ⟨1, 0, []⟩ :: ps.map shI
theorem sh_go {ps : List InsL} {view : List FileL} (hx : ∀ x ∈ ps, WfI ps.length x) (hv : goodF view = true) (x : InsL) : ∀ (k : Nat) (m : MM), WfM ps.length m →
    (∀ j, j < k → (goF ps view j m).s.done = false) → m.steps + k ≤ 4095 → (m.steps + k = 4095 → (goF ps view k m).s.done = true) →
    goF (x :: ps.map shI) view k (shM m) = shM (goF ps view k m)
  | 0, m, _, _, _, _ => rfl
  | k + 1, m, hw, hj, h1, h2 => by
    have hd : m.s.done = false := hj 0 (by omega)
    have hn := hw.s.next
    have hin := hw.in' hd
    have hs := (sh_step ps view m x hn.1 hin).1
    have hstep : stepF (x :: ps.map shI) view (shM m) = shM (stepF ps view m) := by
      refine hs ?_
      by_cases h3 : m.steps + 2 = 4096
      · refine .inr ⟨by omega, ?_⟩
        have hk : k = 0 := by omega
        subst hk
        have := h2 (by omega)
        rw [goF, if_neg (by rw [hd]; decide)] at this
        exact this
      · exact .inl ⟨h3, by omega⟩
    have e1 : (shM m).s.done = false := hd
    rw [goF, if_neg (by rw [e1]; decide), hstep, goF, if_neg (by rw [hd]; decide)]
    refine sh_go hx hv x k _ (step_wf hx hv hw hd) (fun j hjk => ?_) (by rw [step_steps]; omega) (fun h => ?_)
    · have := hj (j + 1) (by omega)
      rw [goF, if_neg (by rw [hd]; decide)] at this
      exact this
    · rw [step_steps] at h
      have := h2 (by omega)
      rw [goF, if_neg (by rw [hd]; decide)] at this
      exact this
theorem sh_stands {ps : List InsL} {x : InsL} (h : standsF x ps.length = true) : standsF (shI x) ((ps.length + 1 : Nat) : Int) = true := by
  unfold standsF at h ⊢
  have ho : (shI x).op = x.op := by unfold shI; split <;> rfl
  have hs : (shI x).s = x.s := by unfold shI; split <;> rfl
  rw [ho, hs]
  split
  · rename_i h0; rw [if_pos h0] at h; exact h
  rename_i h0
  rw [if_neg h0] at h
  by_cases hp : 17 ≤ x.op ∧ x.op ≤ 19
  · have ht : takesF x.op = 4 := by unfold takesF; rw [if_neg (by omega), if_neg (by omega), if_neg (by omega), if_pos (by omega)]
    have hn : (shI x).n = x.n + 1 := by unfold shI; rw [if_pos hp]
    rw [ht] at h ⊢
    rw [hn]
    have h := of_decide_eq_true h
    exact decide_eq_true ⟨h.1, by omega, by omega⟩
  · have ht : takesF x.op ≠ 4 := by
      unfold takesF
      split
      · decide
      · split
        · decide
        · split
          · decide
          · split
            · omega
            · decide
    have hn : (shI x).n = x.n := by unfold shI; rw [if_neg hp]
    rw [hn]
    rw [if_neg ht] at h ⊢
    exact h
theorem check_all {ps : List InsL} (h : (checkF ps).2 = 0) : 0 < ps.length ∧ ps.length ≤ 256 ∧ ∀ x ∈ ps, standsF x ps.length = true := by
  unfold checkF at h
  split at h
  · exact absurd h (by decide)
  · rename_i hl
    refine ⟨by omega, by omega, fun x hm => ?_⟩
    split at h
    · rename_i hf
      rw [List.findIdx?_eq_none_iff] at hf
      have := hf x hm
      simpa using this
    · exact absurd (show (30 : Int) = 0 from h) (by decide)
theorem check_ok {ps : List InsL} (h0 : 0 < ps.length) (h1 : ps.length ≤ 256) (h : ∀ x ∈ ps, standsF x ps.length = true) : (checkF ps).2 = 0 := by
  unfold checkF
  rw [if_neg (by omega)]
  have : ps.findIdx? (fun x => !standsF x ps.length) = none := List.findIdx?_eq_none_iff.2 fun x hx => by rw [h x hx]; rfl
  rw [this]
theorem sh_new {ps : List InsL} {view : List FileL} (hc : (checkF ps).2 = 0) (h : ps.length ≤ 255) (hv : goodF view = true) {x : InsL} (hx : standsF x ((ps.length + 1 : Nat) : Int) = true) : newF (x :: ps.map shI) view = 0 := by
  obtain ⟨h0, h1, h2⟩ := check_all hc
  have e : (x :: ps.map shI).length = ps.length + 1 := by simp
  have hk := check_ok (ps := x :: ps.map shI) (by rw [e]; omega) (by rw [e]; omega) fun y hy => by
    rw [e]
    rcases List.mem_cons.1 hy with rfl | hy
    · exact hx
    · obtain ⟨z, hz, rfl⟩ := List.mem_map.1 hy
      exact sh_stands (h2 z hz)
  unfold newF
  rw [hk, hv]
  rfl
theorem moved_run {ps : List InsL} {view : List FileL} (hc : (checkF ps).2 = 0) (h : ps.length ≤ 255) (hv : goodF view = true) : runL (movedL ps) view = [] ∧ runN (movedL ps) view = 1 ∧ runE (movedL ps) view = 0 := by
  have hn : newF (movedL ps) view = 0 := sh_new hc h hv (by rfl)
  have h1 : attF view ((movedL ps).getD mm0.s.next.toNat ins0) mm0.s = ({ mm0.s with next := 1, done := true }, 0) := by rfl
  have e : goF (movedL ps) view 1 mm0 = ⟨{ { mm0.s with next := 1, done := true } with done := true || decide ((0 : Int) ≠ 0) || decide ((1 : Int) = ((movedL ps).length : Int)) }, 1, 0⟩ := by
    rw [go_one 0 rfl (step_plain h1 (.inl (by decide)))]; rfl
  obtain ⟨r1, r2, r3⟩ := run_known hn (run_in 1 (by decide) e (by simp)) (by simp)
  rw [r1, r2, r3]
  exact ⟨rfl, rfl, rfl⟩
theorem jumped_run {ps : List InsL} {view : List FileL} (hwf : ∀ x ∈ ps, x.wf) (hwf2 : ∀ x ∈ jumpedL ps, x.wf) (hc : (checkF ps).2 = 0) (h : ps.length ≤ 255) (hv : goodF view = true) :
    if runE ps view = 45 ∨ runN ps view = 4096 then runE (jumpedL ps) view = 45 else runL (jumpedL ps) view = runL ps view ∧ runN (jumpedL ps) view = runN ps view + 1 ∧ runE (jumpedL ps) view = runE ps view := by
  have hnew : newF ps view = 0 := by unfold newF; rw [hc, hv]; rfl
  have hn2 : newF (jumpedL ps) view = 0 := sh_new hc h hv (by
    show decide (([] : List UInt8) = [] ∧ (0 : Int) ≤ 1 ∧ (1 : Int) < ((ps.length + 1 : Nat) : Int)) = true
    exact decide_eq_true ⟨rfl, by decide, by have := (check_all hc).1; omega⟩)
  have hr := run_ran hwf hnew
  obtain ⟨hp1, hp2, hpw⟩ := check_wfi hwf hc
  have hfirst : stepF (jumpedL ps) view mm0 = shM mm0 := by
    have h1 : attF view ((jumpedL ps).getD mm0.s.next.toNat ins0) mm0.s = ({ mm0.s with next := 1 }, 0) := by rfl
    rw [step_plain h1 (.inl (by decide))]
    have hd : decide ((1 : Int) = ((jumpedL ps).length : Int)) = false := decide_eq_false (by show ¬ (1 : Int) = ((jumpI :: ps.map shI).length : Int); simp; omega)
    show (⟨{ { mm0.s with next := 1 } with done := false || decide ((0 : Int) ≠ 0) || decide ((1 : Int) = ((jumpedL ps).length : Int)) }, 1, 0⟩ : MM) = _
    rw [hd]; rfl
  have hN : runN ps view = (runM ps view).steps := by unfold runN; rw [if_pos hnew]
  have hE : runE ps view = (runM ps view).fault := by unfold runE resF; rw [if_pos hnew, if_pos hr.done]; split <;> simp_all
  have hL : runL ps view = if (runM ps view).fault = 0 then (runM ps view).s.out else [] := by unfold runL resF; rw [if_pos hnew, if_pos hr.done]; split <;> simp_all
  have hfu := hr.wf.fuel
  by_cases h4 : (runM ps view).steps = 4096
  · rw [if_pos (.inr (by rw [hN]; exact h4))]
    have h4095 := hr.not 4095 (by omega)
    have hst := (not_done_steps 4095 mm0 h4095).1
    have h4094 := hr.not 4094 (by omega)
    have hst4 := (not_done_steps 4094 mm0 h4094).1
    have hw4 := go_wf hpw hv 4094 mm0 (mm0_wf hp1)
    have e := sh_go hpw hv jumpI 4094 mm0 (mm0_wf hp1) (fun j hj => hr.not j (by omega)) (by decide) (fun h => absurd h (by decide))
    have hs := (sh_step ps view (goF ps view 4094 mm0) jumpI hw4.s.next.1 (hw4.in' h4094)).2 (by rw [hst4]; rfl) (by rw [← go_succ h4094]; exact h4095)
    have e2 : goF (jumpedL ps) view 4095 mm0 = shM (goF ps view 4094 mm0) := by
      rw [show (4095 : Nat) = 4094 + 1 from rfl, go_one 4094 rfl hfirst]; exact e
    have e3 : goF (jumpedL ps) view 4096 mm0 = stepF (jumpedL ps) view (shM (goF ps view 4094 mm0)) := by
      rw [show (4096 : Nat) = 4095 + 1 from rfl, go_succ (by rw [e2]; exact h4094), e2]
    obtain ⟨-, -, r3⟩ := run_known hn2 (run_in 4096 (Nat.le_refl _) e3 hs.1) hs.1
    rw [r3]
    exact hs.2.1
  · have h45 : ¬ (runE ps view = 45 ∨ runN ps view = 4096) := by
      rintro (h5 | h5)
      · exact h4 (hr.fuel (by rw [← hE]; exact h5))
      · exact h4 (by rw [← hN]; exact h5)
    rw [if_neg h45]
    have hat : goF ps view (runM ps view).steps mm0 = runM ps view := hr.at'
    have e := sh_go hpw hv jumpI (runM ps view).steps mm0 (mm0_wf hp1) (fun j hj => hr.not j hj) (by show 0 + _ ≤ _; omega) (fun _ => by rw [hat]; exact hr.done)
    rw [hat] at e
    have e2 : goF (jumpedL ps) view ((runM ps view).steps + 1) mm0 = shM (runM ps view) := by
      rw [go_one _ rfl hfirst]; exact e
    obtain ⟨r1, r2, r3⟩ := run_known hn2 (run_in _ (by omega) e2 hr.done) hr.done
    rw [r1, r2, r3, hL, hN, hE]
    exact ⟨rfl, rfl, rfl⟩
end Go.Proofs.YthehpmffkkogpaaGreatDoor
namespace Go.Proofs.YthehpmffkkogpaaGreatDoor
set_option linter.unusedVariables false
open Go.ChangeShapes Go.WideShapes Go.ChangeAt Go.RowKit
theorem getF_no {l : List FileL} {p : List UInt8} (h : ∀ x ∈ l, x.1 ≠ p) : getF l p = ([], false) := by
  unfold getF
  have : l.find? (fun x => decide (x.1 = p)) = none := List.find?_eq_none.2 fun x hx => by simpa using h x hx
  rw [this]
theorem put_wide {t u : List FileL} {f : FileL} (h : putF t f = .ok u) {p : List UInt8} (hp : p ≠ f.1) : getF u p = getF t p := by
  by_cases hm : ∃ x ∈ t, x.1 = p
  · obtain ⟨x, hx, rfl⟩ := hm
    rw [put_other h hx hp]
    have hg : goodF t = true := by
      cases hg : goodF t with
      | true => rfl
      | false => unfold putF at h; rw [if_neg (by rw [hg]; decide)] at h; cases h
    exact (getF_mem (asc_nodup (good_asc hg)) hx).symm
  · have h1 : ∀ x ∈ t, x.1 ≠ p := fun x hx e => hm ⟨x, hx, e⟩
    have h2 : ∀ x ∈ u, x.1 ≠ p := fun x hx e => by
      unfold putF at h
      split at h
      · have := (make_len h).2.mem_iff.1 hx
        rcases List.mem_append.1 this with h3 | h3
        · exact h1 x (List.mem_filter.1 h3).1 e
        · rw [List.mem_singleton.1 h3] at e; exact hp e.symm
      · cases h
    rw [getF_no h1, getF_no h2]
structure FrS (P : List UInt8) (s : MSt) : Prop where
  stack : ∀ v ∈ s.stack, v.2.2 ≠ P
  loc : ∀ v ∈ s.loc, v.2.2 ≠ P
theorem num_free {P : List UInt8} (h : P ≠ []) (n : Int) : (numV n).2.2 ≠ P := fun e => h e.symm
theorem bool_free {P : List UInt8} (h : P ≠ []) (b : Bool) : (boolV b).2.2 ≠ P := fun e => h e.symm
theorem need_fr {P : List UInt8} {s : MSt} (h : FrS P s) (n : Nat) : OkR (FrS P) (needR n s) Any := by
  unfold needR; split
  · exact h
  · exact ⟨h, trivial⟩
theorem push_fr {P : List UInt8} {s : MSt} (h : FrS P s) {v : ValL} (hv : v.2.2 ≠ P) : OkR (FrS P) (pushR v s) Any := by
  unfold pushR; split
  · exact h
  · refine ⟨⟨fun x hx => ?_, h.loc⟩, trivial⟩
    rcases List.mem_append.1 hx with hx | hx
    · exact h.stack x hx
    · rw [List.mem_singleton.1 hx]; exact hv
theorem last_fr {P : List UInt8} (h0 : P ≠ []) {s : MSt} (h : FrS P s) : (lastV s).2.2 ≠ P := by
  unfold lastV
  rw [List.getLastD_eq_getLast?]
  cases hl : s.stack.getLast? with
  | none => exact num_free h0 0
  | some v => exact h.stack v (List.mem_of_getLast? hl)
theorem off_fr {P : List UInt8} {s : MSt} (h : FrS P s) : FrS P (offS s) := ⟨fun x hx => h.stack x (List.dropLast_subset _ hx), h.loc⟩
theorem pop_fr {P : List UInt8} (h0 : P ≠ []) {s : MSt} (h : FrS P s) : OkR (FrS P) (popR s) (fun v => v.2.2 ≠ P) := ⟨off_fr h, last_fr h0 h⟩
theorem num_fr {P : List UInt8} {s : MSt} (h : FrS P s) : OkR (FrS P) (numR s) Any := by
  unfold numR; split
  · exact off_fr h
  · exact ⟨off_fr h, trivial⟩
theorem txt_fr {P : List UInt8} (h0 : P ≠ []) {s : MSt} (h : FrS P s) : OkR (FrS P) (txtR s) (fun t => t ≠ P) := by
  unfold txtR; split
  · exact ⟨off_fr h, last_fr h0 h⟩
  · exact off_fr h
theorem then_congr {α β : Type} {R : MSt → Prop} {r : VR α} {Q : α → Prop} (h : OkR R r Q) {f g : α → MSt → VR β} (hf : ∀ a s, R s → Q a → f a s = g a s) : r.then f = r.then g := by
  unfold VR.then
  match r, h with
  | .ok (a, s), h => exact hf a s h.1 h.2
  | .error (_, s), _ => rfl
structure FrI (P : List UInt8) (x : InsL) : Prop where
  no : x.op ≠ 27 ∧ x.op ≠ 28 ∧ x.op ≠ 21 ∧ x.op ≠ 23
  txt : x.op = 3 → x.s ≠ P
theorem fr_do {P : List UInt8} (h0 : P ≠ []) (hn : ∀ n, itoaL n ≠ P) {view wide : List FileL} (hv : ∀ f ∈ view, f.2 ≠ P) (hw : ∀ p, p ≠ P → getF wide p = getF view p) {x : InsL} (hx : FrI P x) {s : MSt} (hs : FrS P s) :
    doR wide x s = doR view x s ∧ OkR (FrS P) (doR view x s) Any := by
  have hget : ∀ p, (getF view p).1 ≠ P := fun p => by
    unfold getF
    cases hf : view.find? (fun x => decide (x.1 = p)) with
    | none => exact fun e => h0 e.symm
    | some y => exact hv y (List.mem_of_find?_eq_some hf)
  obtain ⟨⟨h27, h28, h21, h23⟩, htx⟩ := hx
  unfold doR
  by_cases c0 : x.op = 1
  · rw [if_pos c0, if_pos c0]; exact ⟨rfl, ⟨hs.stack, hs.loc⟩, trivial⟩
  rw [if_neg c0, if_neg c0]
  by_cases c1 : x.op = 2
  · rw [if_pos c1, if_pos c1]; exact ⟨rfl, push_fr hs (num_free h0 _)⟩
  rw [if_neg c1, if_neg c1]
  by_cases c2 : x.op = 3
  · rw [if_pos c2, if_pos c2]; have h := c2; exact ⟨rfl, push_fr hs (htx h)⟩
  rw [if_neg c2, if_neg c2]
  by_cases c3 : x.op = 7
  · rw [if_pos c3, if_pos c3]
    refine ⟨rfl, push_fr hs ?_⟩
    rw [List.getD_eq_getElem?_getD]
    cases hg : s.loc[x.n.toNat]? with
    | none => exact num_free h0 0
    | some v => exact hs.loc v (List.mem_of_getElem? hg)
  rw [if_neg c3, if_neg c3]
  by_cases c4 : x.op = 8
  · rw [if_pos c4, if_pos c4]
    refine ⟨rfl, (need_fr hs 1).then fun _ s hs _ => (pop_fr h0 hs).then fun v s hs hv => ⟨⟨hs.stack, fun u hu => ?_⟩, trivial⟩⟩
    rcases List.mem_or_eq_of_mem_set hu with hu | rfl
    · exact hs.loc u hu
    · exact hv
  rw [if_neg c4, if_neg c4]
  by_cases c5 : x.op = 4 ∨ x.op = 5 ∨ x.op = 6
  · rw [if_pos c5, if_pos c5]
    refine ⟨rfl, ?_⟩
    unfold shiftR; split
    · exact (need_fr hs _).then fun _ s hs _ => (pop_fr h0 hs).then fun b s hs hb => (pop_fr h0 hs).then fun a s hs ha => (push_fr hs hb).then fun _ s hs _ => push_fr hs ha
    · refine (need_fr hs _).then fun _ s hs _ => (pop_fr h0 hs).then fun a s hs ha => ?_
      split
      · exact (push_fr hs ha).then fun _ s hs _ => push_fr hs ha
      · exact ⟨hs, trivial⟩
  rw [if_neg c5, if_neg c5]
  by_cases c6 : 9 ≤ x.op ∧ x.op ≤ 13
  · rw [if_pos c6, if_pos c6]
    refine ⟨rfl, ?_⟩
    unfold reckR
    refine (need_fr hs _).then fun _ s hs _ => (num_fr hs).then fun b s hs _ => (num_fr hs).then fun a s hs _ => ?_
    split
    · exact hs
    · exact push_fr hs (num_free h0 _)
  rw [if_neg c6, if_neg c6]
  by_cases c7 : 14 ≤ x.op ∧ x.op ≤ 16
  · rw [if_pos c7, if_pos c7]
    refine ⟨rfl, ?_⟩
    unfold askR; split
    · exact (need_fr hs _).then fun _ s hs _ => (num_fr hs).then fun _ s hs _ => push_fr hs (bool_free h0 _)
    · refine (need_fr hs _).then fun _ s hs _ => (pop_fr h0 hs).then fun b s hs hb => (pop_fr h0 hs).then fun a s hs ha => ?_
      split
      · exact push_fr hs (bool_free h0 _)
      · split
        · exact push_fr hs (bool_free h0 _)
        · exact hs
  rw [if_neg c7, if_neg c7]
  by_cases c8 : 17 ≤ x.op ∧ x.op ≤ 20
  · rw [if_pos c8, if_pos c8]
    refine ⟨rfl, ?_⟩
    unfold turnR; split
    · refine (need_fr hs _).then fun _ s hs _ => (num_fr hs).then fun k s hs _ => ?_
      split
      · exact ⟨⟨hs.stack, hs.loc⟩, trivial⟩
      · exact ⟨hs, trivial⟩
    · split
      · split
        · exact hs
        · exact ⟨⟨hs.stack, hs.loc⟩, trivial⟩
      · split
        · split
          · exact hs
          · exact ⟨⟨hs.stack, hs.loc⟩, trivial⟩
        · exact ⟨⟨hs.stack, hs.loc⟩, trivial⟩
  rw [if_neg c8, if_neg c8]
  by_cases c9 : 21 ≤ x.op ∧ x.op ≤ 25
  · rw [if_pos c9, if_pos c9]
    refine ⟨rfl, ?_⟩
    unfold spellR
    rw [if_neg h21]
    by_cases d22 : x.op = 22
    · rw [if_pos d22]; exact (need_fr hs _).then fun _ s hs _ => (txt_fr h0 hs).then fun _ s hs _ => push_fr hs (num_free h0 _)
    rw [if_neg d22, if_neg h23]
    by_cases d24 : x.op = 24
    · rw [if_pos d24]; exact (need_fr hs _).then fun _ s hs _ => (num_fr hs).then fun n s hs _ => push_fr hs (hn n)
    rw [if_neg d24]
    exact (need_fr hs _).then fun _ s hs _ => (txt_fr h0 hs).then fun _ s hs _ => (push_fr hs (num_free h0 _)).then fun _ s hs _ => push_fr hs (bool_free h0 _)
  rw [if_neg c9, if_neg c9]
  by_cases c10 : 26 ≤ x.op ∧ x.op ≤ 29
  · rw [if_pos c10, if_pos c10]
    unfold fileR
    by_cases d26 : x.op = 26
    · rw [if_pos d26, if_pos d26]
      refine ⟨then_congr (need_fr hs 1) fun _ s hs _ => then_congr (txt_fr h0 hs) fun t s hs ht => ?_, (need_fr hs _).then fun _ s hs _ => (txt_fr h0 hs).then fun t s hs _ => (push_fr hs (hget t)).then fun _ s hs _ => push_fr hs (bool_free h0 _)⟩
      rw [hw t ht]
    rw [if_neg d26, if_neg d26, if_neg h27, if_neg h27, if_neg h28, if_neg h28]
    refine ⟨rfl, ?_⟩
    refine (need_fr hs _).then fun _ s hs _ => (txt_fr h0 hs).then fun d s hs _ => (txt_fr h0 hs).then fun p s hs _ => ?_
    split
    · exact hs
    · exact ⟨⟨hs.stack, hs.loc⟩, trivial⟩
  rw [if_neg c10, if_neg c10]
  by_cases c11 : x.op = 30
  · rw [if_pos c11]; exact ⟨rfl, hs⟩
  rw [if_neg c11]
  exact ⟨rfl, hs, trivial⟩
theorem fr_step {P : List UInt8} (h0 : P ≠ []) (hn : ∀ n, itoaL n ≠ P) {view wide : List FileL} (hv : ∀ f ∈ view, f.2 ≠ P) (hw : ∀ p, p ≠ P → getF wide p = getF view p) {ps : List InsL} (hx : ∀ x ∈ ps, FrI P x) {m : MM} (hs : FrS P m.s) :
    stepF ps wide m = stepF ps view m ∧ FrS P (stepF ps view m).s := by
  have hxi : FrI P (ps.getD m.s.next.toNat ins0) := by
    rw [List.getD_eq_getElem?_getD]
    cases hg : ps[m.s.next.toNat]? with
    | none => exact ⟨by decide, fun h => absurd (show (0 : Int) = 3 from h) (by decide)⟩
    | some v => exact hx v (List.mem_of_getElem? hg)
  obtain ⟨h1, h2⟩ := fr_do h0 hn hv hw hxi (s := { m.s with next := m.s.next + 1 }) ⟨hs.stack, hs.loc⟩
  have e1 : attF wide (ps.getD m.s.next.toNat ins0) m.s = attF view (ps.getD m.s.next.toNat ins0) m.s := by unfold attF; rw [h1]
  have e2 : FrS P (attF view (ps.getD m.s.next.toNat ins0) m.s).1 := by
    unfold attF
    revert h2
    generalize doR view (ps.getD m.s.next.toNat ins0) { m.s with next := m.s.next + 1 } = r
    intro h2
    match r, h2 with
    | .ok (_, s), h2 => exact h2.1
    | .error (_, s), h2 => exact h2
  unfold stepF
  rw [e1]
  refine ⟨rfl, ?_⟩
  generalize attF view (ps.getD m.s.next.toNat ins0) m.s = r at *
  simp only
  split
  · exact ⟨e2.stack, e2.loc⟩
  · exact ⟨e2.stack, e2.loc⟩
theorem fr_go {P : List UInt8} (h0 : P ≠ []) (hn : ∀ n, itoaL n ≠ P) {view wide : List FileL} (hv : ∀ f ∈ view, f.2 ≠ P) (hw : ∀ p, p ≠ P → getF wide p = getF view p) {ps : List InsL} (hx : ∀ x ∈ ps, FrI P x) :
    ∀ (k : Nat) (m : MM), FrS P m.s → goF ps wide k m = goF ps view k m
  | 0, m, hs => rfl
  | k + 1, m, hs => by
    obtain ⟨h1, h2⟩ := fr_step h0 hn hv hw hx hs
    rw [goF, goF]
    split
    · rfl
    · rw [h1]; exact fr_go h0 hn hv hw hx k _ h2
/- a number's text has no letter -/
theorem dig_letters : ∀ (u : Nat), ∀ c ∈ Lib.decDigits u, ¬ (97 ≤ c ∧ c ≤ 122) := by
  have h0 : ∀ k : Fin 10, ¬ ((97 : UInt8) ≤ UInt8.ofNat (48 + k.val) ∧ UInt8.ofNat (48 + k.val) ≤ 122) := by decide
  intro u
  induction u using Nat.strongRecOn with
  | _ u ih =>
    intro c hc
    rw [Lib.decDigits] at hc
    by_cases h : u < 10
    · rw [dif_pos h] at hc
      rw [List.mem_singleton.1 hc]
      exact h0 ⟨u, h⟩
    · rw [dif_neg h] at hc
      rcases List.mem_append.1 hc with hc | hc
      · exact ih (u / 10) (by omega) c hc
      · rw [List.mem_singleton.1 hc]
        exact h0 ⟨u % 10, by omega⟩
theorem itoa_letters (n : Int) : ∀ c ∈ itoaL n, ¬ (97 ≤ c ∧ c ≤ 122) := by
  intro c hc
  unfold itoaL Lib.itoa at hc
  split at hc
  · rcases List.mem_cons.1 hc with rfl | hc
    · decide
    · exact dig_letters _ c hc
  · exact dig_letters _ c hc
theorem sees {ps : List InsL} {view wide : List FileL} {f : FileL} (hp : putF view f = .ok wide) (hx : ∀ x ∈ ps, FrI f.1 x) (hv : ∀ g ∈ view, g.2 ≠ f.1) (hc : ∃ c ∈ f.1, 97 ≤ c ∧ c ≤ 122) :
    runL ps wide = runL ps view ∧ runN ps wide = runN ps view ∧ runE ps wide = runE ps view := by
  have h0 : f.1 ≠ [] := by obtain ⟨c, hc, -⟩ := hc; rintro e; rw [e] at hc; cases hc
  have hn : ∀ n, itoaL n ≠ f.1 := fun n e => by obtain ⟨c, hc, h⟩ := hc; rw [← e] at hc; exact itoa_letters n c hc h
  have hg : goodF view = true ∧ goodF wide = true := by
    unfold putF at hp
    split at hp
    · rename_i h; exact ⟨h, make_again hp⟩
    · cases hp
  have e1 : newF ps wide = newF ps view := by unfold newF; rw [hg.1, hg.2]
  have e2 : runM ps wide = runM ps view := by
    unfold runM
    refine fr_go h0 hn hv (fun p h => put_wide hp h) hx 4096 mm0 ⟨(fun v hv => by cases hv), fun v hv => ?_⟩
    rw [List.eq_of_mem_replicate hv]
    exact num_free h0 0
  unfold runL runN runE
  rw [e1, e2]
  exact ⟨rfl, rfl, rfl⟩
end Go.Proofs.YthehpmffkkogpaaGreatDoor
