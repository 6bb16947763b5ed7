/- The machine, in lists: what each instruction does. No condition. -/
import Derived.Test.YthehpmffkkogpaaGreatDoorCdFind
import Derived.Test.YthehpmffkkogpaaGreatDoorTrPut
import Derived.WalkLawsBesides
import Derived.IntWalk
namespace Go.Proofs.YthehpmffkkogpaaGreatDoor
set_option linter.unusedVariables false
open Go.ChangeShapes Go.WideShapes Go.ChangeAt Go.RowKit
/- a value: a text or not, a number, a text -/
abbrev ValL := Bool × Int × List UInt8
def numV (n : Int) : ValL := (false, n, [])
def txtV (s : List UInt8) : ValL := (true, 0, s)
def boolV (b : Bool) : ValL := numV (if b = true then 1 else 0)
structure MSt where
  stack : List ValL
  loc : List ValL
  calls : List Int
  out : List FileL
  next : Int
  done : Bool
abbrev VR (α : Type) := Except (Int × MSt) (α × MSt)
def VR.then {α β : Type} (r : VR α) (f : α → MSt → VR β) : VR β := match r with
  | .ok (a, s) => f a s
  | .error e => .error e
theorem VR.then_ok {α β : Type} (a : α) (s : MSt) (f : α → MSt → VR β) : VR.then (.ok (a, s)) f = f a s := rfl
theorem VR.then_err {α β : Type} (e : Int × MSt) (f : α → MSt → VR β) : VR.then (.error e : VR α) f = .error e := rfl
def needR (n : Nat) (s : MSt) : VR Unit := if s.stack.length < n then .error (40, s) else .ok ((), s)
def pushR (v : ValL) (s : MSt) : VR Unit := if 64 ≤ s.stack.length then .error (40, s) else .ok ((), { s with stack := s.stack ++ [v] })
def lastV (s : MSt) : ValL := s.stack.getLastD (numV 0)
def offS (s : MSt) : MSt := { s with stack := s.stack.dropLast }
def popR (s : MSt) : VR ValL := .ok (lastV s, offS s)
def numR (s : MSt) : VR Int := if (lastV s).1 = true then .error (41, offS s) else .ok ((lastV s).2.1, offS s)
def txtR (s : MSt) : VR (List UInt8) := if (lastV s).1 = true then .ok ((lastV s).2.2, offS s) else .error (41, offS s)
def shiftR (op : Int) (s : MSt) : VR Unit :=
  if op = 6 then (needR 2 s).then fun _ s => (popR s).then fun b s => (popR s).then fun a s => (pushR b s).then fun _ s => pushR a s
  else (needR 1 s).then fun _ s => (popR s).then fun a s => if op = 5 then (pushR a s).then fun _ s => pushR a s else .ok ((), s)
/- a quotient, a rest; nothing: a division by zero -/
def reckF (op a b : Int) : Option Int :=
  if op = 9 then some (wrap64 (a + b)) else if op = 10 then some (wrap64 (a - b)) else if op = 11 then some (wrap64 (a * b))
  else if b = 0 then none else if op = 12 then some (wrap64 (a.tdiv b)) else some (a.tmod b)
def reckR (op : Int) (s : MSt) : VR Unit := (needR 2 s).then fun _ s => (numR s).then fun b s => (numR s).then fun a s => match reckF op a b with
  | none => .error (42, s)
  | some k => pushR (numV k) s
def askR (op : Int) (s : MSt) : VR Unit :=
  if op = 16 then (needR 1 s).then fun _ s => (numR s).then fun n s => pushR (boolV (n == 0)) s
  else (needR 2 s).then fun _ s => (popR s).then fun b s => (popR s).then fun a s =>
    if op = 15 then pushR (boolV (decide (a = b))) s
    else if a.1 = b.1 then pushR (boolV (decide (a.2.1 < b.2.1) || bl a.2.2 b.2.2)) s else .error (41, s)
def turnR (op n : Int) (s : MSt) : VR Unit :=
  if op = 18 then (needR 1 s).then fun _ s => (numR s).then fun k s => if k = 0 then .ok ((), { s with next := n }) else .ok ((), s)
  else if op = 19 then (if 16 ≤ s.calls.length then .error (40, s) else .ok ((), { s with calls := s.calls ++ [s.next], next := n }))
  else if op = 20 then (if s.calls.length = 0 then .error (40, s) else .ok ((), { s with calls := s.calls.dropLast, next := s.calls.getLastD 0 }))
  else .ok ((), { s with next := n })
def cutT (s : List UInt8) (a b : Int) : List UInt8 := (s.take b.toNat).drop a.toNat
def itoaL (n : Int) : List UInt8 := Lib.itoa n
def spellR (op : Int) (s : MSt) : VR Unit :=
  if op = 21 then (needR 2 s).then fun _ s => (txtR s).then fun t s => (txtR s).then fun u s => if 2048 < u.length + t.length then .error (43, s) else pushR (txtV (u ++ t)) s
  else if op = 22 then (needR 1 s).then fun _ s => (txtR s).then fun t s => pushR (numV t.length) s
  else if op = 23 then (needR 3 s).then fun _ s => (numR s).then fun b s => (numR s).then fun a s => (txtR s).then fun t s => if a < 0 ∨ b < a ∨ (t.length : Int) < b then .error (43, s) else pushR (txtV (cutT t a b)) s
  else if op = 24 then (needR 1 s).then fun _ s => (numR s).then fun n s => pushR (txtV (itoaL n)) s
  else (needR 1 s).then fun _ s => (txtR s).then fun t s => (pushR (numV (match digP t with | some n => n | none => 0)) s).then fun _ s => pushR (boolV (digP t).isSome) s
def fileR (view : List FileL) (op : Int) (s : MSt) : VR Unit :=
  if op = 26 then (needR 1 s).then fun _ s => (txtR s).then fun t s => (pushR (txtV (getF view t).1) s).then fun _ s => pushR (boolV (getF view t).2) s
  else if op = 27 then pushR (numV view.length) s
  else if op = 28 then (needR 1 s).then fun _ s => (numR s).then fun n s => (pushR (txtV (if 0 ≤ n then (match view[n.toNat]? with | some f => f.1 | none => []) else [])) s).then fun _ s => pushR (boolV (decide (0 ≤ n ∧ n < view.length))) s
  else (needR 2 s).then fun _ s => (txtR s).then fun d s => (txtR s).then fun p s => match putF s.out (p, d) with
    | .error y => .error (y, s)
    | .ok o => .ok ((), { s with out := o })
def doR (view : List FileL) (x : InsL) (s : MSt) : VR Unit :=
  if x.op = 1 then .ok ((), { s with done := true })
  else if x.op = 2 then pushR (numV x.n) s
  else if x.op = 3 then pushR (txtV x.s) s
  else if x.op = 7 then pushR (s.loc.getD x.n.toNat (numV 0)) s
  else if x.op = 8 then (needR 1 s).then fun _ s => (popR s).then fun v s => .ok ((), { s with loc := s.loc.set x.n.toNat v })
  else if x.op = 4 ∨ x.op = 5 ∨ x.op = 6 then shiftR x.op s
  else if 9 ≤ x.op ∧ x.op ≤ 13 then reckR x.op s
  else if 14 ≤ x.op ∧ x.op ≤ 16 then askR x.op s
  else if 17 ≤ x.op ∧ x.op ≤ 20 then turnR x.op x.n s
  else if 21 ≤ x.op ∧ x.op ≤ 25 then spellR x.op s
  else if 26 ≤ x.op ∧ x.op ≤ 29 then fileR view x.op s
  else if x.op = 30 then .error (44, s)
  else .ok ((), s)
end Go.Proofs.YthehpmffkkogpaaGreatDoor
namespace Go.Proofs.YthehpmffkkogpaaGreatDoor
set_option linter.unusedVariables false
open Go.ChangeShapes Go.WideShapes Go.ChangeAt Go.RowKit
def valA (v : ValL) : Value := .agg #[.bool v.1, .int .i64 v.2.1, .string (tx v.2.2)]
def valsV : List ValL → List Value
  | [] => []
  | v :: r => .bool v.1 :: .int .i64 v.2.1 :: .string (tx v.2.2) :: valsV r
theorem valsV_len : ∀ l : List ValL, (valsV l).length = l.length * 3
  | [] => rfl
  | v :: r => by simp only [valsV, List.length_cons, valsV_len r]; omega
theorem valsV_app : ∀ (a b : List ValL), valsV (a ++ b) = valsV a ++ valsV b
  | [], b => rfl
  | v :: r, b => by simp only [List.cons_append, valsV, valsV_app r b]
theorem valsV_at : ∀ (l : List ValL) (i : Nat) (h : i < l.length), (valsV l)[i * 3]? = some (.bool l[i].1) ∧ (valsV l)[i * 3 + 1]? = some (.int .i64 l[i].2.1) ∧ (valsV l)[i * 3 + 2]? = some (.string (tx l[i].2.2))
  | v :: r, 0, _ => ⟨rfl, rfl, rfl⟩
  | v :: r, i + 1, h => by
    have := valsV_at r i (by simpa using h)
    have e : (i + 1) * 3 = i * 3 + 3 := by omega
    rw [e]
    exact this
theorem valsV_one : ∀ (l : List ValL), ∀ u ∈ valsV l, u.oneCell' = true
  | [], u, h => by cases h
  | v :: r, u, h => by
    simp only [valsV, List.mem_cons] at h
    rcases h with rfl | rfl | rfl | h
    · rfl
    · rfl
    · rfl
    · exact valsV_one r u h
theorem valsV_take : ∀ (l : List ValL) (n : Nat), valsV (l.take n) = (valsV l).take (n * 3)
  | [], n => by simp [valsV]
  | v :: r, 0 => by simp [valsV]
  | v :: r, n + 1 => by
    have e : (n + 1) * 3 = n * 3 + 3 := by omega
    rw [e, List.take_succ_cons]
    simp only [valsV, List.take_succ_cons, valsV_take r n]
theorem valsV_set : ∀ (l : List ValL) (n : Nat) (v : ValL), n < l.length → valsV (l.set n v) = (((valsV l).set (n * 3) (.bool v.1)).set (n * 3 + 1) (.int .i64 v.2.1)).set (n * 3 + 2) (.string (tx v.2.2))
  | x :: r, 0, v, _ => rfl
  | x :: r, n + 1, v, h => by
    have e : (n + 1) * 3 = n * 3 + 3 := by omega
    rw [e, List.set_cons_succ]
    simp only [valsV, List.set_cons_succ]
    rw [valsV_set r n v (by simpa using h)]
def intsV (l : List Int) : List Value := l.map (Value.int .i64)
theorem intsV_len (l : List Int) : (intsV l).length = l.length := by simp [intsV]
/- the cells of a machine -/
def preC (pv vv ov sv : Value) : List Value := [pv, vv, ov, sv]
def postC (cv : Value) (next steps : Int) (done : Bool) (fault : Int) : List Value := [cv, .int .i64 next, .int .i64 steps, .bool done, .int .i64 fault]
def machL (pv vv ov sv : Value) (loc : List ValL) (cv : Value) (next steps : Int) (done : Bool) (fault : Int) : List Value := preC pv vv ov sv ++ (valsV loc ++ postC cv next steps done fault)
def machC (pv vv ov sv : Value) (loc : List ValL) (cv : Value) (next steps : Int) (done : Bool) (fault : Int) : Array Value := (machL pv vv ov sv loc cv next steps done fault).toArray
theorem machL_pre {pv vv ov sv : Value} {loc : List ValL} {cv : Value} {next steps : Int} {done : Bool} {fault : Int} {i : Nat} (h : i < 4) : (machL pv vv ov sv loc cv next steps done fault)[i]? = (preC pv vv ov sv)[i]? := by
  unfold machL; exact List.getElem?_append_left (by simpa [preC] using h)
theorem machL_loc {pv vv ov sv : Value} {loc : List ValL} {cv : Value} {next steps : Int} {done : Bool} {fault : Int} {i : Nat} (h : i < loc.length * 3) : (machL pv vv ov sv loc cv next steps done fault)[4 + i]? = (valsV loc)[i]? := by
  unfold machL
  rw [List.getElem?_append_right (by simp [preC])]
  have e : 4 + i - (preC pv vv ov sv).length = i := by simp [preC]
  rw [e]
  exact List.getElem?_append_left (by rw [valsV_len]; exact h)
theorem machL_post {pv vv ov sv : Value} {loc : List ValL} (hl : loc.length = 16) {cv : Value} {next steps : Int} {done : Bool} {fault : Int} {i : Nat} : (machL pv vv ov sv loc cv next steps done fault)[52 + i]? = (postC cv next steps done fault)[i]? := by
  unfold machL
  rw [List.getElem?_append_right (by simp [preC]; omega)]
  rw [List.getElem?_append_right (by rw [valsV_len, hl]; simp [preC]; omega)]
  congr 1
  rw [valsV_len, hl]; simp [preC]; omega
theorem machL_set_pre {pv vv ov sv : Value} {loc : List ValL} {cv : Value} {next steps : Int} {done : Bool} {fault : Int} {i : Nat} {u : Value} (h : i < 4) : (machL pv vv ov sv loc cv next steps done fault).set i u = (preC pv vv ov sv).set i u ++ (valsV loc ++ postC cv next steps done fault) := by
  unfold machL; exact List.set_append_left _ _ (by simpa [preC] using h)
theorem machL_set_post {pv vv ov sv : Value} {loc : List ValL} (hl : loc.length = 16) {cv : Value} {next steps : Int} {done : Bool} {fault : Int} {i : Nat} {u : Value} : (machL pv vv ov sv loc cv next steps done fault).set (52 + i) u = preC pv vv ov sv ++ (valsV loc ++ (postC cv next steps done fault).set i u) := by
  unfold machL
  rw [List.set_append_right _ _ (by simp [preC]; omega)]
  rw [List.set_append_right _ _ (by rw [valsV_len, hl]; simp [preC]; omega)]
  congr 3
  rw [valsV_len, hl]; simp [preC]; omega
theorem machL_set_loc {pv vv ov sv : Value} {loc : List ValL} {cv : Value} {next steps : Int} {done : Bool} {fault : Int} {i : Nat} {u : Value} (h : i < loc.length * 3) : (machL pv vv ov sv loc cv next steps done fault).set (4 + i) u = preC pv vv ov sv ++ ((valsV loc).set i u ++ postC cv next steps done fault) := by
  unfold machL
  rw [List.set_append_right _ _ (by simp [preC])]
  have e : 4 + i - (preC pv vv ov sv).length = i := by simp [preC]
  rw [e, List.set_append_left _ _ (by rw [valsV_len]; exact h)]
def Foot (F : Value × Value) (k : Nat) : Prop := F.1.ownBlock = some k ∨ F.2.ownBlock = some k
/- what a machine's call may turn: its own block, the rows of its stack and its calls; these are the old ones or new -/
structure MStep (mb : Nat) (F F' : Value × Value) (w w' : World) : Prop where
  chg : Chg (fun k => k = mb ∨ Foot F k) w w'
  foot : ∀ k, Foot F' k → Foot F k ∨ w.heap.size ≤ k
theorem Chg.transR {S S' : Nat → Prop} {a b c : World} (h : Chg S a b) (g : Chg S' b c) (hS : ∀ k, k < a.heap.size → S' k → S k) : Chg S a c :=
  ⟨g.os.trans h.os, g.tape.trans h.tape, g.output.trans h.output, Nat.le_trans h.size g.size, fun k hk hs => (g.block k (Nat.lt_of_lt_of_le hk h.size) fun x => hs (hS k hk x)).trans (h.block k hk hs)⟩
theorem MStep.refl (mb : Nat) (F : Value × Value) (w : World) : MStep mb F F w w := ⟨Chg.refl _ _, fun k h => .inl h⟩
theorem MStep.trans {mb : Nat} {F G H : Value × Value} {a b c : World} (h : MStep mb F G a b) (g : MStep mb G H b c) : MStep mb F H a c :=
  ⟨h.chg.transR g.chg fun k hk e => by
    rcases e with e | e
    · exact .inl e
    · rcases h.foot k e with x | x
      · exact .inr x
      · omega, fun k e => by
    rcases g.foot k e with x | x
    · exact h.foot k x
    · exact .inr (Nat.le_trans h.chg.size x)⟩
theorem MStep.of_chg {mb : Nat} {F : Value × Value} {w w' : World} (h : Chg NoB w w') : MStep mb F F w w' := ⟨h.mono fun k _ h => h.elim, fun k h => .inl h⟩
structure Mach (w : World) (lo mb : Nat) (pv vv : Value) (m : MSt) (st : Nat) (ft : Int) (F : Value × Value) : Prop where
  row : ∃ oq oc, w.heap[mb]? = some (.cells (machC pv vv (.slice oq m.out.length oc) F.1 m.loc F.2 m.next st m.done ft) 71 (0, 0)) ∧ oc ≤ maxLen ∧ ∃ kb ko, InpS w (fun k => k ≠ mb ∧ ¬ Foot F k) (.slice oq m.out.length oc) m.out kb ko
  st : w.ownsRow lo 68 3 F.1 m.stack.length (valsV m.stack)
  ca : w.ownsRow lo 3 1 F.2 m.calls.length (intsV m.calls)
  ap : ∀ k, F.1.ownBlock = some k → F.2.ownBlock ≠ some k
  lo : mb < lo ∧ lo ≤ w.heap.size
  loc : m.loc.length = 16
theorem Mach.low {w : World} {lo mb : Nat} {pv vv : Value} {m : MSt} {st : Nat} {ft : Int} {F : Value × Value} (h : Mach w lo mb pv vv m st ft F) : (∀ k, Foot F k → lo ≤ k ∧ k < w.heap.size) ∧ ¬ Foot F mb := by
  have h1 : ∀ k, Foot F k → lo ≤ k ∧ k < w.heap.size := fun k e => by
    rcases e with e | e
    · exact World.ownsRow.lt h.st k e
    · exact World.ownsRow.lt h.ca k e
  exact ⟨h1, fun e => by have := (h1 mb e).1; have := h.lo.1; omega⟩
theorem InpS.move {w w' : World} {S S' : Nat → Prop} {v : Value} {l : List FileL} {kb ko : Nat} (h : InpS w S v l kb ko) {T : Nat → Prop} (hc : Chg T w w') (hST : ∀ k, k < w.heap.size → S k → ¬ T k ∧ S' k) : InpS w' S' v l kb ko := by
  obtain ⟨q, c, e, h1, h2, h3⟩ := h.sh
  have hlow : l ≠ [] → kb < w.heap.size := fun hn => by
    have h0 : 0 < l.length := by cases l with | nil => exact absurd rfl hn | cons a r => simp
    exact World.block_lt_of_cell? w _ (h.at' 0 h0).1
  refine ⟨⟨q, c, e, h1, h2, fun hn => ⟨(h3 hn).1, (hST kb (hlow hn) (h3 hn).2).2⟩⟩, fun i hi => ?_⟩
  have hne : l ≠ [] := by rintro rfl; simp at hi
  have hT := (hST kb (hlow hne) (h3 hne).2).1
  exact ⟨hc.cell (h.at' i hi).1 hT, hc.cell (h.at' i hi).2 hT⟩
theorem Mach.keepC {w w' : World} {S : Nat → Prop} {lo mb : Nat} {pv vv : Value} {m : MSt} {st : Nat} {ft : Int} {F : Value × Value} (h : Mach w lo mb pv vv m st ft F) (hc : Chg S w w') (hm : ¬ S mb) (hf : ∀ k, Foot F k → ¬ S k) (ho : ∀ k, k < w.heap.size → k ≠ mb → ¬ Foot F k → ¬ S k) : Mach w' lo mb pv vv m st ft F := by
  obtain ⟨oq, oc, h1, h2, kb, ko, h3⟩ := h.row
  exact ⟨⟨oq, oc, row_kept hc h1 hm, h2, kb, ko, h3.move hc fun k hk hs => ⟨ho k hk hs.1 hs.2, hs⟩⟩, ownsRow_chg h.st hc fun k hk => hf k (.inl hk), ownsRow_chg h.ca hc fun k hk => hf k (.inr hk), h.ap, ⟨h.lo.1, Nat.le_trans h.lo.2 hc.size⟩, h.loc⟩
theorem Mach.keep {w w' : World} {lo mb : Nat} {pv vv : Value} {m : MSt} {st : Nat} {ft : Int} {F : Value × Value} (h : Mach w lo mb pv vv m st ft F) (hc : Chg NoB w w') : Mach w' lo mb pv vv m st ft F := h.keepC hc id (fun _ _ => id) fun _ _ _ _ => id
/- the cells of a machine's fields -/
theorem Mach.cells {w : World} {lo mb : Nat} {pv vv : Value} {m : MSt} {st : Nat} {ft : Int} {F : Value × Value} (h : Mach w lo mb pv vv m st ft F) : ∃ oq oc, w.cell? ⟨mb, 0, none⟩ = some pv ∧ w.cell? ⟨mb, 1, none⟩ = some vv ∧ w.cell? ⟨mb, 2, none⟩ = some (.slice oq m.out.length oc) ∧ w.cell? ⟨mb, 3, none⟩ = some F.1 ∧ w.cell? ⟨mb, 52, none⟩ = some F.2 ∧ w.cell? ⟨mb, 53, none⟩ = some (.int .i64 m.next) ∧ w.cell? ⟨mb, 54, none⟩ = some (.int .i64 st) ∧ w.cell? ⟨mb, 55, none⟩ = some (.bool m.done) ∧ w.cell? ⟨mb, 56, none⟩ = some (.int .i64 ft) := by
  obtain ⟨oq, oc, h1, -⟩ := h.row
  have c := fun i => cell_of_row w mb i _ _ (0, 0) h1
  have e : ∀ i, w.cell? ⟨mb, i, none⟩ = (machL pv vv (.slice oq m.out.length oc) F.1 m.loc F.2 m.next st m.done ft)[i]? := fun i => by rw [c]; simp [machC]
  exact ⟨oq, oc, by rw [e, machL_pre (by decide)]; rfl, by rw [e, machL_pre (by decide)]; rfl, by rw [e, machL_pre (by decide)]; rfl, by rw [e, machL_pre (by decide)]; rfl, by rw [e, machL_post (i := 0) h.loc]; rfl, by rw [e, machL_post (i := 1) h.loc]; rfl, by rw [e, machL_post (i := 2) h.loc]; rfl, by rw [e, machL_post (i := 3) h.loc]; rfl, by rw [e, machL_post (i := 4) h.loc]; rfl⟩
theorem Mach.free {w : World} {lo mb : Nat} {pv vv : Value} {m : MSt} {st : Nat} {ft : Int} {F : Value × Value} (h : Mach w lo mb pv vv m st ft F) : ∀ j, w.frozen? ⟨mb, j, none⟩ = false := by
  obtain ⟨oq, oc, h1, -⟩ := h.row
  exact row_free h1
theorem Mach.locAt {w : World} {lo mb : Nat} {pv vv : Value} {m : MSt} {st : Nat} {ft : Int} {F : Value × Value} (h : Mach w lo mb pv vv m st ft F) (i : Nat) (hi : i < 16) : w.cell? ⟨mb, 4 + i * 3, none⟩ = some (.bool (m.loc.getD i (numV 0)).1) ∧ w.cell? ⟨mb, 4 + i * 3 + 1, none⟩ = some (.int .i64 (m.loc.getD i (numV 0)).2.1) ∧ w.cell? ⟨mb, 4 + i * 3 + 2, none⟩ = some (.string (tx (m.loc.getD i (numV 0)).2.2)) := by
  obtain ⟨oq, oc, h1, -⟩ := h.row
  have hl : i < m.loc.length := by rw [h.loc]; exact hi
  have e : ∀ i, w.cell? ⟨mb, i, none⟩ = (machL pv vv (.slice oq m.out.length oc) F.1 m.loc F.2 m.next st m.done ft)[i]? := fun i => by rw [cell_of_row w mb i _ _ (0, 0) h1]; simp [machC]
  have hd : m.loc.getD i (numV 0) = m.loc[i] := by rw [List.getD_eq_getElem?_getD, List.getElem?_eq_getElem hl]; rfl
  obtain ⟨a, b, c⟩ := valsV_at m.loc i hl
  rw [hd]
  refine ⟨?_, ?_, ?_⟩
  · rw [e, machL_loc (by omega)]; exact a
  · rw [e, Nat.add_assoc, machL_loc (by omega)]; exact b
  · rw [e, Nat.add_assoc, machL_loc (by omega)]; exact c
/- a field is written over -/
theorem machC_set_post {pv vv ov sv : Value} {loc : List ValL} (hl : loc.length = 16) {cv : Value} {next steps : Int} {done : Bool} {fault : Int} : (∀ u, (machC pv vv ov sv loc cv next steps done fault).setIfInBounds 52 u = machC pv vv ov sv loc u next steps done fault) ∧ (∀ n, (machC pv vv ov sv loc cv next steps done fault).setIfInBounds 53 (.int .i64 n) = machC pv vv ov sv loc cv n steps done fault) ∧ (∀ n, (machC pv vv ov sv loc cv next steps done fault).setIfInBounds 54 (.int .i64 n) = machC pv vv ov sv loc cv next n done fault) ∧ (∀ b, (machC pv vv ov sv loc cv next steps done fault).setIfInBounds 55 (.bool b) = machC pv vv ov sv loc cv next steps b fault) ∧ (∀ n, (machC pv vv ov sv loc cv next steps done fault).setIfInBounds 56 (.int .i64 n) = machC pv vv ov sv loc cv next steps done n) := by
  unfold machC
  refine ⟨fun u => ?_, fun u => ?_, fun u => ?_, fun u => ?_, fun u => ?_⟩ <;> rw [List.setIfInBounds_toArray]
  · rw [machL_set_post (i := 0) hl]; rfl
  · rw [machL_set_post (i := 1) hl]; rfl
  · rw [machL_set_post (i := 2) hl]; rfl
  · rw [machL_set_post (i := 3) hl]; rfl
  · rw [machL_set_post (i := 4) hl]; rfl
theorem machC_set_pre {pv vv ov sv : Value} {loc : List ValL} {cv : Value} {next steps : Int} {done : Bool} {fault : Int} : (∀ u, (machC pv vv ov sv loc cv next steps done fault).setIfInBounds 2 u = machC pv vv u sv loc cv next steps done fault) ∧ ∀ u, (machC pv vv ov sv loc cv next steps done fault).setIfInBounds 3 u = machC pv vv ov u loc cv next steps done fault := by
  unfold machC
  refine ⟨fun u => ?_, fun u => ?_⟩ <;> rw [List.setIfInBounds_toArray, machL_set_pre (by decide)] <;> rfl
theorem machC_set_loc {pv vv ov sv : Value} {loc : List ValL} (hl : loc.length = 16) {cv : Value} {next steps : Int} {done : Bool} {fault : Int} {i : Nat} (hi : i < 16) (v : ValL) : (((machC pv vv ov sv loc cv next steps done fault).setIfInBounds (4 + i * 3) (.bool v.1)).setIfInBounds (4 + i * 3 + 1) (.int .i64 v.2.1)).setIfInBounds (4 + i * 3 + 2) (.string (tx v.2.2)) = machC pv vv ov sv (loc.set i v) cv next steps done fault := by
  have h3 : i < loc.length := by omega
  unfold machC
  rw [List.setIfInBounds_toArray, List.setIfInBounds_toArray, List.setIfInBounds_toArray]
  congr 1
  rw [machL_set_loc (by omega), Nat.add_assoc, Nat.add_assoc]
  have hA : ∀ (x : List Value) (j : Nat) (u : Value), j < x.length → (preC pv vv ov sv ++ (x ++ postC cv next steps done fault)).set (4 + j) u = preC pv vv ov sv ++ (x.set j u ++ postC cv next steps done fault) := fun x j u hj => by
    rw [List.set_append_right _ _ (by simp [preC])]
    have e : 4 + j - (preC pv vv ov sv).length = j := by simp [preC]
    rw [e, List.set_append_left _ _ hj]
  rw [hA _ _ _ (by rw [List.length_set, valsV_len]; omega), hA _ _ _ (by rw [List.length_set, List.length_set, valsV_len]; omega), ← valsV_set _ _ _ h3]
  rfl
end Go.Proofs.YthehpmffkkogpaaGreatDoor
namespace Go.Proofs.YthehpmffkkogpaaGreatDoor
set_option linter.unusedVariables false
open Go.ChangeShapes Go.WideShapes Go.ChangeAt Go.RowKit
def quitP (y : Int) : Ending := .panicked [{ v := .iface 106 (.agg #[.int .i64 y]), recovered := false }]
def VOut {α : Type} (lo mb : Nat) (pv vv : Value) (st : Nat) (ft : Int) (F : Value × Value) (r : VR α) (val : α → Value) (w : World) (e : Ending) (w' : World) : Prop :=
  ∃ F', MStep mb F F' w w' ∧ ∃ s, Mach w' lo mb pv vv s st ft F' ∧ ((∃ a, r = .ok (a, s) ∧ e = .returned (val a)) ∨ (∃ y, r = .error (y, s) ∧ e = quitP y))
theorem give_any (y : Int) (w : World) : Calls Tryz.prog 105 #[.int .i64 y] w fun e w' => e = quitP y ∧ w = w' := by
  go_enter Tryz.func105, Tryz.ntmps105
  go_wp2_with fail
  exact ⟨rfl, rfl, rfl⟩
theorem need_any (n : Nat) (hn : n ≤ 64) {w : World} {lo mb : Nat} {pv vv : Value} {s : MSt} {st : Nat} {ft : Int} {F : Value × Value} (hm : Mach w lo mb pv vv s st ft F) (hs : s.stack.length ≤ 64) :
    Calls Tryz.prog 96 #[.pointer (some ⟨mb, 0, none⟩), .int .i64 (n : Int)] w (VOut lo mb pv vv st ft F (needR n s) (fun _ => .tuple #[]) w) := by
  obtain ⟨sv, cv⟩ := F
  have Hm := Lib.hid hm
  obtain ⟨oq, oc, y0, y1, y2, y3, y52, y53, y54, y55, y56⟩ := hm.cells
  have yf := hm.free
  obtain ⟨q, c, e, h1, h2⟩ := row_shape hm.st
  simp only at e y3
  subst e
  obtain ⟨k, hk⟩ : ∃ k, k = s.stack.length := ⟨_, rfl⟩
  rw [← hk] at y3 hs
  have Hk := Lib.hid hk
  have HG := Lib.hid (give_any 40 w)
  clear hm y0 y1 y2 y52 y53 y54 y55 y56 h1 h2 hk
  by_cases hlt : k < n
  · have hr : needR n s = .error (40, s) := by unfold needR; rw [if_pos (by rw [← Hk.out]; exact hlt)]
    rw [hr]
    clear hr
    go_enter Tryz.func96, Tryz.ntmps96
    go_wp2_with fail
    refine HG.out.mono ?_
    rintro e w' ⟨rfl, rfl⟩
    unfold quitP
    go_wp2_with fail
    exact ⟨rfl, _, MStep.refl _ _ _, s, Hm.out, .inr ⟨40, rfl, rfl⟩⟩
  · have hr : needR n s = .ok ((), s) := by unfold needR; rw [if_neg (by rw [← Hk.out]; exact hlt)]
    rw [hr]
    clear hr
    go_enter Tryz.func96, Tryz.ntmps96
    go_wp2_with fail
    go_end0
    exact ⟨_, MStep.refl _ _ _, s, Hm.out, .inl ⟨(), rfl, rfl⟩⟩
theorem valInfo : (Tryz.prog.info? 68).map (fun i => (i.zero, i.size, i.bytes)) = some (some (.agg #[.bool false, .int .i64 0, .string ⟨#[]⟩]), 3, 32) := by kernel_rfl
theorem lit3v (w : World) (a b c : Value) (t : TypeId) : ∀ (j : Nat) (u : Value), [a, b, c][j]? = some u → (w.alloc (.cells #[a, b, c] t)).cell? ((⟨w.heap.size, 0, none⟩ : Addr).add j) = some u := by
  intro j u hj
  rw [add_zero_off, cell_of_row _ w.heap.size j _ t (0, 0) (heap_alloc_new w _), ← hj]
  simp
/- a value more -/
theorem Mach.push {w w1 : World} {lo mb : Nat} {pv vv : Value} {s : MSt} {st : Nat} {ft : Int} {F : Value × Value} (h : Mach w lo mb pv vv s st ft F) {sv : Value} {v : ValL} (hc : Chg (fun k => F.1.ownBlock = some k) w w1)
    (hr : w1.ownsRow lo 68 3 sv (s.stack.length + 1) (valsV (s.stack ++ [v]))) (hp : ∀ k, sv.ownBlock = some k → F.1.ownBlock = some k ∨ w.heap.size ≤ k) :
    Mach (w1.setCell ⟨mb, 3, none⟩ sv) lo mb pv vv { s with stack := s.stack ++ [v] } st ft (sv, F.2) ∧ MStep mb F (sv, F.2) w (w1.setCell ⟨mb, 3, none⟩ sv) := by
  obtain ⟨hlow, hnm⟩ := h.low
  obtain ⟨oq, oc, h1, h2, kb, ko, h3⟩ := h.row
  have hmb := lt_of_block h1
  have h1' := row_kept hc h1 (fun e => hnm (.inl e))
  have hst : Chg (fun k => k = mb) w1 (w1.setCell ⟨mb, 3, none⟩ sv) := (Chg.refl (fun k => k = mb) w1).setCell (p := ⟨mb, 3, none⟩) (.inl rfl) _
  have hset := heap_set h1' (i := 3) sv
  rw [machC_set_pre.2] at hset
  have hsvne : ∀ k, sv.ownBlock = some k → k ≠ mb := fun k hk e => by
    rcases hp k hk with x | x
    · exact hnm (e ▸ .inl x)
    · omega
  have hcav : ∀ k, F.2.ownBlock = some k → ¬ F.1.ownBlock = some k := fun k hk e => h.ap k e hk
  refine ⟨⟨⟨oq, oc, hset, h2, kb, ko, ?_⟩, ?_, ?_, fun k hk e => ?_, ⟨h.lo.1, Nat.le_trans h.lo.2 (Nat.le_trans hc.size hst.size)⟩, h.loc⟩, ⟨?_, fun k hk => ?_⟩⟩
  · refine (h3.move hc (S' := fun k => k ≠ mb ∧ ¬ Foot (sv, F.2) k) fun k hk hs => ⟨fun e => hs.2 (.inl e), hs.1, fun e => ?_⟩).move hst fun k hk hs => ⟨hs.1, hs⟩
    rcases e with e | e
    · rcases hp k e with x | x
      · exact hs.2 (.inl x)
      · omega
    · exact hs.2 (.inr e)
  · rw [List.length_append]; exact ownsRow_chg hr hst fun k hk e => hsvne k hk e
  · exact ownsRow_chg (ownsRow_chg h.ca hc hcav) hst fun k hk e => hnm (e ▸ .inr hk)
  · rcases hp k hk with x | x
    · exact h.ap k x e
    · have := (hlow k (.inr e)).2; omega
  · exact (hc.mono fun k _ e => .inr (.inl e)).transR hst fun k _ e => .inl e
  · rcases hk with e | e
    · exact (hp k e).imp .inl id
    · exact .inl (.inr e)
set_option maxHeartbeats 1000000 in
set_option maxRecDepth 20000 in
theorem push_any (v : ValL) {w : World} {lo mb : Nat} {pv vv : Value} {s : MSt} {st : Nat} {ft : Int} {F : Value × Value} (hm : Mach w lo mb pv vv s st ft F) (hs : s.stack.length ≤ 64) :
    Calls Tryz.prog 94 #[.pointer (some ⟨mb, 0, none⟩), valA v] w (VOut lo mb pv vv st ft F (pushR v s) (fun _ => .tuple #[]) w) := by
  obtain ⟨v1, v2, v3⟩ := v
  show Calls _ _ #[_, .agg #[.bool v1, .int .i64 v2, .string (tx v3)]] _ _
  obtain ⟨sv, cv⟩ := F
  have hal_ := (Chg.refl NoB w).alloc (.cells #[.bool v1, .int .i64 v2, .string (tx v3)] 68)
  have hb_ := heap_alloc_new w (.cells #[.bool v1, .int .i64 v2, .string (tx v3)] 68)
  obtain ⟨xb, hxb_⟩ : ∃ b, b = w.heap.size := ⟨_, rfl⟩
  obtain ⟨w1, hw_⟩ : ∃ w_, w.alloc (.cells #[.bool v1, .int .i64 v2, .string (tx v3)] 68) = w_ := ⟨_, rfl⟩
  have hz_ : w1.heap.size = xb + 1 := by rw [← hw_, hxb_]; exact alloc_size _ _
  rw [hw_] at hal_ hb_
  rw [← hxb_] at hb_
  have Hw1 := Lib.hid hw_
  have Hx1 := Lib.hid hxb_
  have Ha1 := Lib.hid hal_
  have Hb1 := Lib.hid hb_
  have Hz1 := Lib.hid hz_
  clear hal_ hb_ hxb_ hw_ hz_
  replace hm := hm.keep Ha1.out
  obtain ⟨oq, oc, y0, y1, y2, y3, y52, y53, y54, y55, y56⟩ := hm.cells
  have yf := hm.free
  obtain ⟨q, c, e, h1, h2⟩ := row_shape hm.st
  simp only at e y3
  subst e
  have Hm := Lib.hid hm
  obtain ⟨k, hk⟩ : ∃ k, k = s.stack.length := ⟨_, rfl⟩
  rw [← hk] at y3 hs h1 Hm ⊢
  have Hk := Lib.hid hk
  obtain ⟨x0, x1, x2⟩ := var3 Hb1.out
  have HG := Lib.hid (give_any 40 w1)
  clear hm y0 y1 y2 y52 y53 y54 y55 y56 hk
  by_cases hlt : 64 ≤ k
  · have hr : pushR (v1, v2, v3) s = .error (40, s) := by unfold pushR; rw [if_pos (by rw [← Hk.out]; exact hlt)]
    rw [hr]
    clear hr
    go_enter Tryz.func94, Tryz.ntmps94
    go_upto_region 1 with fail
    rw [Hw1.out, ← Hx1.out]
    go_wp2_with fail
    refine HG.out.mono ?_
    rintro e w' ⟨rfl, rfl⟩
    unfold quitP
    go_wp2_with fail
    exact ⟨rfl, _, MStep.of_chg Ha1.out, s, Hm.out, .inr ⟨40, rfl, rfl⟩⟩
  · have hr : pushR (v1, v2, v3) s = .ok ((), { s with stack := s.stack ++ [(v1, v2, v3)] }) := by unfold pushR; rw [if_neg (by rw [← Hk.out]; exact hlt)]
    rw [hr]
    have HK := Lib.hid (show (valsV s.stack).length = k * 3 by rw [valsV_len, Hk.out])
    have Hst := Lib.hid (show w1.ownsRow lo 68 3 (.slice q k c) k (valsV s.stack) by have := Hm.out.st; rw [← Hk.out] at this; exact this)
    have hal := (Chg.refl NoB w1).alloc (.cells #[.bool v1, .int .i64 v2, .string (tx v3)] 68)
    have Hal := Lib.hid hal
    have HO := Lib.hid (ownsRow_chg Hst.out hal fun _ _ => id)
    obtain ⟨i0, hi, hz0, hz1, hz2⟩ := info_parts valInfo
    have Hi := Lib.hid hi
    have Hz0 := Lib.hid hz0
    have Hz1' := Lib.hid hz1
    have Hz2 := Lib.hid hz2
    have N1 := Lib.hid (show k + 1 ≤ maxLen by unfold maxLen; omega)
    have N2 := Lib.hid (show (k + 1) * 32 ≤ 140737488355328 by omega)
    have Hb := Lib.hid (show lo ≤ (w1.alloc (.cells #[.bool v1, .int .i64 v2, .string (tx v3)] 68)).drew.heap.size from Nat.le_trans Hm.out.lo.2 hal.size)
    unfold maxLen at h2
    clear hr hal hi hz0 hz1 hz2
    go_enter Tryz.func94, Tryz.ntmps94
    go_upto_region 1 with fail
    rw [Hw1.out, ← Hx1.out]
    go_upto_region 3 with fail
    have y3a := Hal.out.keep y3
    go_region_law (refine step_append_at (by rfl) _ (.tmp 15) (.tmp 17) 61 (by rfl) lo 68 i0 (.agg #[.bool false, .int .i64 0, .string ⟨#[]⟩]) 3 32 Tryz.underlying61 Hi.out Hz0.out Hz1'.out Hz2.out rfl (by decide) _ k (valsV s.stack) (by rfl) HO.out ⟨w1.heap.size, 0, none⟩ 1 1 [.bool v1, .int .i64 v2, .string (tx v3)] (by rfl) rfl (lit3v w1 _ _ _ _) (valsV_one [(v1, v2, v3)]) N1.out N2.out Hb.out ?_; intro sv' w3 hown hgr hpl; obtain ⟨q3, c3, rfl, -, -⟩ := row_shape hown; have hc3 : Chg (fun j => (Value.slice q k c).ownBlock = some j) w1 w3 := (Hal.out.drew.mono fun _ _ h => h.elim).trans ((Chg.refl _ _).grown hgr (fun j hj => .inl hj)); have y33 := hc3.cell y3 (fun e => Hm.out.low.2 (.inl e)); have yf3 := hc3.frozen y3 (fun e => Hm.out.low.2 (.inl e)) (yf 3))
    all_goals
      have HP := Lib.hid (Hm.out.push (sv := .slice q3 (k + 1) c3) (v := (v1, v2, v3)) hc3 (by rw [← Hk.out, valsV_app]; exact hown) (fun j hj => by
        rcases hpl with e | e
        · exact .inl (by rw [← e]; exact hj)
        · rw [hj] at e; cases e; exact .inr Hal.out.size))
      clear hown hgr hpl hc3 y33 yf3 y3a
      go_wp2_with fail
      go_end0
      exact ⟨_, (MStep.of_chg Ha1.out).trans HP.out.2, _, HP.out.1, .inl ⟨(), rfl, rfl⟩⟩
theorem pusht_any (t : List UInt8) {w : World} {lo mb : Nat} {pv vv : Value} {s : MSt} {st : Nat} {ft : Int} {F : Value × Value} (hm : Mach w lo mb pv vv s st ft F) (hs : s.stack.length ≤ 64) :
    Calls Tryz.prog 95 #[.pointer (some ⟨mb, 0, none⟩), .string (tx t)] w (VOut lo mb pv vv st ft F (pushR (txtV t) s) (fun _ => .tuple #[]) w) := by
  have HP := Lib.hid (push_any (txtV t) hm hs)
  clear hm hs
  go_enter Tryz.func95, Tryz.ntmps95
  go_wp2_with fail
  refine HP.out.mono ?_
  rintro e w2 ⟨F2, hs2, s2, hm2, (⟨a, hr, rfl⟩ | ⟨y, hr, rfl⟩)⟩
  · have H := Lib.hid (And.intro hs2 (And.intro hm2 hr))
    clear hs2 hm2 hr
    go_wp2_with fail
    go_end0
    exact ⟨F2, H.out.1, s2, H.out.2.1, .inl ⟨(), H.out.2.2, rfl⟩⟩
  · have H := Lib.hid (And.intro hs2 (And.intro hm2 hr))
    clear hs2 hm2 hr
    unfold quitP
    go_wp2_with fail
    exact ⟨rfl, F2, H.out.1, s2, H.out.2.1, .inr ⟨y, H.out.2.2, rfl⟩⟩
theorem pushb_any (b : Bool) {w : World} {lo mb : Nat} {pv vv : Value} {s : MSt} {st : Nat} {ft : Int} {F : Value × Value} (hm : Mach w lo mb pv vv s st ft F) (hs : s.stack.length ≤ 64) :
    Calls Tryz.prog 131 #[.pointer (some ⟨mb, 0, none⟩), .bool b] w (VOut lo mb pv vv st ft F (pushR (boolV b) s) (fun _ => .tuple #[]) w) := by
  have HP := Lib.hid (push_any (boolV b) hm hs)
  clear hm hs
  cases b
  all_goals
    go_enter Tryz.func131, Tryz.ntmps131
    go_wp2_with fail
    refine HP.out.mono ?_
    rintro e w2 ⟨F2, hs2, s2, hm2, (⟨a, hr, rfl⟩ | ⟨y, hr, rfl⟩)⟩
    · have H := Lib.hid (And.intro hs2 (And.intro hm2 hr))
      clear hs2 hm2 hr
      go_wp2_with fail
      go_end0
      exact ⟨F2, H.out.1, s2, H.out.2.1, .inl ⟨(), H.out.2.2, rfl⟩⟩
    · have H := Lib.hid (And.intro hs2 (And.intro hm2 hr))
      clear hs2 hm2 hr
      unfold quitP
      go_wp2_with fail
      exact ⟨rfl, F2, H.out.1, s2, H.out.2.1, .inr ⟨y, H.out.2.2, rfl⟩⟩
theorem results_cell1 {fn : Func} {p : Tmp} {ty : TypeId} (h : fn.results = #[.cell p ty]) (tmps : Array Value) {P : Program} {w : World} {a : Addr} {v : Value} (hp : tmps.getD p undef = .pointer (some a)) (hl : (loadVar ty a).run P w = .ok v w) : (results fn tmps).run P w = .ok v w := by
  rw [Array.getD_eq_getD_getElem?] at hp
  simp only [results, h]
  simp [hp, asAddr, hl]
theorem ownsRow_prefix {w : World} {lo : Nat} {t : TypeId} {size n c : Nat} {q : Option Addr} {xs : List Value} (h : w.ownsRow lo t size (.slice q n c) n xs) {m : Nat} (hm : m ≤ n) : w.ownsRow lo t size (.slice q m c) m (xs.take (m * size)) := by
  have hl : (xs.take (m * size)).length = m * size := by rw [List.length_take, h.1, Nat.min_eq_left (Nat.mul_le_mul_right _ hm)]
  refine ⟨hl, ?_⟩
  rcases h.2 with ⟨he, hz⟩ | ⟨g, c', cur, he, hb, hh, hnc, hc, hs, ht⟩
  · simp only [Value.slice.injEq] at he
    obtain ⟨rfl, h0, rfl⟩ := he
    have : m = 0 := by omega
    subst this
    exact .inl ⟨rfl, rfl⟩
  · simp only [Value.slice.injEq] at he
    obtain ⟨rfl, _, rfl⟩ := he
    refine .inr ⟨g, c, cur, rfl, hb, hh, by omega, hc, hs, ?_⟩
    rw [← ht, List.take_take, Nat.min_eq_left (Nat.mul_le_mul_right _ hm)]
/- a machine behind changes of its own block, and of new ones -/
theorem Mach.upd {w w' : World} {lo mb : Nat} {pv vv : Value} {s s' : MSt} {st st' : Nat} {ft ft' : Int} {F F' : Value × Value} (h : Mach w lo mb pv vv s st ft F) (hc : Chg (fun k => k = mb) w w')
    (hrow : ∀ oq oc, w.heap[mb]? = some (.cells (machC pv vv (.slice oq s.out.length oc) F.1 s.loc F.2 s.next st s.done ft) 71 (0, 0)) → w'.heap[mb]? = some (.cells (machC pv vv (.slice oq s.out.length oc) F'.1 s'.loc F'.2 s'.next st' s'.done ft') 71 (0, 0)))
    (hst : w.ownsRow lo 68 3 F'.1 s'.stack.length (valsV s'.stack)) (hca : w.ownsRow lo 3 1 F'.2 s'.calls.length (intsV s'.calls)) (h1 : F'.1.ownBlock = F.1.ownBlock) (h2 : F'.2.ownBlock = F.2.ownBlock) (hl : s'.loc.length = 16) (ho : s'.out = s.out) :
    Mach w' lo mb pv vv s' st' ft' F' ∧ MStep mb F F' w w' := by
  obtain ⟨hlow, hnm⟩ := h.low
  obtain ⟨oq, oc, r1, r2, kb, ko, r3⟩ := h.row
  have hff : ∀ k, Foot F' k ↔ Foot F k := fun k => by unfold Foot; rw [h1, h2]
  refine ⟨⟨⟨oq, oc, by rw [ho]; exact hrow oq oc r1, r2, kb, ko, ?_⟩, ?_, ?_, fun k hk e => h.ap k (by rw [← h1]; exact hk) (by rw [← h2]; exact e), ⟨h.lo.1, Nat.le_trans h.lo.2 hc.size⟩, hl⟩, ⟨hc.mono fun k _ e => .inl e, fun k hk => .inl ((hff k).1 hk)⟩⟩
  · rw [ho]; exact r3.move hc fun k hk hs => ⟨hs.1, hs.1, fun e => hs.2 ((hff k).1 e)⟩
  · exact ownsRow_chg hst hc fun k hk e => hnm (e ▸ .inl (by rw [← h1]; exact hk))
  · exact ownsRow_chg hca hc fun k hk e => hnm (e ▸ .inr (by rw [← h2]; exact hk))
theorem MStep.new {mb : Nat} {F F' : Value × Value} {a b c : World} {S : Nat → Prop} (h : MStep mb F F' a b) (g : Chg S b c) (hS : ∀ k, S k → a.heap.size ≤ k) : MStep mb F F' a c := ⟨h.chg.transR g fun k hk e => by have := hS k e; omega, h.foot⟩
theorem own_prefix (q : Option Addr) (m n c : Nat) : (Value.slice q m c).ownBlock = (Value.slice q n c).ownBlock := by cases q <;> rfl
theorem off_stack {s : MSt} {m : Nat} (h : s.stack.length = m + 1) : (offS s).stack = s.stack.take m ∧ (offS s).stack.length = m := by
  refine ⟨?_, ?_⟩
  · show s.stack.dropLast = _; rw [List.dropLast_eq_take]; congr 1; omega
  · show s.stack.dropLast.length = m; rw [List.length_dropLast]; omega
set_option maxHeartbeats 1000000 in
set_option maxRecDepth 20000 in
theorem pop_any {w : World} {lo mb : Nat} {pv vv : Value} {s : MSt} {st : Nat} {ft : Int} {F : Value × Value} (hm : Mach w lo mb pv vv s st ft F) (hs : s.stack.length ≤ 64) (hne : 1 ≤ s.stack.length) :
    Calls Tryz.prog 97 #[.pointer (some ⟨mb, 0, none⟩)] w (VOut lo mb pv vv st ft F (popR s) valA w) := by
  obtain ⟨sv, cv⟩ := F
  have hm0 := hm
  have hal_ := (Chg.refl NoB w).alloc (.cells #[.bool false, .int .i64 0, .string ⟨#[]⟩] 68)
  have hb_ := heap_alloc_new w (.cells #[.bool false, .int .i64 0, .string ⟨#[]⟩] 68)
  obtain ⟨rb, hxb_⟩ : ∃ b, b = w.heap.size := ⟨_, rfl⟩
  obtain ⟨w1, hw_⟩ : ∃ w_, w.alloc (.cells #[.bool false, .int .i64 0, .string ⟨#[]⟩] 68) = w_ := ⟨_, rfl⟩
  have hz_ : w1.heap.size = rb + 1 := by rw [← hw_, hxb_]; exact alloc_size _ _
  rw [hw_] at hal_ hb_
  rw [← hxb_] at hb_
  have Hw1 := Lib.hid hw_
  have Hx1 := Lib.hid hxb_
  have Ha1 := Lib.hid hal_
  have Hb1 := Lib.hid hb_
  have Hz1 := Lib.hid hz_
  clear hal_ hb_ hxb_ hw_ hz_
  replace hm := hm.keep Ha1.out
  obtain ⟨oq, oc, y0, y1, y2, y3, y52, y53, y54, y55, y56⟩ := hm.cells
  have yf := hm.free
  obtain ⟨q, c, e, h1, h2⟩ := row_shape hm.st
  simp only at e y3
  subst e
  obtain ⟨m, hk⟩ : ∃ m, s.stack.length = m + 1 := ⟨s.stack.length - 1, by omega⟩
  rw [hk] at y3 hs h1
  have Hk := Lib.hid hk
  have hst := hm.st
  simp only at hst
  rw [hk] at hst
  have hst0 := hm0.st
  simp only at hst0
  rw [hk] at hst0
  obtain ⟨g, rfl⟩ : ∃ g, q = some ⟨g, 0, none⟩ := by
    rcases hst.2 with ⟨e, h0⟩ | ⟨g', cap', cur, e, _⟩
    · omega
    · simp only [Value.slice.injEq] at e; exact ⟨g', e.1⟩
  have hlt : m < s.stack.length := by omega
  obtain ⟨a0, a1, a2⟩ := valsV_at s.stack m hlt
  have z0 := World.ownsRow.cells (g := g) hst rfl _ _ a0
  have z1 := World.ownsRow.cells (g := g) hst rfl _ _ a1
  have z2 := World.ownsRow.cells (g := g) hst rfl _ _ a2
  rw [add_zero_off] at z0 z1 z2
  have Hv := Lib.hid (show lastV s = s.stack[m] by unfold lastV; rw [List.getLastD_eq_getLast?, List.getLast?_eq_getElem?, hk]; show (s.stack[m + 1 - 1]?).getD _ = _; rw [Nat.add_sub_cancel, List.getElem?_eq_getElem hlt]; rfl)
  generalize s.stack[m] = v at *
  obtain ⟨v1, v2, v3⟩ := v
  simp only at z0 z1 z2
  unfold maxLen at h2
  have hal_ := (Chg.refl NoB w1).alloc (.cells #[.bool v1, .int .i64 v2, .string (tx v3)] 68)
  have hb_ := heap_alloc_new w1 (.cells #[.bool v1, .int .i64 v2, .string (tx v3)] 68)
  obtain ⟨vb, hxb_⟩ : ∃ b, b = w1.heap.size := ⟨_, rfl⟩
  obtain ⟨w2, hw_⟩ : ∃ w_, w1.alloc (.cells #[.bool v1, .int .i64 v2, .string (tx v3)] 68) = w_ := ⟨_, rfl⟩
  have hz_ : w2.heap.size = vb + 1 := by rw [← hw_, hxb_]; exact alloc_size _ _
  rw [hw_] at hal_ hb_
  rw [← hxb_] at hb_
  have Hw2 := Lib.hid hw_
  have Hx2 := Lib.hid hxb_
  have Ha2 := Lib.hid hal_
  have Hb2 := Lib.hid hb_
  have Hz2 := Lib.hid hz_
  clear hal_ hb_ hxb_ hw_ hz_
  obtain ⟨w3, hw3⟩ : ∃ w3, w2.setCell ⟨mb, 3, none⟩ (.slice (some ⟨g, 0, none⟩) m c) = w3 := ⟨_, rfl⟩
  have hmbl : mb < w.heap.size := by
    obtain ⟨_, _, hr, _⟩ := hm0.row
    exact lt_of_block hr
  have hst3 : Chg (fun k => k = mb) w2 w3 := by rw [← hw3]; exact (Chg.refl (fun k => k = mb) w2).setCell (p := ⟨mb, 3, none⟩) (.inl rfl) _
  have Hst3 := Lib.hid hst3
  have Hrb3 := Lib.hid (row_kept hst3 (row_kept Ha2.out Hb1.out id) (by have := Hx1.out; omega))
  have Hvb3 := Lib.hid (row_kept hst3 Hb2.out (by have := Hx2.out; have := Hz1.out; have := Hx1.out; omega))
  have hne : ¬ rb = vb := by have := Hx2.out; have := Hz1.out; omega
  have Hrm := Lib.hid (show rb ≠ mb ∧ w.heap.size ≤ rb by have := Hx1.out; omega)
  have Hw3 := Lib.hid hw3
  have Y3 := Lib.hid (Ha2.out.keep y3)
  have Yf := Lib.hid ((hm.keep Ha2.out).free 3)
  have Hm0 := Lib.hid hm0
  have Hst0 := Lib.hid hst0
  rw [hk] at Hm0 ⊢
  clear hm hm0 hw3 hst3 hne y0 y1 y2 y52 y53 y54 y55 y56 hk hst hst0 a0 a1 a2 hlt hmbl
  go_enter Tryz.func97, Tryz.ntmps97
  go_upto_region 1 with fail
  rw [Hw1.out, ← Hx1.out]
  go_upto_region 3 with fail
  rw [Hw2.out, ← Hx2.out]
  clear y3 z0 z1 z2 yf
  have y3 := Y3.out
  have yf := Yf.out
  go_upto_region 4 with fail
  rw [Hw3.out]
  clear y3 yf
  obtain ⟨x0, x1, x2⟩ := var3 Hvb3.out
  obtain ⟨r0, r1, r2⟩ := var3 Hrb3.out
  have f0 := row_free Hrb3.out 0
  have f1 := row_free Hrb3.out 1
  have f2 := row_free Hrb3.out 2
  go_wp2_with fail
  have hR := heap_set (heap_set (heap_set Hrb3.out (i := 0) (.bool v1)) (i := 1) (.int .i64 v2)) (i := 2) (.string (tx v3))
  have hcR : Chg (fun k => k = rb) w3 (((w3.setCell ⟨rb, 0, none⟩ (.bool v1)).setCell ⟨rb, 1, none⟩ (.int .i64 v2)).setCell ⟨rb, 2, none⟩ (.string (tx v3))) := (((Chg.refl (fun k => k = rb) w3).setCell (p := ⟨rb, 0, none⟩) (.inl rfl) _).setCell (p := ⟨rb, 1, none⟩) (.inl rfl) _).setCell (p := ⟨rb, 2, none⟩) (.inl rfl) _
  have hc : Chg (fun k => k = mb) w (((w3.setCell ⟨rb, 0, none⟩ (.bool v1)).setCell ⟨rb, 1, none⟩ (.int .i64 v2)).setCell ⟨rb, 2, none⟩ (.string (tx v3))) := ((((Ha1.out.trans Ha2.out).mono fun k _ h => h.elim : Chg (fun k => k = mb) w w2).trans Hst3.out).transR hcR fun k hk e => by have := Hrm.out.2; omega)
  obtain ⟨ho1, ho2⟩ := off_stack Hk.out
  have hfin := Hm0.out.upd (s' := offS s) (st' := st) (ft' := ft) (F' := (.slice (some ⟨g, 0, none⟩) m c, cv)) hc (fun oq oc hr => by
      refine row_kept hcR ?_ (fun e => Hrm.out.1 e.symm)
      have h3 := heap_set (row_kept (Ha1.out.trans Ha2.out) hr id) (i := 3) (.slice (some ⟨g, 0, none⟩) m c)
      rw [machC_set_pre.2, Hw3.out] at h3
      exact h3)
    (by rw [ho1, valsV_take, ← ho1, ho2]; exact ownsRow_prefix Hst0.out (by omega)) Hm0.out.ca (own_prefix _ _ _ _) rfl Hm0.out.loc rfl
  exact bodyPost_ret (results_cell1 rfl _ rfl (run_loadVar_row _ _ _ _ _ _ _ hR (Tryz.underlying68) rfl rfl)) rfl ⟨_, hfin.2, _, hfin.1, .inl ⟨_, rfl, by rw [Hv.out]; rfl⟩⟩
theorem need_len {n : Nat} {s s2 : MSt} {u : Unit} (h : needR n s = .ok (u, s2)) : s2 = s ∧ n ≤ s2.stack.length := by
  unfold needR at h
  split at h
  · cases h
  · cases h; exact ⟨rfl, by omega⟩
theorem pop_off {s s2 : MSt} {v : ValL} (h : popR s = .ok (v, s2)) : s2 = offS s := (Prod.mk.inj (Except.ok.inj h)).2.symm
theorem num_off {s s2 : MSt} {v : Int} (h : numR s = .ok (v, s2)) : s2 = offS s := by
  unfold numR at h; split at h
  · cases h
  · exact (Prod.mk.inj (Except.ok.inj h)).2.symm
theorem txt_off {s s2 : MSt} {v : List UInt8} (h : txtR s = .ok (v, s2)) : s2 = offS s := by
  unfold txtR at h; split at h
  · exact (Prod.mk.inj (Except.ok.inj h)).2.symm
  · cases h
theorem Mach.bound {w : World} {lo mb : Nat} {pv vv : Value} {m : MSt} {st : Nat} {ft : Int} {F : Value × Value} (h : Mach w lo mb pv vv m st ft F) : mb < w.heap.size ∧ ∀ k, Foot F k → k < w.heap.size := by
  obtain ⟨oq, oc, h1, -⟩ := h.row
  exact ⟨lt_of_block h1, fun k hk => (h.low.1 k hk).2⟩
theorem MStep.box {mb xb : Nat} {F F' : Value × Value} {w w2 w' : World} {o : Obj} (h : MStep mb F F' w2 w') (hb : w2.heap[xb]? = some o) (hx : w.heap.size ≤ xb) (hn : mb < w.heap.size ∧ ∀ k, Foot F k → k < w.heap.size) : w'.heap[xb]? = some o :=
  row_kept h.chg hb (by rintro (e | e); have := hn.1; omega; have := hn.2 _ e; omega)
theorem off_len (s : MSt) : (offS s).stack.length = s.stack.length - 1 := by show s.stack.dropLast.length = _; rw [List.length_dropLast]
set_option maxHeartbeats 1000000 in
theorem num_any {w : World} {lo mb : Nat} {pv vv : Value} {s : MSt} {st : Nat} {ft : Int} {F : Value × Value} (hm : Mach w lo mb pv vv s st ft F) (hs : s.stack.length ≤ 64) (hne : 1 ≤ s.stack.length) :
    Calls Tryz.prog 99 #[.pointer (some ⟨mb, 0, none⟩)] w (VOut lo mb pv vv st ft F (numR s) (fun n => .int .i64 n) w) := by
  have HP := Lib.hid (pop_any hm hs hne)
  obtain ⟨r, hr⟩ : ∃ r, r = numR s := ⟨_, rfl⟩
  rw [← hr]
  have Hr := Lib.hid hr
  clear hm hs hne hr
  go_enter Tryz.func99, Tryz.ntmps99
  go_wp2_with fail
  refine HP.out.mono ?_
  rintro e w2 ⟨F2, hs2, s2, hm2, (⟨v, hp, rfl⟩ | ⟨y, hp, rfl⟩)⟩
  rotate_left
  · cases hp
  cases hp
  have HG := Lib.hid (fun w => give_any 41 w)
  obtain ⟨⟨v1, v2, v3⟩, hv⟩ : ∃ v, v = lastV s := ⟨_, rfl⟩
  have hrr := Hr.out
  unfold numR at hrr
  rw [← hv] at hrr ⊢
  have Hrr := Lib.hid hrr
  have hal_ := (Chg.refl NoB w2).alloc (.cells #[.bool v1, .int .i64 v2, .string (tx v3)] 68)
  have hb_ := heap_alloc_new w2 (.cells #[.bool v1, .int .i64 v2, .string (tx v3)] 68)
  obtain ⟨b, hxb_⟩ : ∃ b, b = w2.heap.size := ⟨_, rfl⟩
  obtain ⟨w3, hw_⟩ : ∃ w_, w2.alloc (.cells #[.bool v1, .int .i64 v2, .string (tx v3)] 68) = w_ := ⟨_, rfl⟩
  have hz_ : w3.heap.size = b + 1 := by rw [← hw_, hxb_]; exact alloc_size _ _
  rw [hw_] at hal_ hb_
  rw [← hxb_] at hb_
  have Hw3 := Lib.hid hw_
  have Hx3 := Lib.hid hxb_
  have Ha3 := Lib.hid hal_
  have Hb3 := Lib.hid hb_
  have Hz3 := Lib.hid hz_
  clear hal_ hb_ hxb_ hw_ hz_
  have HM := Lib.hid (hm2.keep Ha3.out)
  have HS := Lib.hid (hs2.trans (MStep.of_chg Ha3.out))
  obtain ⟨x0, x1, x2⟩ := var3 Hb3.out
  clear hs2 hm2 hrr hv HP Hr
  unfold valA
  simp only
  go_upto_region 2 with fail
  rw [Hw3.out, ← Hx3.out]
  cases v1 with
  | true =>
    go_wp2_with fail
    refine (HG.out _).mono ?_
    rintro e w' ⟨rfl, rfl⟩
    unfold quitP
    go_wp2_with fail
    exact ⟨rfl, F2, HS.out, _, HM.out, .inr ⟨41, by rw [Hrr.out]; rfl, rfl⟩⟩
  | false =>
    go_wp2_with fail
    go_ret
    exact ⟨F2, HS.out, _, HM.out, .inl ⟨_, by rw [Hrr.out]; rfl, rfl⟩⟩
set_option maxHeartbeats 1000000 in
theorem mtext_any {w : World} {lo mb : Nat} {pv vv : Value} {s : MSt} {st : Nat} {ft : Int} {F : Value × Value} (hm : Mach w lo mb pv vv s st ft F) (hs : s.stack.length ≤ 64) (hne : 1 ≤ s.stack.length) :
    Calls Tryz.prog 132 #[.pointer (some ⟨mb, 0, none⟩)] w (VOut lo mb pv vv st ft F (txtR s) (fun t => .string (tx t)) w) := by
  have HP := Lib.hid (pop_any hm hs hne)
  obtain ⟨r, hr⟩ : ∃ r, r = txtR s := ⟨_, rfl⟩
  rw [← hr]
  have Hr := Lib.hid hr
  clear hm hs hne hr
  go_enter Tryz.func132, Tryz.ntmps132
  go_wp2_with fail
  refine HP.out.mono ?_
  rintro e w2 ⟨F2, hs2, s2, hm2, (⟨v, hp, rfl⟩ | ⟨y, hp, rfl⟩)⟩
  rotate_left
  · cases hp
  cases hp
  have HG := Lib.hid (fun w => give_any 41 w)
  obtain ⟨⟨v1, v2, v3⟩, hv⟩ : ∃ v, v = lastV s := ⟨_, rfl⟩
  have hrr := Hr.out
  unfold txtR at hrr
  rw [← hv] at hrr ⊢
  have Hrr := Lib.hid hrr
  have hal_ := (Chg.refl NoB w2).alloc (.cells #[.bool v1, .int .i64 v2, .string (tx v3)] 68)
  have hb_ := heap_alloc_new w2 (.cells #[.bool v1, .int .i64 v2, .string (tx v3)] 68)
  obtain ⟨b, hxb_⟩ : ∃ b, b = w2.heap.size := ⟨_, rfl⟩
  obtain ⟨w3, hw_⟩ : ∃ w_, w2.alloc (.cells #[.bool v1, .int .i64 v2, .string (tx v3)] 68) = w_ := ⟨_, rfl⟩
  have hz_ : w3.heap.size = b + 1 := by rw [← hw_, hxb_]; exact alloc_size _ _
  rw [hw_] at hal_ hb_
  rw [← hxb_] at hb_
  have Hw3 := Lib.hid hw_
  have Hx3 := Lib.hid hxb_
  have Ha3 := Lib.hid hal_
  have Hb3 := Lib.hid hb_
  have Hz3 := Lib.hid hz_
  clear hal_ hb_ hxb_ hw_ hz_
  have HM := Lib.hid (hm2.keep Ha3.out)
  have HS := Lib.hid (hs2.trans (MStep.of_chg Ha3.out))
  obtain ⟨x0, x1, x2⟩ := var3 Hb3.out
  clear hs2 hm2 hrr hv HP Hr
  unfold valA
  simp only
  go_upto_region 2 with fail
  rw [Hw3.out, ← Hx3.out]
  cases v1 with
  | true =>
    go_wp2_with fail
    go_ret
    exact ⟨F2, HS.out, _, HM.out, .inl ⟨_, by rw [Hrr.out]; rfl, rfl⟩⟩
  | false =>
    go_wp2_with fail
    refine (HG.out _).mono ?_
    rintro e w' ⟨rfl, rfl⟩
    unfold quitP
    go_wp2_with fail
    exact ⟨rfl, F2, HS.out, _, HM.out, .inr ⟨41, by rw [Hrr.out]; rfl, rfl⟩⟩
end Go.Proofs.YthehpmffkkogpaaGreatDoor
