/- Programs as texts, in lists: lines, labels, instructions; what Assemble and Disassemble answer. No condition. -/
import Derived.Test.YtaihgciokfkonaaDoorCdIns
import Derived.Test.YtaihgciokfkonaaDoorPthAll
import Derived.Test.YtaihgciokfkonaaDoorNdLib
import Derived.Test.YtaihgciokfkonaaDoorAmQuo
namespace Go.Proofs.YtaihgciokfkonaaDoor
set_option linter.unusedVariables false
open Go.ChangeShapes Go.WideShapes Go.ChangeAt Go.RowKit
def cutW (t : List UInt8) : List UInt8 × List UInt8 × Bool := match cutC 32 t with
  | none => (t, [], false)
  | some (p, r) => (p, r, true)
def insG (op : Int) (more : Bool) (rest : List UInt8) : Option (InsL × List UInt8) :=
  if op = 0 ∨ more ≠ decide (takesF op ≠ 0) then none
  else if takesF op = 1 ∨ takesF op = 3 then (digP rest).map fun n => (⟨op, n, []⟩, [])
  else if takesF op = 2 then (wholeF rest).map fun s => (⟨op, 0, s⟩, [])
  else if takesF op = 4 then (if Pth.nameL rest = true then some (⟨op, 0, []⟩, rest) else none)
  else some (⟨op, 0, []⟩, [])
def insF (t : List UInt8) : Option (InsL × List UInt8) := insG (opF (cutW t).1) (cutW t).2.2 (cutW t).2.1
/- an instruction's line: its number, the instruction, the label that it names -/
structure LineL where
  no : Int
  ins : InsL
  lab : List UInt8
structure SrcL where
  labs : List (List UInt8 × Int)
  list : List LineL
def markF (t : List UInt8) : Bool := decide (t.getLast? = some 58) && Pth.nameL t.dropLast
def hasK (ls : List (List UInt8 × Int)) (n : List UInt8) : Bool := ls.any fun x => x.1 == n
def addF (s : SrcL) (t : List UInt8) (no : Int) : Except Int SrcL :=
  if t = [] ∨ t.head? = some 59 then .ok s
  else if markF t = true then (if hasK s.labs t.dropLast = true then .error 11 else .ok ⟨s.labs ++ [(t.dropLast, (s.list.length : Int))], s.list⟩)
  else match insF t with
    | none => .error 50
    | some x => .ok ⟨s.labs, s.list ++ [⟨no, x.1, x.2⟩]⟩
/- all lines from number k on; a fault with its line -/
def linesF : List (List UInt8) → Nat → SrcL → Except (Int × Int) SrcL
  | [], _, s => .ok s
  | t :: r, k, s => match addF s t ((k : Int) + 1) with
    | .error e => .error ((k : Int) + 1, e)
    | .ok s' => linesF r (k + 1) s'
def atK (ls : List (List UInt8 × Int)) (n : List UInt8) : Option Int := (ls.find? fun x => x.1 == n).map fun x => x.2
def fillF (ls : List (List UInt8 × Int)) : List LineL → Except Int (List InsL)
  | [] => .ok []
  | l :: r => if l.lab = [] then (fillF ls r).map fun p => l.ins :: p else match atK ls l.lab with
    | none => .error l.no
    | some a => (fillF ls r).map fun p => ⟨l.ins.op, a, l.ins.s⟩ :: p
def endF (s : SrcL) : List InsL × Int × Int := match fillF s.labs s.list with
  | .error n => ([], n, 31)
  | .ok p => if (checkF p).2 = 30 then ([], ((s.list.map LineL.no).getD (checkF p).1.toNat 0), 30) else if (checkF p).2 ≠ 0 then ([], 0, (checkF p).2) else (p, 0, 0)
def asmF (s : List UInt8) : List InsL × Int × Int := if 65536 < s.length then ([], 0, 3) else match linesF (Pth.pcs 10 s) 0 ⟨[], []⟩ with
  | .error x => ([], x.1, x.2)
  | .ok r => endF r
theorem linesF_app : ∀ (a b : List (List UInt8)) (k : Nat) (s : SrcL), linesF (a ++ b) k s = match linesF a k s with
    | .error x => .error x
    | .ok s' => linesF b (k + a.length) s' := by
  intro a
  induction a with
  | nil => intro b k s; rfl
  | cons t r ih =>
    intro b k s
    rw [List.cons_append, linesF, linesF]
    cases h : addF s t ((k : Int) + 1) with
    | error e => rfl
    | ok s' =>
      simp only
      rw [ih]
      have e : k + 1 + r.length = k + (t :: r).length := by rw [List.length_cons]; omega
      rw [e]
theorem linesF_snoc (a : List (List UInt8)) (t : List UInt8) (s s' : SrcL) (h : linesF a 0 s = .ok s') : linesF (a ++ [t]) 0 s = match addF s' t ((a.length : Int) + 1) with
    | .error e => .error ((a.length : Int) + 1, e)
    | .ok s'' => .ok s'' := by
  rw [linesF_app, h, Nat.zero_add]
  simp only
  rw [linesF]
  cases addF s' t ((a.length : Int) + 1) <;> rfl
theorem linesF_err (a b : List (List UInt8)) (s : SrcL) (x : Int × Int) (h : linesF a 0 s = .error x) : linesF (a ++ b) 0 s = .error x := by
  rw [linesF_app, h]
/- a line more: at most an instruction more -/
theorem addF_len {s s' : SrcL} {t : List UInt8} {no : Int} (h : addF s t no = .ok s') : s'.list.length ≤ s.list.length + 1 ∧ s'.labs.length ≤ s.labs.length + 1 := by
  unfold addF at h
  split at h
  · cases h; exact ⟨Nat.le_succ _, Nat.le_succ _⟩
  · split at h
    · split at h
      · cases h
      · cases h; simp
    · split at h
      · cases h
      · cases h; simp
theorem linesF_len : ∀ (a : List (List UInt8)) (k : Nat) (s s' : SrcL), linesF a k s = .ok s' → s'.list.length ≤ s.list.length + a.length ∧ s'.labs.length ≤ s.labs.length + a.length := by
  intro a
  induction a with
  | nil => intro k s s' h; cases h; exact ⟨Nat.le_refl _, Nat.le_refl _⟩
  | cons t r ih =>
    intro k s s' h
    rw [linesF] at h
    cases hx : addF s t ((k : Int) + 1) with
    | error e => rw [hx] at h; cases h
    | ok s1 =>
      rw [hx] at h
      have h1 := addF_len hx
      have h2 := ih _ _ _ h
      rw [List.length_cons]; omega
/- the text of a program; c: the letter ahead of a place -/
def labT (c : UInt8) (k : Int) : List UInt8 := c :: Lib.itoa k
def writF (c : UInt8) (x : InsL) : List UInt8 := wordL x.op ++
  (if takesF x.op = 1 ∨ takesF x.op = 3 then 32 :: Lib.itoa x.n else if takesF x.op = 2 then 32 :: quoF x.s else if takesF x.op = 4 then 32 :: labT c x.n else [])
def aimF (p : List InsL) (i : Nat) : Bool := p.any fun y => decide (takesF y.op = 4) && decide (y.n = (i : Int))
/- the lines of an instruction that stands at place i -/
def pieceF (c : UInt8) (p : List InsL) (i : Nat) (x : InsL) : List (List UInt8) := (if aimF p i = true then [labT c i ++ [58]] else []) ++ [writF c x]
def rowsF (c : UInt8) (p : List InsL) : Nat → List InsL → List (List UInt8)
  | _, [] => []
  | i, x :: r => pieceF c p i x ++ rowsF c p (i + 1) r
def joinN (l : List (List UInt8)) : List UInt8 := (l.map fun t => t ++ [10]).flatten
def disF (p : List InsL) : List UInt8 × Int := if (checkF p).2 ≠ 0 then ([], (checkF p).2) else (joinN (rowsF 108 p 0 p), 0)
theorem joinN_app (a b : List (List UInt8)) : joinN (a ++ b) = joinN a ++ joinN b := by simp [joinN]
theorem rowsF_snoc (c : UInt8) (p : List InsL) : ∀ (r : List InsL) (i : Nat) (x : InsL), rowsF c p i (r ++ [x]) = rowsF c p i r ++ pieceF c p (i + r.length) x := by
  intro r
  induction r with
  | nil => intro i x; simp [rowsF]
  | cons y r ih =>
    intro i x
    rw [List.cons_append, rowsF, rowsF, ih, List.append_assoc]
    congr 3
    rw [List.length_cons]; omega
theorem pcs_lines : ∀ (l : List (List UInt8)) (t : List UInt8), (∀ x ∈ l, (10 : UInt8) ∉ x) → Pth.pcs 10 (joinN l ++ t) = l ++ Pth.pcs 10 t := by
  intro l
  induction l with
  | nil => intro t h; rfl
  | cons x r ih =>
    intro t h
    have e : joinN (x :: r) ++ t = x ++ 10 :: (joinN r ++ t) := by simp [joinN]
    rw [e, Pth.pcs_cut (h x (List.mem_cons_self)), ih t fun y hy => h y (List.mem_cons_of_mem _ hy)]
    rfl
/- no word has a blank, a mark or a feed in it; none begins as a note -/
theorem words_all : (List.range 31).all (fun k => (wordsB.getD k []).all fun c => decide (97 ≤ c.toNat ∧ c.toNat ≤ 122)) = true := by decide
theorem wordL_in' (op : Int) : ∀ c ∈ wordL op, 97 ≤ c.toNat ∧ c.toNat ≤ 122 := by
  intro c hc
  by_cases h : 0 ≤ op ∧ op < 31
  · obtain ⟨k, rfl⟩ := Int.eq_ofNat_of_zero_le h.1
    rw [wordL_in k (by omega)] at hc
    have := List.all_eq_true.1 (List.all_eq_true.1 words_all k (List.mem_range.2 (by omega))) c hc
    simpa using this
  · rw [wordL_out op h] at hc; cases hc
theorem wordL_no (op : Int) (b : UInt8) (hb : b.toNat < 97 ∨ 122 < b.toNat) : b ∉ wordL op := fun h => by have := wordL_in' op b h; omega
theorem itoa_in (n : Int) : ∀ c ∈ Lib.itoa n, c.toNat = 45 ∨ (48 ≤ c.toNat ∧ c.toNat ≤ 57) := by
  intro c hc
  have hd := dec_in
  unfold Lib.itoa at hc
  split at hc
  · rcases List.mem_cons.1 hc with rfl | hc
    · exact .inl rfl
    · exact .inr (hd _ c hc)
  · exact .inr (hd _ c hc)
end Go.Proofs.YtaihgciokfkonaaDoor
