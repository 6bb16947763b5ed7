/- Recipes in lists: tokens, names, expressions, and what a reading answers. No condition. -/
import Derived.Test.YtdgcpgbknfojhaaDoorAmQuo
namespace Go.Proofs.YtdgcpgbknfojhaaDoor
set_option linter.unusedVariables false
/- an expression, a field, a recipe -/
inductive ExL where
  | mk (kind : Int) (s : List UInt8) (kids : List ExL)
def ExL.kind : ExL → Int
  | .mk k _ _ => k
def ExL.s : ExL → List UInt8
  | .mk _ s _ => s
def ExL.kids : ExL → List ExL
  | .mk _ _ k => k
structure FldL where
  kind : Int
  name : ExL
  range : ExL
structure RcpL where
  name : ExL
  version : ExL
  fields : List FldL
/- words and names -/
def lowC (c : UInt8) : Bool := decide (97 ≤ c.toNat ∧ c.toNat ≤ 122)
def wordC (c : UInt8) : Bool := decide (97 ≤ c.toNat ∧ c.toNat ≤ 122) || decide (48 ≤ c.toNat ∧ c.toNat ≤ 57) || decide (c.toNat = 95)
def signC (c : UInt8) : Bool := decide (c.toNat = 40) || decide (c.toNat = 41) || decide (c.toNat = 43) || decide (c.toNat = 61)
def kPackage : List UInt8 := [112, 97, 99, 107, 97, 103, 101]
def kVersion : List UInt8 := [118, 101, 114, 115, 105, 111, 110]
def kTool : List UInt8 := [116, 111, 111, 108]
def kBuild : List UInt8 := [98, 117, 105, 108, 100]
def kRun : List UInt8 := [114, 117, 110]
def kLet : List UInt8 := [108, 101, 116]
def kIn : List UInt8 := [105, 110]
def kIf : List UInt8 := [105, 102]
def kThen : List UInt8 := [116, 104, 101, 110]
def kElse : List UInt8 := [101, 108, 115, 101]
def keyL : List (List UInt8) := [kPackage, kVersion, kTool, kBuild, kRun, kLet, kIn, kIf, kThen, kElse]
def keyF (s : List UInt8) : Bool := keyL.any fun k => s == k
def nameN (s : List UInt8) : Bool := decide (s ≠ []) && decide (s.length ≤ 32) && (match s with | [] => false | c :: _ => lowC c) && s.all wordC && !keyF s
/- ahead of a token -/
def skipF : Bool → List UInt8 → List UInt8
  | _, [] => []
  | n, c :: r => if n = true ∨ c.toNat = 32 ∨ c.toNat = 10 ∨ c.toNat = 9 ∨ c.toNat = 35 then skipF (decide (c.toNat = 35) || (n && decide (c.toNat ≠ 10))) r else c :: r
/- a reading's state: the token (its kind, what it says, how much there is from its first byte on), what lies behind it; a fault: how much there is from its place on, and why -/
structure RdL where
  kind : Nat
  s : List UInt8
  rem : Nat
  rest : List UInt8
abbrev FaultL := Nat × Int
def tokF : List UInt8 → Except FaultL RdL
  | [] => .ok ⟨0, [], 0, []⟩
  | c :: r =>
    if c.toNat = 34 then (match quoCut (c :: r) with
      | none => .error ((c :: r).length, 50)
      | some (t, b) => .ok ⟨3, t, (c :: r).length, b⟩)
    else if signC c = true then .ok ⟨2, [c], (c :: r).length, r⟩
    else if wordC c = true then .ok ⟨1, (c :: r).takeWhile wordC, (c :: r).length, (c :: r).dropWhile wordC⟩
    else .error ((c :: r).length, 50)
def takeF (l : List UInt8) : Except FaultL RdL := tokF (skipF false l)
def RdL.is (st : RdL) (kind : Nat) (s : List UInt8) : Bool := decide (st.kind = kind) && (st.s == s)
def beginsF (st : RdL) : Bool := decide (st.kind = 3) || st.is 2 [40] || st.is 1 kIf || st.is 1 kLet || (decide (st.kind = 1) && nameN st.s)
def mustF (kind : Nat) (s : List UInt8) (st : RdL) : Except FaultL RdL := if st.is kind s = true then takeF st.rest else .error (st.rem, 50)
def moreF (t : RdL → Except FaultL (ExL × RdL)) : Nat → List ExL → RdL → Except FaultL (List ExL × RdL)
  | 0, acc, st => .ok (acc, st)
  | n + 1, acc, st => if st.is 2 [43] = true then (match takeF st.rest with
      | .error e => .error e
      | .ok st1 => match t st1 with
        | .error e => .error e
        | .ok (y, st2) => moreF t n (acc ++ [y]) st2) else .ok (acc, st)
def sumE : List ExL → ExL
  | [x] => x
  | ks => .mk 3 [] ks
def exprW (t : RdL → Except FaultL (ExL × RdL)) (st : RdL) : Except FaultL (ExL × RdL) := match t st with
  | .error e => .error e
  | .ok (x, st1) => match moreF t (st1.rest.length + 1) [x] st1 with
    | .error e => .error e
    | .ok (ks, st2) => .ok (sumE ks, st2)
/- an expression, and behind it a token -/
def exprM (t : RdL → Except FaultL (ExL × RdL)) (kind : Nat) (s : List UInt8) (st : RdL) : Except FaultL (ExL × RdL) := match exprW t st with
  | .error e => .error e
  | .ok (x, st1) => match mustF kind s st1 with
    | .error e => .error e
    | .ok st2 => .ok (x, st2)
def choiceF (t : RdL → Except FaultL (ExL × RdL)) (st : RdL) : Except FaultL (ExL × RdL) := match exprM t 2 [61] st with
  | .error e => .error e
  | .ok (a, s1) => match exprM t 1 kThen s1 with
    | .error e => .error e
    | .ok (b, s2) => match exprM t 1 kElse s2 with
      | .error e => .error e
      | .ok (c, s3) => match exprW t s3 with
        | .error e => .error e
        | .ok (d, s4) => .ok (.mk 4 [] [a, b, c, d], s4)
def nameT (st : RdL) : Except FaultL RdL := if ¬ (st.kind = 1 ∧ nameN st.s = true) then .error (st.rem, 50) else takeF st.rest
def bindF (t : RdL → Except FaultL (ExL × RdL)) (st : RdL) : Except FaultL (ExL × RdL) :=
  match nameT st with
  | .error e => .error e
  | .ok s0 => match mustF 2 [61] s0 with
    | .error e => .error e
    | .ok s1 => match exprM t 1 kIn s1 with
      | .error e => .error e
      | .ok (a, s2) => match exprW t s2 with
        | .error e => .error e
        | .ok (b, s3) => .ok (.mk 5 st.s [a, b], s3)
/- a term within so many (32 less that) others -/
def termF : Nat → RdL → Except FaultL (ExL × RdL)
  | 0, st => .error (st.rem, if beginsF st = true then 4 else 50)
  | d + 1, st => if beginsF st = true then (match takeF st.rest with
      | .error e => .error e
      | .ok s1 =>
        if st.kind = 3 then .ok (.mk 1 st.s [], s1)
        else if st.kind = 2 then exprM (termF d) 2 [41] s1
        else if st.s = kIf then choiceF (termF d) s1
        else if st.s = kLet then bindF (termF d) s1
        else .ok (.mk 2 st.s [], s1))
    else .error (st.rem, 50)
def exprF (d : Nat) (st : RdL) : Except FaultL (ExL × RdL) := exprW (termF d) st
def fieldK (st : RdL) : Int := if st.is 1 kTool = true then 1 else if st.is 1 kBuild = true then 2 else if st.is 1 kRun = true then 3 else 0
def fieldsF : Nat → List FldL → RdL → Except FaultL (List FldL × RdL)
  | 0, acc, st => .ok (acc, st)
  | n + 1, acc, st => if st.kind = 0 then .ok (acc, st)
    else if fieldK st = 0 then .error (st.rem, 50)
    else if acc.length = 20 then .error (st.rem, 13)
    else match takeF st.rest with
    | .error e => .error e
    | .ok s1 => match exprF 32 s1 with
      | .error e => .error e
      | .ok (a, s2) => match exprF 32 s2 with
        | .error e => .error e
        | .ok (b, s3) => fieldsF n (acc ++ [⟨fieldK st, a, b⟩]) s3
def sourceF (st : RdL) : Except FaultL RcpL := match mustF 1 kPackage st with
  | .error e => .error e
  | .ok s1 => match exprF 32 s1 with
    | .error e => .error e
    | .ok (a, s2) => match mustF 1 kVersion s2 with
      | .error e => .error e
      | .ok s3 => match exprF 32 s3 with
        | .error e => .error e
        | .ok (b, s4) => match fieldsF (s4.rest.length + 2) [] s4 with
          | .error e => .error e
          | .ok (fs, _) => .ok ⟨a, b, fs⟩
/- the recipe of a text, or a place and why -/
def parseF (s : List UInt8) : Except (Int × Int) RcpL := if 4096 < s.length then .error (0, 3)
  else match takeF s with
  | .error x => .error (((s.length - x.1 : Nat) : Int), x.2)
  | .ok st => match sourceF st with
    | .error x => .error (((s.length - x.1 : Nat) : Int), x.2)
    | .ok r => .ok r
/- what is left is the end of what there was -/
theorem skipF_suffix : ∀ (l : List UInt8) (n : Bool), skipF n l <:+ l := by
  intro l
  induction l with
  | nil => intro n; cases n <;> exact List.suffix_refl _
  | cons c r ih =>
    intro n
    rw [skipF]
    split
    · exact (ih _).trans (List.suffix_cons c r)
    · exact List.suffix_refl _
end Go.Proofs.YtdgcpgbknfojhaaDoor
