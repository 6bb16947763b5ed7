/- What a build is, in lists: its form, its bytes; what can be written is read back as it is, and what is read is written as these bytes. No condition. -/
import Derived.Test.YtnipiphhkcafhaaGreatDoorCdBackP
import Derived.Test.YtnipiphhkcafhaaGreatDoorDvEnc
import Derived.Test.YtnipiphhkcafhaaGreatDoorPthAll
import Derived.Test.YtnipiphhkcafhaaGreatDoorMixAll
import Derived.Test.YtnipiphhkcafhaaGreatDoorVerLow
namespace Go.Proofs.YtnipiphhkcafhaaGreatDoor
set_option linter.unusedVariables false
open Go.ChangeShapes Go.WideShapes Go.ChangeAt Go.RowKit
structure DrvL where
  name : List UInt8
  a : Int
  b : Int
  c : Int
  tool : List UInt8
  ins : List (List UInt8 × List UInt8)
noncomputable def keyB (l : List UInt8) : Bool := Mix.parseB l
def leqL (x y : List UInt8) : Bool := Op.bytesLess x y || x == y
/- names stand by rising, each once: from the one ahead on -/
def risesF : List (List UInt8) → Bool
  | [] => true
  | [_] => true
  | x :: y :: r => !leqL y x && risesF (y :: r)
noncomputable def goodD (d : DrvL) : Bool :=
  Pth.nameL d.name && (Ver.goodB d.a d.b d.c && (keyB d.tool && (decide (d.ins.length ≤ 40) && (risesF (d.ins.map (·.1)) && d.ins.all (fun x => Pth.nameL x.1 && keyB x.2)))))
/- one input can be -/
noncomputable def okI (x : List UInt8 × List UInt8) : Bool := Pth.nameL x.1 && keyB x.2
theorem rises_iff : ∀ (l : List (List UInt8)), risesF l = true ↔ ∀ i (h : i + 1 < l.length), leqL l[i + 1] l[i] = false
  | [] => by simp [risesF]
  | [x] => by simp [risesF]
  | x :: y :: r => by
    rw [risesF, Bool.and_eq_true, rises_iff (y :: r)]
    constructor
    · rintro ⟨h1, h2⟩ i hi
      cases i with
      | zero => simpa using h1
      | succ i => exact h2 i (by simpa using hi)
    · intro h
      refine ⟨by simpa using h 0 (by simp), fun i hi => ?_⟩
      exact h (i + 1) (by simpa using hi)
theorem goodD_iff (d : DrvL) : goodD d = true ↔ Pth.nameL d.name = true ∧ Ver.goodB d.a d.b d.c = true ∧ keyB d.tool = true ∧ d.ins.length ≤ 40 ∧ (∀ i (h : i + 1 < d.ins.length), leqL d.ins[i + 1].1 d.ins[i].1 = false) ∧ ∀ i (h : i < d.ins.length), okI d.ins[i] = true := by
  unfold goodD
  simp only [Bool.and_eq_true, decide_eq_true_eq, rises_iff, List.all_eq_true]
  constructor
  · rintro ⟨h1, h2, h3, h4, h5, h6⟩
    refine ⟨h1, h2, h3, h4, fun i hi => ?_, fun i hi => ?_⟩
    · have := h5 i (by simpa using hi)
      simpa using this
    · have := h6 _ (List.getElem_mem hi)
      unfold okI
      simpa using this
  · rintro ⟨h1, h2, h3, h4, h5, h6⟩
    refine ⟨h1, h2, h3, h4, fun i hi => ?_, fun x hx => ?_⟩
    · have := h5 i (by simpa using hi)
      simpa using this
    · obtain ⟨i, hi, rfl⟩ := List.getElem_of_mem hx
      have := h6 i hi
      unfold okI at this
      simpa using this
theorem leq_nil {x : List UInt8} (h : Pth.nameL x = true) : leqL x [] = false := by
  have h1 := (Pth.nameL_iff.1 h).1
  cases x with
  | nil => simp at h1
  | cons a r => rfl
def atomF (l : List UInt8) : Nd := .mk true (tx l) []
def atL (n : Nd) : List UInt8 := n.atom.data.toList
theorem atL_atomF (l : List UInt8) : atL (atomF l) = l := by
  show (tx l).data.toList = l
  simp [tx]
def inputF (x : List UInt8 × List UInt8) : Nd := .mk false ⟨#[]⟩ [atomF x.1, atomF x.2]
def drvB : List UInt8 := [100, 114, 118]
def nodeD (d : DrvL) : Nd := .mk false ⟨#[]⟩ [atomF drvB, atomF d.name, atomF (Ver.dotL d.a.toNat d.b.toNat d.c.toNat), atomF d.tool, .mk false ⟨#[]⟩ (d.ins.map inputF)]
noncomputable def encD (d : DrvL) : ByteArray × Int := if goodD d = true then encO (putN (nodeD d) 0 []) else (⟨#[]⟩, 1)
/- an input out of a node -/
def inputOf (k : Nd) : Option (List UInt8 × List UInt8) := match k.kids with
  | [x, y] => if x.leaf = true ∧ y.leaf = true then some (atL x, atL y) else none
  | _ => none
def inputsOf : List Nd → Option (List (List UInt8 × List UInt8))
  | [] => some []
  | k :: r => match inputOf k with
    | none => none
    | some x => (inputsOf r).map (x :: ·)
def buildF (n : Nd) : Option DrvL := match n.kids with
  | [k0, k1, k2, k3, k4] =>
    if k0.leaf = true ∧ k1.leaf = true ∧ k2.leaf = true ∧ k3.leaf = true ∧ k4.leaf = false ∧ atL k0 = drvB then
      match Ver.verL (atL k2) with
      | none => none
      | some (a, b, c) => match inputsOf k4.kids with
        | none => none
        | some l => some ⟨atL k1, a, b, c, atL k3, l⟩
    else none
  | _ => none
theorem nd_leaf {k : Nd} {d : Nat} (h : okN k d = true) (hl : k.leaf = true) : k = atomF (atL k) := by
  obtain ⟨l, a, ks⟩ := k
  have : l = true := hl
  subst this
  rw [okN] at h
  simp only [if_true] at h
  rw [List.isEmpty_iff.1 h]
  unfold atomF atL
  show Nd.mk true a [] = Nd.mk true (tx a.data.toList) []
  rw [tx_back]
theorem nd_open {k : Nd} {d : Nat} (h : okN k d = true) (hk : k.leaf = false) : k = .mk false ⟨#[]⟩ k.kids ∧ okL k.kids (d + 1) = true := by
  obtain ⟨l, a, ks⟩ := k
  have : l = false := hk
  subst this
  rw [okN] at h
  simp only [Bool.false_eq_true, if_false, Bool.and_eq_true, decide_eq_true_eq] at h
  refine ⟨?_, h.2⟩
  show Nd.mk false a ks = _
  rw [empty_of_size h.1.1]
  rfl
theorem nd_kids {k : Nd} {d : Nat} (h : okN k d = true) (hk : k.kids ≠ []) : k.leaf = false := by
  obtain ⟨l, a, ks⟩ := k
  cases l with
  | false => rfl
  | true =>
    rw [okN] at h
    simp only [if_true] at h
    exact absurd (List.isEmpty_iff.1 h) hk
theorem okL_mem {ks : List Nd} {d : Nat} (h : okL ks d = true) : ∀ k ∈ ks, okN k d = true := by
  induction ks with
  | nil => intro k hk; cases hk
  | cons a r ih =>
    rw [okL, Bool.and_eq_true] at h
    intro k hk
    rcases List.mem_cons.1 hk with rfl | hk
    · exact h.1
    · exact ih h.2 k hk
theorem inputOf_back {k : Nd} {d : Nat} {x : List UInt8 × List UInt8} (hk : okN k d = true) (h : inputOf k = some x) : inputF x = k := by
  unfold inputOf at h
  split at h
  · rename_i p q hpq
    split at h
    · rename_i hl
      cases h
      obtain ⟨e, hok⟩ := nd_open hk (nd_kids hk (by rw [hpq]; simp))
      have h1 := nd_leaf (okL_mem hok p (by rw [hpq]; simp)) hl.1
      have h2 := nd_leaf (okL_mem hok q (by rw [hpq]; simp)) hl.2
      rw [e, hpq]
      unfold inputF
      simp only
      rw [← h1, ← h2]
    · cases h
  · cases h
theorem inputOf_form (x : List UInt8 × List UInt8) : inputOf (inputF x) = some x := by
  unfold inputOf inputF
  simp only [Nd.kids]
  rw [if_pos ⟨rfl, rfl⟩, atL_atomF, atL_atomF]
theorem inputsOf_back {ks : List Nd} {d : Nat} : ∀ {l : List (List UInt8 × List UInt8)}, okL ks d = true → inputsOf ks = some l → l.map inputF = ks := by
  induction ks with
  | nil => intro l _ h; cases h; rfl
  | cons k r ih =>
    intro l hok h
    rw [okL, Bool.and_eq_true] at hok
    rw [inputsOf] at h
    split at h
    · cases h
    · rename_i x hx
      cases hr : inputsOf r with
      | none => rw [hr] at h; cases h
      | some l' =>
        rw [hr] at h
        cases h
        rw [List.map_cons, inputOf_back hok.1 hx, ih hok.2 hr]
theorem inputsOf_form (l : List (List UInt8 × List UInt8)) : inputsOf (l.map inputF) = some l := by
  induction l with
  | nil => rfl
  | cons x r ih => rw [List.map_cons, inputsOf, inputOf_form]; simp only; rw [ih]; rfl
theorem buildF_back {n : Nd} {d : DrvL} (hn : okN n 0 = true) (h : buildF n = some d) : nodeD d = n := by
  unfold buildF at h
  split at h
  · rename_i k0 k1 k2 k3 k4 hk
    split at h
    · rename_i hl
      obtain ⟨h0, h1, h2, h3, h4, h5⟩ := hl
      obtain ⟨e, hok⟩ := nd_open hn (nd_kids hn (by rw [hk]; simp))
      have hm := okL_mem hok
      rw [hk] at hm e
      have e0 := nd_leaf (hm k0 (by simp)) h0
      have e1 := nd_leaf (hm k1 (by simp)) h1
      have e2 := nd_leaf (hm k2 (by simp)) h2
      have e3 := nd_leaf (hm k3 (by simp)) h3
      obtain ⟨e4, ok4⟩ := nd_open (hm k4 (by simp)) h4
      split at h
      · cases h
      · rename_i a b c hv
        split at h
        · cases h
        · rename_i l hi
          cases h
          have hb := inputsOf_back ok4 hi
          obtain ⟨hd, _⟩ := Ver.verL_text hv
          rw [e]
          unfold nodeD
          simp only [Int.toNat_natCast]
          rw [hd, hb, ← e4, ← e1, ← e2, ← e3, ← h5, ← e0]
    · cases h
  · cases h
theorem buildF_form {d : DrvL} (hg : goodD d = true) : buildF (nodeD d) = some d := by
  obtain ⟨name, a, b, c, tool, l⟩ := d
  unfold goodD at hg
  simp only [Bool.and_eq_true] at hg
  obtain ⟨a0, a1, b0, b1, c0, c1⟩ := Ver.good_iff.1 hg.2.1
  obtain ⟨a, rfl⟩ := Int.eq_ofNat_of_zero_le a0
  obtain ⟨b, rfl⟩ := Int.eq_ofNat_of_zero_le b0
  obtain ⟨c, rfl⟩ := Int.eq_ofNat_of_zero_le c0
  unfold buildF nodeD
  simp only [Nd.kids, Int.toNat_natCast]
  rw [if_pos ⟨rfl, rfl, rfl, rfl, rfl, atL_atomF _⟩, atL_atomF, atL_atomF, atL_atomF, Ver.verL_dot (by omega) (by omega) (by omega)]
  simp only
  rw [inputsOf_form]
noncomputable def decD (s : List UInt8) : Except Int DrvL := match decR s with
  | .error y => .error y
  | .ok n => match buildF n with
    | none => .error 5
    | some d => if goodD d = true then .ok d else .error 5
theorem decD_ok {s : List UInt8} {d : DrvL} (h : decD s = .ok d) : decR s = .ok (nodeD d) ∧ goodD d = true := by
  unfold decD at h
  split at h
  · cases h
  · rename_i n hn
    obtain ⟨_, _, hok⟩ := decR_ok hn
    split at h
    · cases h
    · rename_i d' hb
      split at h
      · rename_i hg
        cases h
        rw [hn, buildF_back hok hb]
        exact ⟨rfl, hg⟩
      · cases h
theorem decD_of {s : List UInt8} {d : DrvL} (h : decR s = .ok (nodeD d)) (hg : goodD d = true) : decD s = .ok d := by
  unfold decD
  rw [h]
  simp only
  rw [buildF_form hg]
  simp only
  rw [if_pos hg]
theorem decD_err {s : List UInt8} {y : Int} (h : decD s = .error y) : 0 < y ∧ y < 10 := by
  unfold decD at h
  split at h
  · rename_i e he
    cases h
    exact decR_err he
  · split at h
    · cases h; decide
    · split at h
      · cases h
      · cases h; decide
theorem decD_five {s : List UInt8} {n : Nd} (h : decR s = .ok n) (hn : ∀ d, n = nodeD d → goodD d = true → False) : decD s = .error 5 := by
  cases hc : decD s with
  | ok d =>
    obtain ⟨h1, h2⟩ := decD_ok hc
    rw [h] at h1
    cases h1
    exact (hn d rfl h2).elim
  | error y =>
    unfold decD at hc
    rw [h] at hc
    simp only at hc
    split at hc
    · exact hc.symm
    · split at hc
      · cases hc
      · exact hc.symm
theorem encD_cases (d : DrvL) : ((encD d).2 = 0 ∧ goodD d = true ∧ ∃ ys, (encD d).1 = tx ys ∧ decR ys = .ok (nodeD d)) ∨ ((encD d).2 ≠ 0 ∧ (encD d).1 = ⟨#[]⟩) := by
  unfold encD
  by_cases hc : goodD d = true
  · rw [if_pos hc]
    cases hp : putN (nodeD d) 0 [] with
    | error e =>
      right
      obtain ⟨g0, g1⟩ := putN_err _ _ _ _ hp
      exact ⟨by show e ≠ 0; omega, rfl⟩
    | ok ys =>
      left
      exact ⟨rfl, hc, ys, rfl, dec_enc hp⟩
  · rw [if_neg hc]
    exact .inr ⟨by show (1 : Int) ≠ 0; decide, rfl⟩
theorem encD_read {s : List UInt8} {d : DrvL} (h : decD s = .ok d) : encD d = (tx s, 0) := by
  obtain ⟨h1, h2⟩ := decD_ok h
  unfold encD
  rw [if_pos h2, enc_dec h1]
  rfl
theorem atom_inj {x y : List UInt8} (h : atomF x = atomF y) : x = y := by rw [← atL_atomF x, h, atL_atomF]
end Go.Proofs.YtnipiphhkcafhaaGreatDoor
