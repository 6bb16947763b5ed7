/- Assembled what was disassembled, in lists: each line is read back; labels with any letter; lines put between; one behind the other. No condition. -/
import Derived.Test.YtaihgciokfkonaaDoorAmMath
import Derived.Test.YtaihgciokfkonaaDoorCdNum
namespace Go.Proofs.YtaihgciokfkonaaDoor
set_option linter.unusedVariables false
open Go.ChangeShapes Go.WideShapes Go.ChangeAt Go.RowKit
theorem cutW_word (op : Int) (r : List UInt8) : cutW (wordL op ++ 32 :: r) = (wordL op, r, true) := by
  unfold cutW
  rw [cutC_some.2 ⟨rfl, wordL_no op 32 (.inl (by decide))⟩]
theorem cutW_alone (op : Int) : cutW (wordL op) = (wordL op, [], false) := by
  unfold cutW
  rw [cutC_none.2 (wordL_no op 32 (.inl (by decide)))]
def letR (c : UInt8) : Prop := 97 ≤ c.toNat ∧ c.toNat ≤ 122
theorem itoa_pos {k : Int} (h : 0 ≤ k) : Lib.itoa k = Lib.decDigits k.toNat := by
  unfold Lib.itoa
  rw [if_neg (by omega)]
theorem itoa_ne (n : Int) (h0 : -9223372036854775808 ≤ n) (h1 : n ≤ 9223372036854775807) : Lib.itoa n ≠ [] := by
  intro e
  have := digP_itoa n h0 h1
  rw [e, show digP [] = none by decide] at this
  cases this
theorem itoa_inj {a b : Int} (ha : -9223372036854775808 ≤ a ∧ a ≤ 9223372036854775807) (hb : -9223372036854775808 ≤ b ∧ b ≤ 9223372036854775807) (h : Lib.itoa a = Lib.itoa b) : a = b := by
  have h1 := digP_itoa a ha.1 ha.2
  have h2 := digP_itoa b hb.1 hb.2
  rw [h, h2, Option.some.injEq] at h1
  exact h1.symm
theorem labT_name {c : UInt8} (hc : letR c) {k : Int} (h0 : 0 ≤ k) (h1 : k ≤ 1048576) : Pth.nameL (labT c k) = true := by
  have hl := Lib.itoa_length_le k (by omega) (by omega)
  have he := itoa_ne k (by omega) (by omega)
  refine Pth.nameL_iff.2 ⟨by simp [labT], by simp [labT]; omega, ?_, ?_⟩
  · simp only [labT, List.head?_cons]
    intro e
    rw [Option.some.injEq] at e
    subst e
    exact absurd hc.1 (by decide)
  · intro b hb
    rcases List.mem_cons.1 hb with rfl | hb
    · exact Pth.okR_iff.2 (.inl hc)
    · rw [itoa_pos h0] at hb
      exact Pth.okR_iff.2 (.inr (.inl (dec_in _ b hb)))
theorem labT_inj {c : UInt8} {a b : Int} (ha : 0 ≤ a ∧ a ≤ 1048576) (hb : 0 ≤ b ∧ b ≤ 1048576) (h : labT c a = labT c b) : a = b :=
  itoa_inj (by omega) (by omega) (by simpa [labT] using h)
/- an instruction as its line tells it -/
def rawF (c : UInt8) (x : InsL) : InsL × List UInt8 := (⟨x.op, if takesF x.op = 4 then 0 else x.n, x.s⟩, if takesF x.op = 4 then labT c x.n else [])
theorem takes_some {op : Int} (h : takesF op ≠ 0) : 1 ≤ op ∧ op < 31 := by
  unfold takesF at h
  (repeat' split at h) <;> omega
theorem insF_writ {c : UInt8} (hc : letR c) {x : InsL} (hw : x.wf) {n : Nat} (hn : n ≤ 1048576) (hs : standsF x n = true) : insF (writF c x) = some (rawF c x) := by
  obtain ⟨op, N, s⟩ := x
  have hN := hw.2.1
  unfold standsF at hs
  simp only at hs hN
  by_cases hwd : wordL op = []
  · rw [if_pos hwd] at hs; cases hs
  have hop : 1 ≤ op ∧ op < 31 := Decidable.by_contra fun h => hwd ((wordL_nil op).2 h)
  rw [if_neg hwd] at hs
  have hof : (opF (wordL op) : Int) = op := opF_wordL op (by omega)
  unfold insF writF
  simp only
  by_cases h1 : takesF op = 1
  · rw [if_pos h1, decide_eq_true_eq] at hs
    rw [if_pos (.inl h1), cutW_word]
    simp only
    unfold insG
    rw [hof, if_neg (by simp [h1]; omega), if_pos (.inl h1), digP_itoa N hN.1 hN.2, hs]
    simp [rawF, h1]
  rw [if_neg h1] at hs
  by_cases h2 : takesF op = 2
  · rw [if_pos h2, decide_eq_true_eq] at hs
    rw [if_neg (by omega), if_pos h2, cutW_word]
    simp only
    unfold insG
    rw [hof, if_neg (by simp [h2]; omega), if_neg (by omega), if_pos h2, whole_quo, hs.1]
    simp [rawF, h2]
  rw [if_neg h2] at hs
  by_cases h3 : takesF op = 3
  · rw [if_pos h3, decide_eq_true_eq] at hs
    rw [if_pos (.inr h3), cutW_word]
    simp only
    unfold insG
    rw [hof, if_neg (by simp [h3]; omega), if_pos (.inr h3), digP_itoa N hN.1 hN.2, hs.1]
    simp [rawF, h3]
  rw [if_neg h3] at hs
  by_cases h4 : takesF op = 4
  · rw [if_pos h4, decide_eq_true_eq] at hs
    rw [if_neg (by omega), if_neg h2, if_pos h4, cutW_word]
    simp only
    unfold insG
    rw [hof, if_neg (by simp [h4]; omega), if_neg (by omega), if_neg h2, if_pos h4, if_pos (labT_name hc hs.2.1 (by omega)), hs.1]
    simp [rawF, h4]
  · rw [if_neg h4, decide_eq_true_eq] at hs
    have h0 : takesF op = 0 := by
      unfold takesF at h1 h2 h3 h4 ⊢
      (repeat' split) <;> simp_all
    rw [if_neg (by omega), if_neg h2, if_neg h4, List.append_nil, cutW_alone]
    simp only
    unfold insG
    rw [hof, if_neg (by simp [h0]; omega), if_neg (by omega), if_neg h2, if_neg h4, hs.1, hs.2]
    simp [rawF, h4]
/- what the last byte of a text is -/
theorem last_app {a b : List UInt8} {c : UInt8} (hb : b ≠ []) (h : (a ++ b).getLast? = some c) : b.getLast? = some c := by
  rw [List.getLast?_append] at h
  cases hl : b.getLast? with
  | none => exact absurd (List.getLast?_eq_none_iff.1 hl) hb
  | some d => rw [hl] at h; exact h
theorem writ_last {c : UInt8} {x : InsL} (hw : x.wf) : (writF c x).getLast? ≠ some 58 := by
  have hN := hw.2.1
  intro e
  unfold writF at e
  have hd : ∀ b ∈ Lib.itoa x.n, b ≠ 58 := by
    intro b hb e
    subst e
    have := itoa_in x.n 58 hb
    revert this; decide
  have hi := itoa_ne x.n hN.1 hN.2
  split at e
  · have := last_app (by simp) e
    have := last_app (a := [32]) hi this
    exact hd _ (List.mem_of_getLast? this) rfl
  · split at e
    · have := last_app (by simp) e
      rw [show 32 :: quoF x.s = (32 :: 34 :: quoL x.s) ++ [34] from rfl] at this
      have := last_app (by simp) this
      simp at this
    · split at e
      · have := last_app (by simp) e
        rw [labT] at this
        have := last_app (a := [32, c]) hi this
        exact hd _ (List.mem_of_getLast? this) rfl
      · rw [List.append_nil] at e
        have := wordL_in' x.op 58 (List.mem_of_getLast? e)
        revert this; decide
theorem writ_line {c : UInt8} {x : InsL} (hw : x.wf) (hwd : wordL x.op ≠ []) : writF c x ≠ [] ∧ (writF c x).head? ≠ some 59 ∧ markF (writF c x) = false := by
  have hN := hw.2.1
  obtain ⟨a, r, har⟩ := List.exists_cons_of_ne_nil hwd
  have ha := wordL_in' x.op a (by rw [har]; exact List.mem_cons_self)
  refine ⟨by simp [writF, har], ?_, ?_⟩
  · simp only [writF, har, List.cons_append, List.head?_cons]
    intro e
    rw [Option.some.injEq] at e
    subst e
    exact absurd ha.1 (by decide)
  · have hno := writ_last (c := c) hw
    simp [markF, hno]
theorem lab_line {c : UInt8} (hc : letR c) {k : Int} (h0 : 0 ≤ k) (h1 : k ≤ 1048576) : labT c k ++ [58] ≠ [] ∧ (labT c k ++ [58]).head? ≠ some 59 ∧ markF (labT c k ++ [58]) = true ∧ (labT c k ++ [58]).dropLast = labT c k := by
  refine ⟨by simp, ?_, ?_, by simp⟩
  · simp only [labT, List.cons_append, List.head?_cons]
    intro e
    rw [Option.some.injEq] at e
    subst e
    exact absurd hc.1 (by decide)
  · simp [markF, labT_name hc h0 h1]
/- the labels of the places i .. i+n-1 -/
def labsF (c : UInt8) (p : List InsL) : Nat → Nat → List (List UInt8 × Int)
  | _, 0 => []
  | i, n + 1 => (if aimF p i = true then [(labT c i, (i : Int))] else []) ++ labsF c p (i + 1) n
theorem labsF_in (c : UInt8) (p : List InsL) : ∀ (n i : Nat), ∀ x ∈ labsF c p i n, ∃ j : Nat, i ≤ j ∧ j < i + n ∧ x = (labT c j, (j : Int)) := by
  intro n
  induction n with
  | zero => intro i x h; cases h
  | succ n ih =>
    intro i x h
    rw [labsF] at h
    rcases List.mem_append.1 h with h | h
    · split at h
      · exact ⟨i, Nat.le_refl _, by omega, List.mem_singleton.1 h⟩
      · cases h
    · obtain ⟨j, h1, h2, e⟩ := ih (i + 1) x h
      exact ⟨j, by omega, by omega, e⟩
theorem labsF_at (c : UInt8) (p : List InsL) : ∀ (n i j : Nat), i ≤ j → j < i + n → i + n ≤ 1048576 → aimF p j = true → atK (labsF c p i n) (labT c j) = some (j : Int) := by
  intro n
  induction n with
  | zero => intro i j h1 h2; omega
  | succ n ih =>
    intro i j h1 h2 h3 ha
    rw [labsF]
    by_cases e : i = j
    · subst e
      rw [if_pos ha]
      simp [atK]
    · have hne : labT c i ≠ labT c j := fun h => e (by have := labT_inj (by omega) (by omega) h; omega)
      have := ih (i + 1) j (by omega) (by omega) (by omega) ha
      by_cases hi : aimF p i = true
      · rw [if_pos hi]
        unfold atK at this ⊢
        rw [List.singleton_append, List.find?_cons_of_neg (by simpa using hne)]
        exact this
      · rw [if_neg hi, List.nil_append]; exact this
/- the lines of a program, from place i on -/
theorem lines_rows {c : UInt8} (hc : letR c) (p : List InsL) : ∀ (r : List InsL) (i k : Nat) (s : SrcL), (∀ x ∈ r, x.wf ∧ standsF x p.length = true) → p.length ≤ 1048576 → i + r.length ≤ 1048576 → s.list.length = i → (∀ y ∈ s.labs, ∃ j : Nat, j < i ∧ y.1 = labT c j) →
    ∃ l, linesF (rowsF c p i r) k s = .ok ⟨s.labs ++ labsF c p i r.length, s.list ++ l⟩ ∧ l.map (fun z => (z.ins, z.lab)) = r.map (rawF c) := by
  intro r
  induction r with
  | nil => intro i k s _ _ _ _ _; exact ⟨[], by simp [rowsF, linesF, labsF], rfl⟩
  | cons x r ih =>
    intro i k s hr hp hi hl hy
    rw [List.length_cons] at hi
    obtain ⟨hxw, hxs⟩ := hr x List.mem_cons_self
    have hwd : wordL x.op ≠ [] := by
      intro h
      rw [standsF, if_pos h] at hxs
      cases hxs
    have hwl := writ_line (c := c) hxw hwd
    have hll := lab_line hc (k := (i : Int)) (by omega) (by omega)
    have hin := insF_writ hc hxw hp hxs
    rw [rowsF, linesF_app]
    have hstep : ∀ (s1 : SrcL) (no : Int), addF s1 (writF c x) no = .ok ⟨s1.labs, s1.list ++ [⟨no, (rawF c x).1, (rawF c x).2⟩]⟩ := by
      intro s1 no
      unfold addF
      rw [if_neg (by rintro (h | h); exact hwl.1 h; exact hwl.2.1 h), if_neg (by rw [hwl.2.2]; simp), hin]
    have hlab : ∀ no : Int, addF s (labT c i ++ [58]) no = .ok ⟨s.labs ++ [(labT c i, (i : Int))], s.list⟩ := by
      intro no
      unfold addF
      rw [if_neg (by rintro (h | h); exact hll.1 h; exact hll.2.1 h), if_pos hll.2.2.1, hll.2.2.2, if_neg, hl]
      intro h
      obtain ⟨y, hym, hye⟩ := List.any_eq_true.1 h
      obtain ⟨j, hj, he⟩ := hy y hym
      rw [he] at hye
      have := labT_inj (c := c) (a := (j : Int)) (b := (i : Int)) (by omega) (by omega) (by simpa using hye)
      omega
    have hfin : ∀ (k1 : Nat) (L : List (List UInt8 × Int)) (no : Int), (∀ y ∈ L, ∃ j : Nat, j < i + 1 ∧ y.1 = labT c j) →
        ∃ l, linesF (rowsF c p (i + 1) r) k1 ⟨L, s.list ++ [⟨no, (rawF c x).1, (rawF c x).2⟩]⟩ = .ok ⟨L ++ labsF c p (i + 1) r.length, s.list ++ l⟩ ∧ l.map (fun z => (z.ins, z.lab)) = (x :: r).map (rawF c) := by
      intro k1 L no hL
      obtain ⟨l, h1, h2⟩ := ih (i + 1) k1 ⟨L, s.list ++ [⟨no, (rawF c x).1, (rawF c x).2⟩]⟩ (fun y hy => hr y (List.mem_cons_of_mem _ hy)) hp (by omega) (by simp [hl]) hL
      refine ⟨⟨no, (rawF c x).1, (rawF c x).2⟩ :: l, by rw [h1]; simp, ?_⟩
      rw [List.map_cons, h2, List.map_cons]
    rw [List.length_cons, labsF]
    by_cases ha : aimF p i = true
    · rw [pieceF, if_pos ha, if_pos ha]
      obtain ⟨l, h1, h2⟩ := hfin (k + ([labT c i ++ [58]] ++ [writF c x]).length) (s.labs ++ [(labT c i, (i : Int))]) (((k + 1 : Nat) : Int) + 1) (by
        intro y hym
        rcases List.mem_append.1 hym with h | h
        · obtain ⟨j, hj, e⟩ := hy y h; exact ⟨j, by omega, e⟩
        · exact ⟨i, by omega, by rw [List.mem_singleton.1 h]⟩)
      refine ⟨l, ?_, h2⟩
      rw [List.singleton_append, linesF, hlab]
      simp only
      rw [linesF, hstep]
      simp only
      rw [linesF]
      simp only
      rw [List.singleton_append] at h1
      rw [h1, List.append_assoc]
    · rw [pieceF, if_neg ha, if_neg ha]
      obtain ⟨l, h1, h2⟩ := hfin (k + ([] ++ [writF c x]).length) s.labs ((k : Int) + 1) (by
        intro y hym
        obtain ⟨j, hj, e⟩ := hy y hym; exact ⟨j, by omega, e⟩)
      refine ⟨l, ?_, h2⟩
      rw [List.nil_append, linesF, hstep]
      simp only
      rw [linesF]
      simp only
      rw [List.nil_append] at h1
      rw [h1, List.nil_append]
theorem fill_rows (c : UInt8) (p : List InsL) (hp : p.length ≤ 1048576) : ∀ (r : List InsL) (l : List LineL), (∀ x ∈ r, x ∈ p ∧ standsF x p.length = true) → l.map (fun z => (z.ins, z.lab)) = r.map (rawF c) → fillF (labsF c p 0 p.length) l = .ok r := by
  intro r
  induction r with
  | nil =>
    intro l _ h
    cases l with
    | nil => rfl
    | cons => simp at h
  | cons x r ih =>
    intro l hr h
    cases l with
    | nil => simp at h
    | cons z l =>
      rw [List.map_cons, List.map_cons, List.cons.injEq] at h
      have hi := ih l (fun y hy => hr y (List.mem_cons_of_mem _ hy)) h.2
      obtain ⟨hxp, hxs⟩ := hr x List.mem_cons_self
      have e1 : z.ins = (rawF c x).1 := congrArg Prod.fst h.1
      have e2 : z.lab = (rawF c x).2 := congrArg Prod.snd h.1
      rw [fillF, e1, e2, hi]
      by_cases h4 : takesF x.op = 4
      · have hst : x.s = [] ∧ 0 ≤ x.n ∧ x.n < p.length := by
          unfold standsF at hxs
          split at hxs
          · cases hxs
          · simp [h4] at hxs
            exact hxs
        obtain ⟨j, hj⟩ := Int.eq_ofNat_of_zero_le hst.2.1
        have ha : aimF p j = true := List.any_eq_true.2 ⟨x, hxp, by simp [h4, hj]⟩
        have := labsF_at c p p.length 0 j (Nat.zero_le _) (by omega) (by omega) ha
        simp only [rawF, h4, if_true]
        rw [if_neg (by simp [labT]), hj, this]
        simp only [Except.map]
        rw [← hj]
      · simp only [rawF, h4, if_false]
        simp [Except.map]
theorem check_ok {p : List InsL} (h : (checkF p).2 = 0) : checkF p = (0, 0) ∧ p ≠ [] ∧ p.length ≤ 256 ∧ ∀ x ∈ p, standsF x p.length = true := by
  unfold checkF at h ⊢
  by_cases h1 : p.length = 0 ∨ 256 < p.length
  · rw [if_pos h1] at h; simp at h
  · rw [if_neg h1] at h ⊢
    cases hf : p.findIdx? (fun x => !standsF x p.length) with
    | some k => rw [hf] at h; simp at h
    | none =>
      refine ⟨rfl, fun e => h1 (.inl (by simp [e])), by omega, fun x hx => ?_⟩
      have := List.findIdx?_eq_none_iff.1 hf x hx
      simpa using this
theorem end_rows {c : UInt8} (p : List InsL) (h : (checkF p).2 = 0) (l : List LineL) (hl : l.map (fun z => (z.ins, z.lab)) = p.map (rawF c)) : endF ⟨labsF c p 0 p.length, l⟩ = (p, 0, 0) := by
  obtain ⟨hc, _, hlen, hst⟩ := check_ok h
  unfold endF
  simp only
  rw [fill_rows c p (by omega) p l (fun x hx => ⟨hx, hst x hx⟩) hl]
  simp only
  rw [hc]
  simp
/- the lines of a program with nothing behind it but notes -/
theorem asm_rows {c : UInt8} (hc : letR c) {p : List InsL} (h : (checkF p).2 = 0) (hw : ∀ x ∈ p, x.wf) (ex : List (List UInt8)) (hex : ∀ t ∈ ex, t = [] ∨ t.head? = some 59) {s : List UInt8} (hs : s.length ≤ 65536) (hpc : Pth.pcs 10 s = rowsF c p 0 p ++ ex) : asmF s = (p, 0, 0) := by
  obtain ⟨_, _, hlen, hst⟩ := check_ok h
  unfold asmF
  rw [if_neg (by omega), hpc, linesF_app]
  obtain ⟨l, h1, h2⟩ := lines_rows hc p p 0 0 ⟨[], []⟩ (fun x hx => ⟨hw x hx, hst x hx⟩) (by omega) (by omega) rfl (fun y hy => by cases hy)
  rw [h1]
  have hno : ∀ (ex : List (List UInt8)) (k : Nat) (s : SrcL), (∀ t ∈ ex, t = [] ∨ t.head? = some 59) → linesF ex k s = .ok s := by
    intro ex
    induction ex with
    | nil => intro k s _; rfl
    | cons t r ih =>
      intro k s ht
      rw [linesF, addF, if_pos (ht t List.mem_cons_self)]
      simp only
      exact ih _ _ fun y hy => ht y (List.mem_cons_of_mem _ hy)
  simp only
  rw [hno ex _ _ hex]
  simp only [List.nil_append]
  exact end_rows p h l h2
end Go.Proofs.YtaihgciokfkonaaDoor
