/- great of layer 11's statements. Condition: what the form's reach gives. -/
import Derived.Test.YtnbdjficoficcaaDoorVwBuild
import Derived.Test.YtnbdjficoficcaaDoorTrFrame
import Derived.IntWalk
import Derived.Test.YtnbdjficoficcaaDoorTxRow
import Derived.Laws.EntriesVeiled
namespace Go.Proofs.YtnbdjficoficcaaDoor
set_option linter.unusedVariables false
open Go.ChangeShapes Go.WideShapes Go.ChangeAt Go.RowKit
def grF : Nat → List FileL → Option Nat
  | n, [] => some n
  | n, f :: r => if 131072 < n + (f.1.length + f.2.length) then none else grF (n + (f.1.length + f.2.length)) r
def grM : Nat → List MntL → Option Nat
  | n, [] => some n
  | n, m :: r => match grF (n + (m.1.length + m.2.length)) m.2 with
    | none => none
    | some k => grM k r
def greatM (l : List MntL) : Bool := decide (40 < l.length) || (match grM 0 l with | none => true | some n => decide (131072 < n))
theorem grF_snoc {x : FileL} : ∀ (l : List FileL) (n k : Nat), grF n l = some k → grF n (l ++ [x]) = if 131072 < k + (x.1.length + x.2.length) then none else some (k + (x.1.length + x.2.length))
  | [], n, k, h => by cases h; rfl
  | f :: r, n, k, h => by
    rw [grF] at h
    by_cases h1 : 131072 < n + (f.1.length + f.2.length)
    · rw [if_pos h1] at h; cases h
    · rw [if_neg h1] at h
      rw [List.cons_append, grF, if_neg h1]
      exact grF_snoc r _ _ h
theorem grF_none {x : FileL} (r : List FileL) : ∀ (l : List FileL) (n k : Nat), grF n l = some k → 131072 < k + (x.1.length + x.2.length) → grF n (l ++ x :: r) = none
  | [], n, k, h, h2 => by cases h; rw [List.nil_append, grF, if_pos h2]
  | f :: q, n, k, h, h2 => by
    rw [grF] at h
    by_cases h1 : 131072 < n + (f.1.length + f.2.length)
    · rw [if_pos h1] at h; cases h
    · rw [if_neg h1] at h
      rw [List.cons_append, grF, if_neg h1]
      exact grF_none r q _ _ h h2
theorem grM_snoc {m : MntL} : ∀ (l : List MntL) (n k : Nat), grM n l = some k → grM n (l ++ [m]) = grF (k + (m.1.length + m.2.length)) m.2
  | [], n, k, h => by
    cases h
    rw [List.nil_append, grM]
    cases grF (n + (m.1.length + m.2.length)) m.2 <;> rfl
  | a :: r, n, k, h => by
    rw [grM] at h
    rw [List.cons_append, grM]
    cases hg : grF (n + (a.1.length + a.2.length)) a.2 with
    | none => rw [hg] at h; cases h
    | some j => rw [hg] at h; exact grM_snoc r _ _ h
theorem grM_none {m : MntL} (r : List MntL) : ∀ (l : List MntL) (n k : Nat), grM n l = some k → grF (k + (m.1.length + m.2.length)) m.2 = none → grM n (l ++ m :: r) = none
  | [], n, k, h, h2 => by cases h; rw [List.nil_append, grM, h2]
  | a :: q, n, k, h, h2 => by
    rw [grM] at h
    rw [List.cons_append, grM]
    cases hg : grF (n + (a.1.length + a.2.length)) a.2 with
    | none => rfl
    | some j => rw [hg] at h; exact grM_none r q _ _ h h2
theorem great_of_none {l : List MntL} (h : grM 0 l = none) : greatM l = true := by unfold greatM; rw [h]; simp
theorem great_of_many {l : List MntL} (h : 40 < l.length) : greatM l = true := by unfold greatM; rw [decide_eq_true h]; simp
theorem great_of_some {l : List MntL} {n : Nat} (h : grM 0 l = some n) (h2 : ¬ 40 < l.length) : greatM l = decide (131072 < n) := by unfold greatM; rw [h, decide_eq_false h2]; simp
theorem grF_le : ∀ (l : List FileL) (n k : Nat), grF n l = some k → n ≤ k ∧ (∀ x ∈ l, x.1.length + x.2.length ≤ 131072) ∧ (k ≤ 131072 ∨ k = n)
  | [], n, k, h => by cases h; exact ⟨Nat.le_refl _, (fun x hx => nomatch hx), .inr rfl⟩
  | f :: r, n, k, h => by
    rw [grF] at h
    by_cases h1 : 131072 < n + (f.1.length + f.2.length)
    · rw [if_pos h1] at h; cases h
    · rw [if_neg h1] at h
      obtain ⟨a, b, c⟩ := grF_le r _ _ h
      refine ⟨by omega, fun x hx => ?_, by omega⟩
      rcases List.mem_cons.1 hx with rfl | hx
      · omega
      · exact b x hx
theorem grM_le : ∀ (l : List MntL) (n k : Nat), grM n l = some k → n ≤ k ∧ ∀ m ∈ l, m.1.length + m.2.length ≤ k ∧ ∀ x ∈ m.2, x.1.length + x.2.length ≤ 131072
  | [], n, k, h => by cases h; exact ⟨Nat.le_refl _, fun x hx => nomatch hx⟩
  | a :: r, n, k, h => by
    rw [grM] at h
    cases hg : grF (n + (a.1.length + a.2.length)) a.2 with
    | none => rw [hg] at h; cases h
    | some j =>
      rw [hg] at h
      obtain ⟨h1, h2, -⟩ := grF_le _ _ _ hg
      obtain ⟨h3, h4⟩ := grM_le r _ _ h
      refine ⟨by omega, fun m hm => ?_⟩
      rcases List.mem_cons.1 hm with rfl | hm
      · exact ⟨by omega, h2⟩
      · exact h4 m hm
theorem great_small {l : List MntL} (h : greatM l = false) : l.length ≤ 40 ∧ ∀ m ∈ l, m.1.length ≤ 131072 ∧ m.2.length ≤ 131072 ∧ ∀ x ∈ m.2, x.1.length ≤ 131072 ∧ x.2.length ≤ 131072 := by
  unfold greatM at h
  rw [Bool.or_eq_false_iff] at h
  obtain ⟨h1, h2⟩ := h
  have h1 : ¬ 40 < l.length := of_decide_eq_false h1
  cases hg : grM 0 l with
  | none => rw [hg] at h2; cases h2
  | some n =>
    rw [hg] at h2
    have h2 : ¬ 131072 < n := of_decide_eq_false h2
    obtain ⟨-, h4⟩ := grM_le _ _ _ hg
    refine ⟨by omega, fun m hm => ?_⟩
    obtain ⟨h5, h6⟩ := h4 m hm
    exact ⟨by omega, by omega, fun x hx => by have := h6 x hx; omega⟩
def ReachM (l : List MntL) : Prop := l.length ≤ 140737488351232 ∧ ∀ m ∈ l, m.1.length ≤ 140737488351232 ∧ Reach m.2
set_option maxHeartbeats 4000000 in
set_option maxRecDepth 20000 in
theorem vgreat_many (l : List MntL) (h40 : 40 < l.length) (hr : l.length ≤ 140737488351232 ∧ ∀ m ∈ l, m.2.length ≤ 140737488351232) (S : Nat → Prop) (v : Value) (kb ko : Nat) (w : World) (hs : MntS w S v l kb ko) :
    Calls Tryd.prog 9 #[v] w (SayB true w) := by
  obtain ⟨⟨q, c, rfl, h1, h2, h3⟩, hat⟩ := hs
  have H3 := Lib.hid h3
  have Hat := Lib.hid hat
  obtain ⟨n, hn⟩ : ∃ n, n = l.length := ⟨_, rfl⟩
  rw [← hn] at h1 h40 hr ⊢
  have Hn := Lib.hid hn
  obtain ⟨hr1, hr2⟩ := hr
  have Hr2 := Lib.hid hr2
  unfold maxLen at h2
  clear hn h3 hat hr2
  go_enter Tryd.func9, Tryd.ntmps9
  go_wp2_with fail
  go_loopw [3, 10] (fun sv i wr => ∃ (k : Nat) (x : Int), k ≤ n ∧ sv = .int .i64 x ∧ i = .int .i64 k ∧ Chg NoB w wr) (fun _ i _ => n - (intOf i).toNat)
  case atStart => exact ⟨0, 0, Nat.zero_le _, rfl, rfl, Chg.refl _ _⟩
  case round =>
    obtain ⟨k, x, hk, rfl, rfl, hch⟩ := hrel
    have Hch := Lib.hid hch
    clear hch
    by_cases hlt : k < n
    · have hlt' : k < l.length := by rw [← Hn.out]; exact hlt
      obtain ⟨rfl, -⟩ := H3.out (by intro e; rw [e] at hlt'; simp at hlt')
      obtain ⟨hc0, q', n', c', jb, jo, hn', hc1, hsx⟩ := Hat.out k hlt'
      have c0 := Hch.out.keep hc0
      have c1 := Hch.out.keep hc1
      have hx2 := Hr2.out _ (List.getElem_mem hlt')
      obtain ⟨wo, rfl⟩ : ∃ wo, wo = wr := ⟨_, rfl⟩
      generalize l[k] = m at *
      obtain ⟨x1, x2⟩ := m
      simp only at c0 hn'
      change x2.length ≤ _ at hx2
      obtain ⟨⟨q2, c2, he, g1, g2, g3⟩, hat2⟩ := hsx
      rw [← hn'] at he g1 hx2
      cases he
      change x2 ≠ [] → _ at g3
      have G3 := Lib.hid g3
      have Hat2 := Lib.hid hat2
      have Hn' := Lib.hid hn'
      unfold maxLen at g2
      clear hn' hat2 g3 hc0 hc1 hlt'
      have hal_ := (Chg.refl NoB wo).alloc (.cells #[.string (tx x1), .slice q' n' c'] 35)
      have hb_ := heap_alloc_new wo (.cells #[.string (tx x1), .slice q' n' c'] 35)
      obtain ⟨mb, hxb_⟩ : ∃ b, b = wo.heap.size := ⟨_, rfl⟩
      obtain ⟨w3, hw_⟩ : ∃ w_, wo.alloc (.cells #[.string (tx x1), .slice q' n' c'] 35) = w_ := ⟨_, rfl⟩
      have hz_ : w3.heap.size = mb + 1 := by rw [← hw_, hxb_]; exact alloc_size _ _
      rw [hw_] at hal_ hb_
      rw [← hxb_] at hb_
      have Hw3 := Lib.hid hw_
      have Hx3 := Lib.hid hxb_
      have Ha3 := Lib.hid hal_
      have Hb3 := Lib.hid hb_
      have Hz3 := Lib.hid hz_
      clear hal_ hb_ hxb_ hw_ hz_
      have Hc3 := Lib.hid (Hch.out.trans Ha3.out)
      go_upto_region 5 with fail
      rw [Hw3.out, ← Hx3.out]
      clear c0 c1
      obtain ⟨f0, f1⟩ := var2 Hb3.out
      go_wp2_with fail
      go_loopw [3, 28] (fun sv i wr => ∃ (j : Nat) (x : Int), j ≤ n' ∧ sv = .int .i64 x ∧ i = .int .i64 j ∧ Chg NoB w wr) (fun _ i _ => n' - (intOf i).toNat)
      case atStart => exact ⟨0, _, Nat.zero_le _, rfl, rfl, Hc3.out⟩
      case round =>
        obtain ⟨j, y, hj, rfl, rfl, hch⟩ := hrel
        have Hch4 := Lib.hid hch
        clear hch
        by_cases hjl : j < n'
        · have hjl' : j < x2.length := by rw [← Hn'.out]; exact hjl
          obtain ⟨rfl, -⟩ := G3.out (by intro e; rw [e] at hjl'; simp at hjl')
          have d0 := Hch4.out.keep (Hat2.out j hjl').1
          have d1 := Hch4.out.keep (Hat2.out j hjl').2
          change _ = some (Value.string (tx x2[j].1)) at d0
          change _ = some (Value.string (tx x2[j].2)) at d1
          generalize x2[j] = f at *
          obtain ⟨y1, y2⟩ := f
          simp only at d0 d1
          have hal := (Chg.refl NoB wr).alloc (.cells #[.string (tx y1), .string (tx y2)] 47)
          obtain ⟨e0, e1⟩ := var2 (heap_alloc_new wr (.cells #[.string (tx y1), .string (tx y2)] 47))
          have Hal := Lib.hid (Hch4.out.trans hal)
          clear hal hjl' f0 f1
          go_wp2_with fail
          · go_ret
            exact ⟨rfl, Hal.out⟩
          · go_roundw
            case rel => exact ⟨j + 1, _, by omega, rfl, by go_num, Hal.out⟩
            case measure => simp [intOf]; omega
        · obtain rfl : j = n' := by omega
          clear hjl
          go_wp2_with fail
          go_roundw
          case rel => exact ⟨k + 1, y, by omega, rfl, by go_num, Hch4.out⟩
          case measure => simp [intOf]; omega
    · obtain rfl : k = n := by omega
      go_wp2_with fail
      go_ret
      exact ⟨rfl, Hch.out⟩
set_option maxHeartbeats 4000000 in
set_option maxRecDepth 20000 in
theorem vgreat_few (l : List MntL) (h40 : ¬ 40 < l.length) (hr : ReachM l) (S : Nat → Prop) (v : Value) (kb ko : Nat) (w : World) (hs : MntS w S v l kb ko) :
    Calls Tryd.prog 9 #[v] w (SayB (greatM l) w) := by
  obtain ⟨⟨q, c, rfl, h1, h2, h3⟩, hat⟩ := hs
  have H3 := Lib.hid h3
  have Hat := Lib.hid hat
  obtain ⟨r, hrr⟩ : ∃ r, r = greatM l := ⟨_, rfl⟩
  rw [← hrr]
  have Hrr := Lib.hid hrr
  have H40 := Lib.hid h40
  obtain ⟨n, hn⟩ : ∃ n, n = l.length := ⟨_, rfl⟩
  obtain ⟨hr1, hr2⟩ := hr
  rw [← hn] at h1 h40 hr1 ⊢
  have Hn := Lib.hid hn
  have Hr2 := Lib.hid hr2
  unfold maxLen at h2
  clear hn h3 hat hr2 hrr
  go_enter Tryd.func9, Tryd.ntmps9
  go_wp2_with fail
  go_loopw [3, 10] (fun sv i wr => ∃ (k x : Nat), k ≤ n ∧ grM 0 (l.take k) = some x ∧ x ≤ 131072 + k * 281474976710656 ∧ sv = .int .i64 x ∧ i = .int .i64 k ∧ Chg NoB w wr) (fun _ i _ => n - (intOf i).toNat)
  case atStart => exact ⟨0, 0, Nat.zero_le _, by rw [List.take_zero]; rfl, by omega, rfl, rfl, Chg.refl _ _⟩
  case round =>
    obtain ⟨k, x, hk, hgx, hxb, rfl, rfl, hch⟩ := hrel
    have Hch := Lib.hid hch
    have Hgx := Lib.hid hgx
    clear hch hgx
    by_cases hlt : k < n
    · have hlt' : k < l.length := by rw [← Hn.out]; exact hlt
      obtain ⟨rfl, -⟩ := H3.out (by intro e; rw [e] at hlt'; simp at hlt')
      obtain ⟨hc0, q', n', c', jb, jo, hn', hc1, hsx⟩ := Hat.out k hlt'
      have c0 := Hch.out.keep hc0
      have c1 := Hch.out.keep hc1
      obtain ⟨hx1, hx2, hx3⟩ := Hr2.out _ (List.getElem_mem hlt')
      have Hsn := Lib.hid (show grM 0 (l.take (k + 1)) = grF (x + (l[k].1.length + l[k].2.length)) l[k].2 by rw [take_at hlt']; exact grM_snoc _ _ _ Hgx.out)
      have Hno := Lib.hid (show grF (x + (l[k].1.length + l[k].2.length)) l[k].2 = none → r = true from fun h => by rw [Hrr.out]; exact great_of_none (by have := grM_none (l.drop (k + 1)) _ _ _ Hgx.out h; rwa [← drop_at hlt'] at this))
      obtain ⟨wo, rfl⟩ : ∃ wo, wo = wr := ⟨_, rfl⟩
      generalize l[k] = m at *
      obtain ⟨x1, x2⟩ := m
      simp only at c0 hn'
      change x1.length ≤ _ at hx1
      change x2.length ≤ _ at hx2
      obtain ⟨⟨q2, c2, he, g1, g2, g3⟩, hat2⟩ := hsx
      rw [← hn'] at he g1 hx2
      cases he
      change x2 ≠ [] → _ at g3
      change Hid (_ = grF (x + (x1.length + x2.length)) x2) at Hsn
      change Hid (grF (x + (x1.length + x2.length)) x2 = none → _) at Hno
      change ∀ i (hi : i < x2.length), x2[i].1.length ≤ _ ∧ x2[i].2.length ≤ _ at hx3
      rw [← hn'] at Hsn Hno
      have G3 := Lib.hid g3
      have Hat2 := Lib.hid hat2
      have Hn' := Lib.hid hn'
      have Hx3 := Lib.hid hx3
      unfold maxLen at g2
      obtain ⟨xl, hxl⟩ : ∃ n, n = x1.length := ⟨_, rfl⟩
      have hsx : (tx x1).size = xl := by rw [tx_size, hxl]
      rw [← hxl] at hx1 Hsn Hno
      clear hn' hat2 g3 hc0 hc1 hlt' hx3 hxl
      have hal_ := (Chg.refl NoB wo).alloc (.cells #[.string (tx x1), .slice q' n' c'] 35)
      have hb_ := heap_alloc_new wo (.cells #[.string (tx x1), .slice q' n' c'] 35)
      obtain ⟨mb, hxb_⟩ : ∃ b, b = wo.heap.size := ⟨_, rfl⟩
      obtain ⟨w3, hw_⟩ : ∃ w_, wo.alloc (.cells #[.string (tx x1), .slice q' n' c'] 35) = w_ := ⟨_, rfl⟩
      have hz_ : w3.heap.size = mb + 1 := by rw [← hw_, hxb_]; exact alloc_size _ _
      rw [hw_] at hal_ hb_
      rw [← hxb_] at hb_
      have Hw3b := Lib.hid hw_
      have Hx3b := Lib.hid hxb_
      have Ha3b := Lib.hid hal_
      have Hb3b := Lib.hid hb_
      have Hz3b := Lib.hid hz_
      clear hal_ hb_ hxb_ hw_ hz_
      have Hc3 := Lib.hid (Hch.out.trans Ha3b.out)
      go_upto_region 5 with fail
      rw [Hw3b.out, ← Hx3b.out]
      clear c0 c1
      obtain ⟨f0, f1⟩ := var2 Hb3b.out
      go_wp2_with fail
      clear hsx
      go_loopw [3, 28] (fun sv i wr => ∃ (j y : Nat), j ≤ n' ∧ grF (x + (xl + n')) (x2.take j) = some y ∧ y ≤ 131072 + (k + 1) * 281474976710656 ∧ sv = .int .i64 y ∧ i = .int .i64 j ∧ Chg NoB w wr) (fun _ i _ => n' - (intOf i).toNat)
      case atStart => exact ⟨0, x + (xl + n'), Nat.zero_le _, by rw [List.take_zero]; rfl, by omega, by go_num, rfl, Hc3.out⟩
      case round =>
        obtain ⟨j, y, hj, hgy, hyb, rfl, rfl, hch⟩ := hrel
        have Hch4 := Lib.hid hch
        have Hgy := Lib.hid hgy
        clear hch hgy
        by_cases hjl : j < n'
        · have hjl' : j < x2.length := by rw [← Hn'.out]; exact hjl
          obtain ⟨rfl, -⟩ := G3.out (by intro e; rw [e] at hjl'; simp at hjl')
          have d0 := Hch4.out.keep (Hat2.out j hjl').1
          have d1 := Hch4.out.keep (Hat2.out j hjl').2
          change _ = some (Value.string (tx x2[j].1)) at d0
          change _ = some (Value.string (tx x2[j].2)) at d1
          obtain ⟨hy1, hy2⟩ := Hx3.out j hjl'
          have Hs2 := Lib.hid (show grF (x + (xl + n')) (x2.take (j + 1)) = if 131072 < y + (x2[j].1.length + x2[j].2.length) then none else some (y + (x2[j].1.length + x2[j].2.length)) by rw [take_at hjl']; exact grF_snoc _ _ _ Hgy.out)
          have Hn2 := Lib.hid (show 131072 < y + (x2[j].1.length + x2[j].2.length) → grF (x + (xl + n')) x2 = none from fun h => by have := grF_none (x2.drop (j + 1)) _ _ _ Hgy.out h; rwa [← drop_at hjl'] at this)
          generalize x2[j] = f at *
          obtain ⟨y1, y2⟩ := f
          simp only at d0 d1 hy1 hy2
          change Hid (_ = if 131072 < y + (y1.length + y2.length) then none else some (y + (y1.length + y2.length))) at Hs2
          change Hid (131072 < y + (y1.length + y2.length) → _) at Hn2
          obtain ⟨yl, hyl⟩ : ∃ n, n = y1.length := ⟨_, rfl⟩
          obtain ⟨zl, hzl⟩ : ∃ n, n = y2.length := ⟨_, rfl⟩
          have hsy : (tx y1).size = yl := by rw [tx_size, hyl]
          have hsz : (tx y2).size = zl := by rw [tx_size, hzl]
          rw [← hyl] at hy1
          rw [← hzl] at hy2
          rw [← hyl, ← hzl] at Hs2 Hn2
          have hal := (Chg.refl NoB wr).alloc (.cells #[.string (tx y1), .string (tx y2)] 47)
          obtain ⟨e0, e1⟩ := var2 (heap_alloc_new wr (.cells #[.string (tx y1), .string (tx y2)] 47))
          have Hal := Lib.hid (Hch4.out.trans hal)
          clear hal hjl' f0 f1 hyl hzl
          by_cases hbig : 131072 < y + (yl + zl)
          · go_wp2_with fail
            go_ret
            exact ⟨congrArg (fun b => Ending.returned (Value.bool b)) (Hno.out (Hn2.out hbig)).symm, Hal.out⟩
          · go_wp2_with fail
            go_roundw
            case rel => exact ⟨j + 1, y + (yl + zl), by omega, by rw [Hs2.out, if_neg hbig], by omega, by go_num, by go_num, Hal.out⟩
            case measure => simp [intOf]; omega
        · obtain rfl : j = n' := by omega
          clear hjl
          go_wp2_with fail
          go_roundw
          case rel => exact ⟨k + 1, y, by omega, by rw [Hsn.out]; have h := Hgy.out; rwa [Hn'.out, List.take_of_length_le (Nat.le_refl _), ← Hn'.out] at h, by omega, rfl, by go_num, Hch4.out⟩
          case measure => simp [intOf]; omega
    · obtain rfl : k = n := by omega
      have hg : greatM l = decide (131072 < x) := great_of_some (by have h := Hgx.out; rwa [Hn.out, List.take_of_length_le (Nat.le_refl _)] at h) H40.out
      rw [← Hrr.out] at hg
      have Hg := Lib.hid hg
      clear hg
      go_wp2_with fail
      go_ret
      exact ⟨congrArg (fun b => Ending.returned (Value.bool b)) (by rw [Hg.out, Bool.eq_iff_iff]; simp; omega), Hch.out⟩
theorem vgreat_any (l : List MntL) (hr : ReachM l) (S : Nat → Prop) (v : Value) (kb ko : Nat) (w : World) (hs : MntS w S v l kb ko) :
    Calls Tryd.prog 9 #[v] w (SayB (greatM l) w) := by
  by_cases h : 40 < l.length
  · rw [great_of_many h]; exact vgreat_many l h ⟨hr.1, fun m hm => (hr.2 m hm).2.1⟩ S v kb ko w hs
  · exact vgreat_few l h hr S v kb ko w hs
end Go.Proofs.YtnbdjficoficcaaDoor
namespace Go.Proofs.YtnbdjficoficcaaDoor
set_option linter.unusedVariables false
open Go.ChangeShapes Go.WideShapes Go.ChangeAt Go.RowKit
def txV (ts : List (List UInt8)) : List Value := ts.map fun t => .string (tx t)
theorem txV_len (ts : List (List UInt8)) : (txV ts).length = ts.length := by simp [txV]
theorem txV_at {ts : List (List UInt8)} {i : Nat} (h : i < ts.length) : (txV ts)[i]? = some (.string (tx ts[i])) := by simp [txV, List.getElem?_eq_getElem h]
theorem txV_one (ts : List (List UInt8)) : ∀ u ∈ txV ts, u.oneCell' = true := by
  intro u hu
  obtain ⟨t, _, rfl⟩ := List.mem_map.1 hu
  rfl
theorem txV_snoc (ts : List (List UInt8)) (t : List UInt8) : txV (ts ++ [t]) = txV ts ++ [.string (tx t)] := by simp [txV]
structure TxtS (w : World) (S : Nat → Prop) (v : Value) (ts : List (List UInt8)) (kb ko : Nat) : Prop where
  sh : ∃ q c, v = .slice q ts.length c ∧ ts.length ≤ c ∧ c ≤ maxLen ∧ (ts ≠ [] → q = some ⟨kb, ko, none⟩ ∧ S kb)
  at' : ∀ i (hi : i < ts.length), w.cell? ⟨kb, ko + i, none⟩ = some (.string (tx ts[i]))
theorem TxtS.keep {w w' : World} {S T : Nat → Prop} (hc : Chg T w w') (hST : ∀ k, S k → ¬ T k) {v : Value} {xs : List (List UInt8)} {kb ko : Nat} (h : TxtS w S v xs kb ko) : TxtS w' S v xs kb ko := by
  obtain ⟨hsh, hat⟩ := h
  refine ⟨hsh, fun i hi => ?_⟩
  obtain ⟨q, c, _, _, _, hq⟩ := hsh
  have hne : xs ≠ [] := by rintro rfl; simp at hi
  exact hc.cell (hat i hi) (hST kb (hq hne).2)
theorem TxtS.mono {w : World} {S T : Nat → Prop} (hST : ∀ k, S k → T k) {v : Value} {xs : List (List UInt8)} {kb ko : Nat} (h : TxtS w S v xs kb ko) : TxtS w T v xs kb ko := by
  obtain ⟨⟨q, c, h1, h2, h3, h4⟩, hat⟩ := h
  exact ⟨⟨q, c, h1, h2, h3, fun hn => ⟨(h4 hn).1, hST _ (h4 hn).2⟩⟩, hat⟩
theorem TxtS.nil (w : World) (S : Nat → Prop) : TxtS w S (.slice none 0 0) [] 0 0 := ⟨⟨none, 0, rfl, Nat.le_refl _, Nat.zero_le _, fun h => absurd rfl h⟩, fun i hi => by simp at hi⟩
theorem TxtS.of_row {w : World} {lo : Nat} {v : Value} {ts : List (List UInt8)} (h : w.ownsRow lo 9 1 v ts.length (txV ts)) : ∃ kb, TxtS w (fun k => lo ≤ k ∧ k < w.heap.size) v ts kb 0 := by
  have hlt := World.ownsRow.lt h
  have hcl := fun g hg => World.ownsRow.cells (g := g) h hg
  rcases h.2 with ⟨rfl, h0⟩ | ⟨g, cap, cur, rfl, hb, hh, h3, h4, _⟩
  · have : ts = [] := List.eq_nil_of_length_eq_zero h0
    subst this
    exact ⟨0, TxtS.nil _ _⟩
  · refine ⟨g, ⟨⟨_, cap, rfl, h3, h4, fun _ => ⟨rfl, hlt g rfl⟩⟩, fun i hi => ?_⟩⟩
    have := hcl g rfl i _ (txV_at hi)
    rw [add_zero_off] at this
    have e : (⟨g, 0 + i, none⟩ : Addr) = ⟨g, i, none⟩ := by rw [Nat.zero_add]
    rw [e]; exact this
theorem TxtS.news {w : World} {S : Nat → Prop} {q : Option Addr} {n c : Nat} {l : List (List UInt8)} {kb ko : Nat} (h : TxtS w S (.slice q n c) l kb ko) : (∃ a, q = some a ∧ ∀ j u, (txV l)[j]? = some u → w.cell? (a.add j) = some u) ∨ (q = none ∧ l = []) := by
  obtain ⟨⟨q', c', e', h1, h2, h3⟩, hat⟩ := h
  cases e'
  cases q with
  | none =>
    right
    by_cases h : l = []
    · exact ⟨rfl, h⟩
    · obtain ⟨h, -⟩ := h3 h; cases h
  | some a =>
    left
    refine ⟨a, rfl, fun j u hj => ?_⟩
    have hlt : j < l.length := by have := (List.getElem?_eq_some_iff.1 hj).1; rwa [txV_len] at this
    have hne : l ≠ [] := by rintro rfl; simp at hlt
    obtain ⟨ha, -⟩ := h3 hne
    cases ha
    rw [txV_at hlt] at hj
    cases hj
    rw [Go.WideShapes.add_plain]
    exact hat j hlt
def CloneT (l : List (List UInt8)) (w : World) (e : Ending) (w' : World) : Prop := Chg NoB w w' ∧ ∃ v', e = .returned v' ∧ w'.ownsRow w.heap.size 9 1 v' l.length (txV l)
set_option maxHeartbeats 1000000 in
set_option maxRecDepth 20000 in
theorem cloneT_any (l : List (List UInt8)) (S : Nat → Prop) (v : Value) (kb ko : Nat) (w : World) (hl : l.length ≤ 1048576) (hs : TxtS w S v l kb ko) : Calls Tryd.prog 31 #[v] w (CloneT l w) := by
  have hs0 := hs
  obtain ⟨⟨q, c, rfl, h1, h2, h3⟩, hat⟩ := hs
  have hnews := hs0.news
  obtain ⟨n, hn⟩ : ∃ n, n = l.length := ⟨_, rfl⟩
  rw [← hn] at h1 hl ⊢
  have Hn := Lib.hid hn
  rcases hnews with ⟨a, rfl, hnews⟩ | ⟨rfl, rfl⟩
  · have hal := (Chg.refl NoB w).alloc (.cells #[] 9)
    have hb := heap_alloc_new w (.cells #[] 9)
    have hnews : ∀ j u, (txV l)[j]? = some u → (w.alloc (.cells #[] 9)).cell? (a.add j) = some u := fun j u hj => hal.keep (hnews j u hj)
    have hrow0 : (w.alloc (.cells #[] 9)).ownsRow w.heap.size 9 1 (.slice (some ⟨w.heap.size, 0, none⟩) 0 0) 0 [] := ⟨rfl, .inr ⟨_, 0, #[], rfl, Nat.le_refl _, hb, Nat.le_refl _, Nat.zero_le _, rfl, rfl⟩⟩
    obtain ⟨i0, hi, hz0, hz1, hz2⟩ := info_parts stringInfo
    have Hrow0 := Lib.hid hrow0
    have Hnews := Lib.hid hnews
    have Hal := Lib.hid hal
    have Hi := Lib.hid hi
    have Hz0 := Lib.hid hz0
    have Hz1 := Lib.hid hz1
    have Hz2 := Lib.hid hz2
    have Hlen : Hid ((txV l).length = n * 1) := Lib.hid (by rw [txV_len, hn]; omega)
    have M1 := Lib.hid (show 0 + n ≤ maxLen by unfold maxLen; omega)
    have M2 := Lib.hid (show (0 + n) * 16 ≤ 140737488355328 by omega)
    have Hb0 := Lib.hid (show w.heap.size ≤ (w.alloc (.cells #[] 9)).heap.size from hal.size)
    have hq := fun (w : World) => Lib.run_eql_slice_nil (P := Tryd.prog) w 33 9 (some a) n c 0 0 Tryd.underlying33
    unfold maxLen at h2
    clear hal hb hnews hrow0 hi hz0 hz1 hz2 h3 hat hn hs0
    go_enter Tryd.func31, Tryd.ntmps31
    go_wp2_with (at_builtin; refine wpList_append_at _ rfl _ _ 33 rfl w.heap.size 9 i0 (.string ⟨#[]⟩) 1 16 Tryd.underlying33 Hi.out Hz0.out Hz1.out Hz2.out rfl (by decide) _ 0 [] rfl Hrow0.out a n c (txV l) rfl Hlen.out Hnews.out (txV_one l) M1.out M2.out Hb0.out ?_)
    intro v9 w9 hown9 hgr9 hpl9
    have hown : w9.ownsRow w.heap.size 9 1 v9 n (txV l) := by simpa using hown9
    have hch : Chg NoB w w9 := Hal.out.grown hgr9 fun j hj => .inr (by cases hj; exact Nat.le_refl _)
    have Hown := Lib.hid hown
    have Hch := Lib.hid hch
    clear hown9 hgr9 hpl9 hown hch
    go_wp2_with fail
    go_ret
    exact ⟨Hch.out, v9, rfl, by rw [← Hn.out]; exact Hown.out⟩
  · obtain rfl : n = 0 := hn
    have hq := fun (w : World) => Lib.run_eql_slice_nil (P := Tryd.prog) w 33 9 none 0 c 0 0 Tryd.underlying33
    clear hs0 hat h3
    go_enter Tryd.func31, Tryd.ntmps31
    go_wp2_with fail
    go_ret
    exact ⟨Chg.refl _ _, _, rfl, World.ownsRow_nil _ _ _ _⟩
def FoundT (p : List UInt8 → Bool) (ts : List (List UInt8)) (w : World) (e : Ending) (w' : World) : Prop := (∃ i : Int, e = .returned (.int .i64 i) ∧ decide (0 ≤ i) = ts.any p) ∧ Chg NoB w w'
set_option maxHeartbeats 1000000 in
theorem indexT_any (g : Nat) (lb : Array Value) (eg : ∀ args w, (callFunc g args).run Tryd.prog w = .ok (.enter g args) w) (p : List UInt8 → Bool) (ts : List (List UInt8)) (S : Nat → Prop) (v : Value) (kb ko : Nat) (w : World) (hl : ts.length ≤ 1048576) (hs : TxtS w S v ts kb ko)
    (hp : ∀ t ∈ ts, ∀ W, Chg NoB w W → Calls Tryd.prog g (#[.string (tx t)] ++ lb) W (SayB (p t) W)) :
    Calls Tryd.prog 53 #[v, .func (.func g) #[] lb] w (FoundT p ts w) := by
  have Hs := Lib.hid hs
  obtain ⟨⟨q, c, rfl, h1, h2, h3⟩, -⟩ := hs
  have H3 := Lib.hid h3
  obtain ⟨n, hn⟩ : ∃ n, n = ts.length := ⟨_, rfl⟩
  rw [← hn] at h1 hl Hs ⊢
  have Hn := Lib.hid hn
  have Hp := Lib.hid hp
  unfold maxLen at h2
  clear hn h3 hp
  go_enter Tryd.func53, Tryd.ntmps53
  go_wp2_with fail
  go_loopw [8] (fun i wr => ∃ k : Nat, k ≤ n ∧ i = .int .i64 k ∧ (ts.take k).any p = false ∧ Chg NoB w wr) (fun i _ => n - (intOf i).toNat)
  case atStart => exact ⟨0, Nat.zero_le _, rfl, by rw [List.take_zero]; rfl, Chg.refl _ _⟩
  case round =>
    obtain ⟨k, hk, rfl, han, hch⟩ := hrel
    have Han := Lib.hid han
    have Hch := Lib.hid hch
    clear han hch
    by_cases hlt : k < n
    · have hlt' : k < ts.length := by rw [← Hn.out]; exact hlt
      obtain ⟨rfl, -⟩ := H3.out (by intro e; rw [e] at hlt'; simp at hlt')
      have c0 := Hch.out.keep (Hs.out.at' k hlt')
      have Hpk := Lib.hid (Hp.out _ (List.getElem_mem hlt') wr Hch.out)
      have Hnx := Lib.hid (show (ts.take (k + 1)).any p = (p ts[k]) by rw [take_at hlt', List.any_append, Han.out]; simp)
      have Hay := Lib.hid (show p ts[k] = true → ts.any p = true from fun h => List.any_eq_true.2 ⟨_, List.getElem_mem hlt', h⟩)
      generalize ts[k] = t at *
      clear hlt'
      obtain ⟨b, hb⟩ : ∃ b, b = p t := ⟨_, rfl⟩
      rw [← hb] at Hpk Hnx Hay
      clear hb
      go_wp2_with fail
      refine Hpk.out.mono ?_
      rintro e w2 ⟨rfl, hc2⟩
      have Hc2 := Lib.hid (Hch.out.trans hc2)
      clear hc2 c0
      cases b with
      | true =>
        go_wp2_with fail
        go_ret
        exact ⟨⟨k, rfl, by rw [Hay.out (by first | rfl | trivial)]; simp⟩, Hc2.out⟩
      | false =>
        go_wp2_with fail
        go_roundw
        case rel => exact ⟨k + 1, by omega, by go_num, Hnx.out, Hc2.out⟩
        case measure => simp [intOf]; omega
    · obtain rfl : k = n := by omega
      go_wp2_with fail
      go_ret
      exact ⟨⟨-1, rfl, by have h := Han.out; rw [Hn.out, List.take_of_length_le (Nat.le_refl _)] at h; rw [h]; rfl⟩, Hch.out⟩
theorem containsT_any (g : Nat) (lb : Array Value) (eg : ∀ args w, (callFunc g args).run Tryd.prog w = .ok (.enter g args) w) (p : List UInt8 → Bool) (ts : List (List UInt8)) (S : Nat → Prop) (v : Value) (kb ko : Nat) (w : World) (hl : ts.length ≤ 1048576) (hs : TxtS w S v ts kb ko)
    (hp : ∀ t ∈ ts, ∀ W, Chg NoB w W → Calls Tryd.prog g (#[.string (tx t)] ++ lb) W (SayB (p t) W)) :
    Calls Tryd.prog 33 #[v, .func (.func g) #[] lb] w (SayB (ts.any p) w) := by
  have HI := Lib.hid (indexT_any g lb eg p ts S v kb ko w hl hs hp)
  obtain ⟨q, c, rfl, -⟩ := hs.sh
  obtain ⟨r, hr⟩ : ∃ r, r = ts.any p := ⟨_, rfl⟩
  rw [← hr]
  have Hr := Lib.hid hr
  clear hs hp hr
  go_enter Tryd.func33, Tryd.ntmps33
  go_wp2_with fail
  refine HI.out.mono ?_
  rintro e w2 ⟨⟨i, rfl, hi⟩, hc2⟩
  rw [← Hr.out] at hi
  have Hc2 := Lib.hid hc2
  clear hc2
  go_wp2_with fail
  go_ret
  exact ⟨rfl, Hc2.out⟩
theorem inside_any (d p : List UInt8) (fb : Nat) (w : World) (hd : d.length ≤ 262144) (hp : p.length ≤ 262144) (hm : Pth.Ml w) (hf : w.cell? ⟨fb, 0, none⟩ = some (.string (tx p))) :
    Calls Tryd.prog 34 #[.string (tx d), .pointer (some ⟨fb, 0, none⟩)] w (SayB (undL d p).2 w) := by
  have H := Lib.hid (vunder_any d p w hd hp hm)
  generalize (undL d p).2 = q at *
  generalize tx d = a at *
  generalize tx p = b at *
  go_enter Tryd.func34, Tryd.ntmps34
  go_wp2_with fail
  refine H.out.mono ?_
  rintro e w1 ⟨rfl, g⟩
  go_wp2_with fail
  go_ret
  exact ⟨rfl, g⟩
def OutsP (l : List FileL) (ds : List (List UInt8)) (w : World) (e : Ending) (w' : World) : Prop := Chg NoB w w' ∧ ∃ (fb pb : Nat) (fv pv : Value) (nb mb : Nat), e = .returned (.func (.func 32) #[] #[.pointer (some ⟨fb, 0, none⟩), .pointer (some ⟨pb, 0, none⟩)]) ∧
  w.heap.size ≤ fb ∧ w.heap.size ≤ pb ∧ w'.cell? ⟨fb, 0, none⟩ = some fv ∧ w'.cell? ⟨pb, 0, none⟩ = some pv ∧ InpS w' (NewB w w') fv l nb 0 ∧ TxtS w' (NewB w w') pv ds mb 0
set_option maxHeartbeats 1000000 in
set_option maxRecDepth 20000 in
theorem outside_new (l : List FileL) (hl : l.length ≤ 1048576) (ds : List (List UInt8)) (hd : ds.length ≤ 1048576) (S : Nat → Prop) (v : Value) (kb ko : Nat) (S2 : Nat → Prop) (v2 : Value) (jb jo : Nat) (w : World) (hs : InpS w S v l kb ko) (hs2 : TxtS w S2 v2 ds jb jo) :
    Calls Tryd.prog 15 #[.agg #[v], v2] w (OutsP l ds w) := by
  have Hs := Lib.hid hs
  have Hs2 := Lib.hid hs2
  obtain ⟨⟨q, c, rfl, -, -, -⟩, -⟩ := hs
  obtain ⟨⟨q2, c2, rfl, -, -, -⟩, -⟩ := hs2
  obtain ⟨n, hn⟩ : ∃ n, n = l.length := ⟨_, rfl⟩
  rw [← hn] at Hs hl ⊢
  have Hn := Lib.hid hn
  obtain ⟨n2, hn2⟩ : ∃ n, n = ds.length := ⟨_, rfl⟩
  rw [← hn2] at Hs2 hd ⊢
  have Hn2 := Lib.hid hn2
  have hal_ := (Chg.refl NoB w).alloc (.cells #[.slice q n c] 27)
  have hb_ := heap_alloc_new w (.cells #[.slice q n c] 27)
  obtain ⟨tb, hxb_⟩ : ∃ b, b = w.heap.size := ⟨_, rfl⟩
  obtain ⟨w1, hw_⟩ : ∃ w_, w.alloc (.cells #[.slice q n c] 27) = w_ := ⟨_, rfl⟩
  have hz_ : w1.heap.size = tb + 1 := by rw [← hw_, hxb_]; exact alloc_size _ _
  rw [hw_] at hal_ hb_
  rw [← hxb_] at hb_
  have Hw1 := Lib.hid hw_
  have Hx1 := Lib.hid hxb_
  have Ha1 := Lib.hid hal_
  have Hb1 := Lib.hid hb_
  have Hz1 := Lib.hid hz_
  clear hal_ hb_ hxb_ hw_ hz_
  have Hcl := Lib.hid (clone_any l S _ kb ko w1 (by rw [← hn]; exact hl) (Hs.out.keep Ha1.out fun _ _ => id))
  have Hct := Lib.hid (fun w' (h : Chg NoB w1 w') => cloneT_any ds S2 _ jb jo w' (by rw [← hn2]; exact hd) (Hs2.out.keep (Ha1.out.trans h) fun _ _ => id))
  have f0 := var1 Hb1.out
  clear hn hn2
  go_enter Tryd.func15, Tryd.ntmps15
  go_upto_region 1 with fail
  rw [Hw1.out, ← Hx1.out]
  go_wp2_with fail
  refine Hcl.out.mono ?_
  rintro e w2 ⟨hc2, v2, rfl, hrow2⟩
  obtain ⟨vq, vc, hv2, -, -⟩ := row_shape hrow2
  obtain ⟨nb, hns⟩ := InpS.of_row hrow2
  rw [← Hn.out] at hv2
  subst hv2
  have Hc2 := Lib.hid hc2
  have Hns := Lib.hid hns
  clear f0 hc2 hrow2 hns Hcl
  go_wp2_with fail
  refine (Hct.out _ Hc2.out).mono ?_
  rintro e w3 ⟨hc3, v3, rfl, hrow3⟩
  obtain ⟨uq, uc, hv3, -, -⟩ := row_shape hrow3
  obtain ⟨mb, hms⟩ := TxtS.of_row hrow3
  rw [← Hn2.out] at hv3
  subst hv3
  have Hc3 := Lib.hid hc3
  have Hms := Lib.hid hms
  clear hc3 hrow3 hms Hct
  go_wp2_with fail
  have a1 := (Chg.refl NoB w3).alloc (.cells #[.slice vq n vc] 25)
  have b1 := heap_alloc_new w3 (.cells #[.slice vq n vc] 25)
  have z1 := aSize w3 (.cells #[.slice vq n vc] 25)
  generalize w3.alloc (.cells #[.slice vq n vc] 25) = w4 at *
  have a2 := (Chg.refl NoB w4).alloc (.cells #[.slice uq n2 uc] 33)
  have b2 := heap_alloc_new w4 (.cells #[.slice uq n2 uc] 33)
  have z2 := aSize w4 (.cells #[.slice uq n2 uc] 33)
  generalize w4.alloc (.cells #[.slice uq n2 uc] 33) = w5 at *
  go_ret
  have s1 := Ha1.out.size
  have s2 := Hc2.out.size
  have s3 := Hc3.out.size
  have ch := a1.trans a2
  rw [z1] at b2
  refine ⟨Ha1.out.trans (Hc2.out.trans (Hc3.out.trans ch)), w3.heap.size, w3.heap.size + 1, _, _, nb, mb, rfl, by omega, by omega, a2.keep (var1 b1), var1 b2,
    (Hns.out.keep (Hc3.out.trans ch) fun _ _ => id).mono fun y hy => ?_, (Hms.out.keep ch fun _ _ => id).mono fun y hy => ?_⟩
  · exact ⟨by have := hy.1; omega, by have := hy.2; omega⟩
  · exact ⟨by have := hy.1; omega, by have := hy.2; omega⟩
end Go.Proofs.YtnbdjficoficcaaDoor
namespace Go.Proofs.YtnbdjficoficcaaDoor
set_option linter.unusedVariables false
open Go.ChangeShapes Go.WideShapes Go.ChangeAt Go.RowKit
theorem vfunc_ne (w1 : World) (a b : Nat) : (Sem.run Tryd.prog (binOp BinOp.eql 38 (Value.func (Fn.func 32) #[] #[Value.pointer (some { block := a, off := 0 }), Value.pointer (some { block := b, off := 0 })]) Value.nilFunc) w1) = .ok (.bool false) w1 := by
  unfold binOp Op.equal
  obtain ⟨d, hd⟩ : ∃ d, Op.maxDepth = d + 1 := ⟨_, rfl⟩
  rw [hd]
  clear hd
  simp only [Op.equalIn, Sem.run_bind, run_underlying Tryd.underlying38, Result.andThen_ok, Sem.run_pure]
def kA : List UInt8 := [105, 110, 47, 108, 105, 98]
def kB : List UInt8 := [105, 110, 47, 116, 111, 111, 108]
def mA : List MntL := [(kA, [([97], [120])]), (kB, [([98], [121])])]
def mB : List MntL := [([105, 110], []), (kA, [])]
def oA : List FileL := [([105, 110, 47, 108, 105, 98, 47, 97], [120]), ([105, 110, 47, 116, 111, 111, 108, 47, 98], [121])]
theorem mA_build : buildF mA = .ok oA := by kernel_rfl
theorem mB_build : buildF mB = .error 12 := by kernel_rfl
theorem mA_w : ∀ m ∈ mA, m.1.length ≤ 262144 ∧ m.2.length ≤ 1048576 ∧ ∀ x ∈ m.2, x.1.length ≤ 1048576 ∧ x.2.length ≤ 1048576 := by decide
theorem mB_w : ∀ m ∈ mB, m.1.length ≤ 262144 ∧ m.2.length ≤ 1048576 ∧ ∀ x ∈ m.2, x.1.length ≤ 1048576 ∧ x.2.length ≤ 1048576 := by decide
theorem inpS_one' {w : World} {b : Nat} {x y : List UInt8} {f : Nat × Nat} {S : Nat → Prop} (h : w.heap[b]? = some (.cells #[.string (tx x), .string (tx y)] 47 f)) (hb : S b) : InpS w S (.slice (some ⟨b, 0, none⟩) 1 1) [(x, y)] b 0 := by
  have c := fun i => cell_of_row w b i _ _ f h
  refine ⟨⟨_, 1, rfl, Nat.le_refl _, by decide, fun _ => ⟨rfl, hb⟩⟩, fun i hi => ?_⟩
  match i, hi with
  | 0, _ => exact ⟨by rw [c]; rfl, by rw [c]; rfl⟩
theorem mntS_two {w : World} {b : Nat} {S : Nat → Prop} {x y : List UInt8} {s t : List FileL} {q r : Option Addr} {n m c d sb so tb tz : Nat} (h : w.heap[b]? = some (.cells #[.string (tx x), .slice q n c, .string (tx y), .slice r m d] 35 (0, 0))) (hb : S b)
    (hn : n = s.length) (hm : m = t.length) (hs : InpS w S (.slice q n c) s sb so) (ht : InpS w S (.slice r m d) t tb tz) : MntS w S (.slice (some ⟨b, 0, none⟩) 2 2) [(x, s), (y, t)] b 0 := by
  obtain ⟨h0, h1, h2, h3⟩ := var4 h
  refine ⟨⟨_, 2, rfl, Nat.le_refl _, by decide, fun _ => ⟨rfl, hb⟩⟩, fun i hi => ?_⟩
  match i, hi with
  | 0, _ => exact ⟨h0, q, n, c, sb, so, hn, h1, hs⟩
  | 1, _ => exact ⟨h2, r, m, d, tb, tz, hm, h3, ht⟩
set_option maxHeartbeats 2000000 in
set_option maxRecDepth 20000 in
theorem valive_any (w : World) (hm : Pth.Ml w) : Calls Tryd.prog 8 #[] w (SayB true w) := by
  have HO := Lib.hid (outside_new [] (by decide) [] (by decide) NoB (.slice none 0 0) 0 0 NoB (.slice none 0 0) 0 0 w (InpS.nil _ _) (TxtS.nil _ _))
  have Hm := Lib.hid hm
  clear hm
  go_enter Tryd.func8, Tryd.ntmps8
  go_wp2_with fail
  refine HO.out.mono ?_
  rintro e w1 ⟨hc1, fb, pb, fv, pv, nb, mb, rfl, -, -, -, -, -, -⟩
  have Hc1 := Lib.hid hc1
  have hne := vfunc_ne w1 fb pb
  clear hc1 HO
  have hal_ := (Chg.refl NoB w1).alloc (.cells #[.string ⟨#[97]⟩, .string ⟨#[120]⟩] 47)
  have hb_ := heap_alloc_new w1 (.cells #[.string ⟨#[97]⟩, .string ⟨#[120]⟩] 47)
  obtain ⟨b1, hxb_⟩ : ∃ b, b = w1.heap.size := ⟨_, rfl⟩
  obtain ⟨w2, hw_⟩ : ∃ w_, w1.alloc (.cells #[.string ⟨#[97]⟩, .string ⟨#[120]⟩] 47) = w_ := ⟨_, rfl⟩
  have hz_ : w2.heap.size = b1 + 1 := by rw [← hw_, hxb_]; exact alloc_size _ _
  rw [hw_] at hal_ hb_
  rw [← hxb_] at hb_
  have Hw1 := Lib.hid hw_
  have Hx1 := Lib.hid hxb_
  have Ha1 := Lib.hid hal_
  have Hb1 := Lib.hid hb_
  have Hz1 := Lib.hid hz_
  clear hal_ hb_ hxb_ hw_ hz_
  have hal_ := (Chg.refl NoB w2).alloc (.cells #[.string ⟨#[98]⟩, .string ⟨#[121]⟩] 47)
  have hb_ := heap_alloc_new w2 (.cells #[.string ⟨#[98]⟩, .string ⟨#[121]⟩] 47)
  obtain ⟨b2, hxb_⟩ : ∃ b, b = w2.heap.size := ⟨_, rfl⟩
  obtain ⟨w3, hw_⟩ : ∃ w_, w2.alloc (.cells #[.string ⟨#[98]⟩, .string ⟨#[121]⟩] 47) = w_ := ⟨_, rfl⟩
  have hz_ : w3.heap.size = b2 + 1 := by rw [← hw_, hxb_]; exact alloc_size _ _
  rw [hw_] at hal_ hb_
  rw [← hxb_] at hb_
  have Hw2 := Lib.hid hw_
  have Hx2 := Lib.hid hxb_
  have Ha2 := Lib.hid hal_
  have Hb2 := Lib.hid hb_
  have Hz2 := Lib.hid hz_
  clear hal_ hb_ hxb_ hw_ hz_
  have hal_ := (Chg.refl NoB w3).alloc (.cells #[.string ⟨#[105, 110, 47, 108, 105, 98]⟩, .slice (some ⟨b1, 0, none⟩) 1 1, .string ⟨#[105, 110, 47, 116, 111, 111, 108]⟩, .slice (some ⟨b2, 0, none⟩) 1 1] 35)
  have hb_ := heap_alloc_new w3 (.cells #[.string ⟨#[105, 110, 47, 108, 105, 98]⟩, .slice (some ⟨b1, 0, none⟩) 1 1, .string ⟨#[105, 110, 47, 116, 111, 111, 108]⟩, .slice (some ⟨b2, 0, none⟩) 1 1] 35)
  obtain ⟨b3, hxb_⟩ : ∃ b, b = w3.heap.size := ⟨_, rfl⟩
  obtain ⟨w4, hw_⟩ : ∃ w_, w3.alloc (.cells #[.string ⟨#[105, 110, 47, 108, 105, 98]⟩, .slice (some ⟨b1, 0, none⟩) 1 1, .string ⟨#[105, 110, 47, 116, 111, 111, 108]⟩, .slice (some ⟨b2, 0, none⟩) 1 1] 35) = w_ := ⟨_, rfl⟩
  have hz_ : w4.heap.size = b3 + 1 := by rw [← hw_, hxb_]; exact alloc_size _ _
  rw [hw_] at hal_ hb_
  rw [← hxb_] at hb_
  have Hw3 := Lib.hid hw_
  have Hx3 := Lib.hid hxb_
  have Ha3 := Lib.hid hal_
  have Hb3 := Lib.hid hb_
  have Hz3 := Lib.hid hz_
  clear hal_ hb_ hxb_ hw_ hz_
  have Hc4 := Lib.hid (Hc1.out.trans (Ha1.out.trans (Ha2.out.trans Ha3.out)))
  have HB := Lib.hid (vbuild_any mA (by decide) mA_w (fun y => y = b1 ∨ y = b2 ∨ y = b3) _ b3 0 w4 (ml_keep Hm.out Hc4.out)
    (mntS_two (x := kA) (y := kB) (s := [([97], [120])]) (t := [([98], [121])]) (by exact Hb3.out) (.inr (.inr rfl)) rfl rfl (inpS_one' (x := [97]) (y := [120]) (by exact row_kept (Ha2.out.trans Ha3.out) Hb1.out id) (.inl rfl)) (inpS_one' (x := [98]) (y := [121]) (by exact row_kept Ha3.out Hb2.out id) (.inr (.inl rfl)))))
  rw [mA_build] at HB
  change Hid (Calls _ _ _ _ (OutP oA 0 w4)) at HB
  have hx2 : b1 + 1 = b2 := by rw [Hx2.out, Hz1.out]
  have hx3 : b2 + 1 = b3 := by rw [Hx3.out, Hz2.out]
  have Hx12 := Lib.hid hx2
  have Hx13 := Lib.hid hx3
  clear hx2 hx3
  go_wp2_with fail
  clear hne
  rw [← Hx1.out, Hx12.out, Hx13.out, Hw1.out, Hw2.out, Hw3.out]
  refine HB.out.mono ?_
  rintro e w5 ⟨hc5, q, n, c, kb, ko, hn, rfl, hs5⟩
  change n = 2 at hn
  subst hn
  have Hs5 := Lib.hid hs5
  have Hc5 := Lib.hid (Hc4.out.trans hc5)
  clear hc5 hs5 HB
  change Hid (InpS w5 _ _ oA _ _) at Hs5
  have hal_ := (Chg.refl NoB w5).alloc (.cells #[.slice q 2 c] 27)
  have hb_ := heap_alloc_new w5 (.cells #[.slice q 2 c] 27)
  obtain ⟨b6, hxb_⟩ : ∃ b, b = w5.heap.size := ⟨_, rfl⟩
  obtain ⟨w6, hw_⟩ : ∃ w_, w5.alloc (.cells #[.slice q 2 c] 27) = w_ := ⟨_, rfl⟩
  have hz_ : w6.heap.size = b6 + 1 := by rw [← hw_, hxb_]; exact alloc_size _ _
  rw [hw_] at hal_ hb_
  rw [← hxb_] at hb_
  have Hw6 := Lib.hid hw_
  have Hx6 := Lib.hid hxb_
  have Ha6 := Lib.hid hal_
  have Hb6 := Lib.hid hb_
  have Hz6 := Lib.hid hz_
  clear hal_ hb_ hxb_ hw_ hz_
  have hal_ := (Chg.refl NoB w6).alloc (.cells #[.string ⟨#[105, 110]⟩, .slice none 0 0, .string ⟨#[105, 110, 47, 108, 105, 98]⟩, .slice none 0 0] 35)
  have hb_ := heap_alloc_new w6 (.cells #[.string ⟨#[105, 110]⟩, .slice none 0 0, .string ⟨#[105, 110, 47, 108, 105, 98]⟩, .slice none 0 0] 35)
  obtain ⟨b7, hxb_⟩ : ∃ b, b = w6.heap.size := ⟨_, rfl⟩
  obtain ⟨w7, hw_⟩ : ∃ w_, w6.alloc (.cells #[.string ⟨#[105, 110]⟩, .slice none 0 0, .string ⟨#[105, 110, 47, 108, 105, 98]⟩, .slice none 0 0] 35) = w_ := ⟨_, rfl⟩
  have hz_ : w7.heap.size = b7 + 1 := by rw [← hw_, hxb_]; exact alloc_size _ _
  rw [hw_] at hal_ hb_
  rw [← hxb_] at hb_
  have Hw7 := Lib.hid hw_
  have Hx7 := Lib.hid hxb_
  have Ha7 := Lib.hid hal_
  have Hb7 := Lib.hid hb_
  have Hz7 := Lib.hid hz_
  clear hal_ hb_ hxb_ hw_ hz_
  have Hc7 := Lib.hid (Hc5.out.trans (Ha6.out.trans Ha7.out))
  have HB2 := Lib.hid (vbuild_any mB (by decide) mB_w (fun y => y = b7) _ b7 0 w7 (ml_keep Hm.out Hc7.out)
    (mntS_two (x := [105, 110]) (y := kA) (s := []) (t := []) (by exact Hb7.out) rfl rfl rfl (InpS.nil _ _ |>.mono fun _ h => h) (InpS.nil _ _ |>.mono fun _ h => h)))
  rw [mB_build] at HB2
  change Hid (Calls _ _ _ _ (OutP [] 12 w7)) at HB2
  have hx7 : b6 + 1 = b7 := by rw [Hx7.out, Hz6.out]
  have Hx67 := Lib.hid hx7
  clear hx7
  go_upto_region 4 with fail
  rw [Hw6.out, ← Hx6.out]
  go_wp2_with fail
  rw [← Hx7.out, Hw7.out]
  refine HB2.out.mono ?_
  rintro e w8 ⟨hc8, q2, n2, c2, kb2, ko2, hn2, rfl, hs8⟩
  change n2 = 0 at hn2
  subst hn2
  have hal_ := (Chg.refl NoB w8).alloc (.cells #[.slice q2 0 c2] 27)
  have hb_ := heap_alloc_new w8 (.cells #[.slice q2 0 c2] 27)
  obtain ⟨b9, hxb_⟩ : ∃ b, b = w8.heap.size := ⟨_, rfl⟩
  obtain ⟨w9, hw_⟩ : ∃ w_, w8.alloc (.cells #[.slice q2 0 c2] 27) = w_ := ⟨_, rfl⟩
  have hz_ : w9.heap.size = b9 + 1 := by rw [← hw_, hxb_]; exact alloc_size _ _
  rw [hw_] at hal_ hb_
  rw [← hxb_] at hb_
  have Hw9 := Lib.hid hw_
  have Hx9 := Lib.hid hxb_
  have Ha9 := Lib.hid hal_
  have Hb9 := Lib.hid hb_
  have Hz9 := Lib.hid hz_
  clear hal_ hb_ hxb_ hw_ hz_
  have hk := Ha7.out.trans (hc8.trans Ha9.out)
  have t0 := var1 (row_kept hk Hb6.out id)
  obtain ⟨⟨q', c', he, -, -, hq⟩, hat⟩ := Hs5.out.keep (Ha6.out.trans hk) fun _ _ => id
  cases he
  obtain ⟨rfl, -⟩ := hq (by decide)
  have c0 := (hat 0 (by decide)).1
  change _ = some (Value.string ⟨#[105, 110, 47, 108, 105, 98, 47, 97]⟩) at c0
  rw [Nat.zero_mul, Nat.add_zero] at c0
  have Hc9 := Lib.hid (Hc7.out.trans (hc8.trans Ha9.out))
  clear hs8 hc8 hk hq hat
  go_upto_region 5 with fail
  rw [Hw9.out, ← Hx9.out]
  go_wp2_with fail
  go_ret
  exact ⟨rfl, Hc9.out⟩
end Go.Proofs.YtnbdjficoficcaaDoor
