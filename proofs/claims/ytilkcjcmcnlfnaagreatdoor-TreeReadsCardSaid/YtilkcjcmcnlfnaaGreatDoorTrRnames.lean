/- What stands right under a place: the document's names and the program's, in lists. No condition. -/
import Derived.Test.YtilkcjcmcnlfnaaGreatDoorTrKit
import Derived.Test.YtilkcjcmcnlfnaaGreatDoorTrCut
import Derived.Test.YtilkcjcmcnlfnaaGreatDoorTxRow
namespace Go.Proofs.YtilkcjcmcnlfnaaGreatDoor
set_option linter.unusedVariables false
open Go.ChangeShapes Go.WideShapes Go.ChangeAt Go.RowKit
/- up to the first stroke, and with it -/
def nmL : List UInt8 → List UInt8
  | [] => []
  | c :: r => if c = 47 then [47] else c :: nmL r
theorem nmL_free : ∀ {r : List UInt8}, (47 : UInt8) ∉ r → nmL r = r
  | [], _ => rfl
  | c :: r, h => by
    rw [nmL, if_neg (fun e => h (by rw [e]; exact List.mem_cons_self ..)), nmL_free fun hm => h (List.mem_cons_of_mem _ hm)]
theorem nmL_cut : ∀ {l r : List UInt8}, (47 : UInt8) ∉ l → nmL (l ++ 47 :: r) = l ++ [47]
  | [], r, _ => rfl
  | c :: l, r, h => by
    rw [List.cons_append, nmL, if_neg (fun e => h (by rw [e]; exact List.mem_cons_self ..)), nmL_cut fun hm => h (List.mem_cons_of_mem _ hm)]
    rfl
theorem nmL_ne {r : List UInt8} (h : r ≠ []) : nmL r ≠ [] := by
  cases r with
  | nil => exact absurd rfl h
  | cons c r => rw [nmL]; split <;> simp
theorem nmL_len (r : List UInt8) : (nmL r).length ≤ r.length := by
  induction r with
  | nil => exact Nat.le_refl _
  | cons c r ih => rw [nmL]; split <;> simp <;> omega
theorem bl_cons (a b : UInt8) (x y : List UInt8) : bl (a :: x) (b :: y) = if a < b then true else if b < a then false else bl x y := by
  unfold bl
  rw [Op.bytesLess]
  split
  · rename_i h; simp [h]
  · rename_i h
    split
    · rename_i h2
      simp only [h, decide_false, Bool.false_or]
      simp
      intro e
      subst e
      exact absurd h2 h
    · rename_i h2
      have e : a = b := UInt8.toNat_inj.1 (by rw [UInt8.lt_iff_toNat_lt] at h h2; omega)
      subst e
      simp
theorem nmL_mono : ∀ (x y : List UInt8), bl x y = true → bl (nmL y) (nmL x) = false
  | [], y, _ => by
    rw [nmL]
    cases nmL y <;> rfl
  | a :: x, [], h => by cases h
  | a :: x, b :: y, h => by
    rw [bl_cons] at h
    by_cases h1 : a < b
    · have h2 : ¬ b < a := by rw [UInt8.lt_iff_toNat_lt] at h1 ⊢; omega
      have hx : ∃ t, nmL (a :: x) = a :: t := by rw [nmL]; split; exact ⟨[], by rename_i e; rw [e]⟩; exact ⟨_, rfl⟩
      have hy : ∃ t, nmL (b :: y) = b :: t := by rw [nmL]; split; exact ⟨[], by rename_i e; rw [e]⟩; exact ⟨_, rfl⟩
      obtain ⟨t, ht⟩ := hx
      obtain ⟨u, hu⟩ := hy
      rw [ht, hu, bl_cons, if_neg h2, if_pos h1]
    · rw [if_neg h1] at h
      by_cases h2 : b < a
      · rw [if_pos h2] at h; cases h
      · rw [if_neg h2] at h
        have e : a = b := UInt8.toNat_inj.1 (by rw [UInt8.lt_iff_toNat_lt] at h1 h2; omega)
        subst e
        rw [nmL, nmL]
        by_cases h3 : a = 47
        · rw [if_pos h3, if_pos h3, bl_irr]
        · rw [if_neg h3, if_neg h3, bl_cons, if_neg h1, if_neg h1]
          exact nmL_mono x y h
/- a rising list with a text more, unless it is there -/
def withL (acc : List (List UInt8)) (s : List UInt8) : List (List UInt8) := acc.filter (fun x => bl x s) ++ s :: acc.filter (fun x => bl s x)
def adjN : List UInt8 → List (List UInt8) → List (List UInt8)
  | _, [] => []
  | last, s :: r => if s = last then adjN last r else s :: adjN s r
theorem filter_all {α : Type} {p : α → Bool} {l : List α} (h : ∀ x ∈ l, p x = true) : l.filter p = l := List.filter_eq_self.2 h
theorem filter_none {α : Type} {p : α → Bool} {l : List α} (h : ∀ x ∈ l, p x = false) : l.filter p = [] := List.filter_eq_nil_iff.2 fun x hx => by rw [h x hx]; decide
theorem adj_with : ∀ (steps acc : List (List UInt8)) (last : List UInt8), (∀ s ∈ steps, s ≠ []) → steps.Pairwise (fun x y => bl y x = false) → acc.Pairwise (fun x y => bl x y = true) → (∀ x ∈ acc, ∀ y ∈ steps, bl y x = false) →
    ((acc = [] ∧ last = []) ∨ ∃ pre, acc = pre ++ [last]) → steps.foldl withL acc = acc ++ adjN last steps
  | [], acc, last, _, _, _, _, _ => by rw [List.foldl_nil, adjN, List.append_nil]
  | s :: r, acc, last, hne, hst, hacc, hle, hl => by
    have hst' := List.pairwise_cons.1 hst
    have hs0 := hne s (List.mem_cons_self ..)
    rw [List.foldl_cons, adjN]
    by_cases he : s = last
    · subst he
      rw [if_pos rfl]
      rcases hl with ⟨-, h⟩ | ⟨pre, rfl⟩
      · exact absurd h hs0
      · rw [List.pairwise_append] at hacc
        have hp : ∀ x ∈ pre, bl x s = true := fun x hx => hacc.2.2 x hx s (by simp)
        have hw : withL (pre ++ [s]) s = pre ++ [s] := by
          unfold withL
          rw [List.filter_append, List.filter_append, filter_all hp, filter_none (p := fun x => bl s x) (fun x hx => bl_asymm (hp x hx))]
          simp [bl_irr]
        rw [hw]
        exact adj_with r (pre ++ [s]) s (fun x hx => hne x (List.mem_cons_of_mem _ hx)) hst'.2 (List.pairwise_append.2 hacc) (fun x hx y hy => hle x hx y (List.mem_cons_of_mem _ hy)) (.inr ⟨pre, rfl⟩)
    · rw [if_neg he]
      have hlt : ∀ x ∈ acc, bl x s = true := by
        intro x hx
        rcases hl with ⟨rfl, -⟩ | ⟨pre, rfl⟩
        · cases hx
        · have h1 : bl last s = true := by
            cases hc : bl last s with
            | true => rfl
            | false => exact absurd (bl_tri hc (hle last (by simp) s (List.mem_cons_self ..))) (Ne.symm he)
          rw [List.pairwise_append] at hacc
          rcases List.mem_append.1 hx with hx | hx
          · exact bl_trans (hacc.2.2 x hx last (by simp)) h1
          · rw [List.mem_singleton.1 hx]; exact h1
      have hw : withL acc s = acc ++ [s] := by
        unfold withL
        rw [filter_all hlt, filter_none (p := fun x => bl s x) (fun x hx => bl_asymm (hlt x hx))]
      rw [hw, adj_with r (acc ++ [s]) s (fun x hx => hne x (List.mem_cons_of_mem _ hx)) hst'.2 (List.pairwise_append.2 ⟨hacc, List.pairwise_singleton _ _, fun x hx y hy => by rw [List.mem_singleton.1 hy]; exact hlt x hx⟩) (fun x hx y hy => by
        rcases List.mem_append.1 hx with hx | hx
        · exact hle x hx y (List.mem_cons_of_mem _ hy)
        · rw [List.mem_singleton.1 hx]; exact hst'.1 y hy) (.inr ⟨acc, rfl⟩), List.append_assoc]
      rfl
/- what stands behind a place, in order -/
def behindL (d : List UInt8) (t : List FileL) : List (List UInt8) := (cutL d t).map (·.1)
def namesL (d : List UInt8) (t : List FileL) : List (List UInt8) := adjN [] ((behindL d t).map nmL)
theorem und_good {d s r : List UInt8} (h : Pth.underL d s = some r) : r ≠ [] := by
  by_cases hd : d = []
  · subst hd
    unfold Pth.underL at h
    split at h
    · rename_i hg
      rw [if_pos rfl] at h
      cases h
      intro e
      have := Pth.goodL_pos hg.1
      rw [e] at this
      simp at this
    · cases h
  · have e := und_ne hd h
    unfold Pth.underL at h
    split at h
    · rename_i hg
      have hg' := hg.1
      rw [e, List.append_assoc] at hg'
      have h2 := (Pth.good_glue (d := d) (s := r) hg').2
      intro e2
      have := Pth.goodL_pos h2
      rw [e2] at this
      simp at this
    · cases h
theorem cut_ne {d : List UInt8} {t : List FileL} : ∀ x ∈ cutL d t, x.1 ≠ [] := by
  rw [cutL_map]
  intro x hx
  obtain ⟨y, -, h⟩ := List.mem_filterMap.1 hx
  cases hu : Pth.underL d y.1 with
  | none => rw [hu] at h; cases h
  | some r => rw [hu] at h; cases h; exact und_good hu
theorem names_ref {d : List UInt8} {t : List FileL} (h : goodF t = true) : ((behindL d t).map nmL).foldl withL [] = namesL d t := by
  have ha := cutL_asc (d := d) (good_asc h)
  have := adj_with ((behindL d t).map nmL) [] [] (by
    intro s hs
    obtain ⟨r, hr, rfl⟩ := List.mem_map.1 hs
    obtain ⟨x, hx, rfl⟩ := List.mem_map.1 hr
    exact nmL_ne (cut_ne x hx)) (by
    unfold behindL
    rw [List.map_map, List.pairwise_map]
    exact ha.imp fun {x y} hxy => nmL_mono _ _ hxy) List.Pairwise.nil (fun x hx => by cases hx) (.inl ⟨rfl, rfl⟩)
  rw [this, List.nil_append]
  rfl
end Go.Proofs.YtilkcjcmcnlfnaaGreatDoor
namespace Go.Proofs.YtilkcjcmcnlfnaaGreatDoor
set_option linter.unusedVariables false
open Go.ChangeShapes Go.WideShapes Go.ChangeAt Go.RowKit
def stx (ts : List (List UInt8)) : List Value := ts.map fun x => .string (tx x)
def NmR (w : World) (lo : Nat) (v : Value) (ts : List (List UInt8)) : Prop := w.ownsRow lo 9 1 v ts.length (stx ts)
theorem stx_len (ts : List (List UInt8)) : (stx ts).length = ts.length := by unfold stx; rw [List.length_map]
theorem stx_app (a b : List (List UInt8)) : stx (a ++ b) = stx a ++ stx b := by unfold stx; rw [List.map_append]
theorem NmR.chg {w w' : World} {T : Nat → Prop} {lo : Nat} {v : Value} {ts : List (List UInt8)} (h : NmR w lo v ts) (hc : Chg T w w') (hS : ∀ k, v.ownBlock = some k → ¬ T k) : NmR w' lo v ts := ownsRow_chg h hc hS
theorem NmR.shape {w : World} {lo : Nat} {v : Value} {ts : List (List UInt8)} (h : NmR w lo v ts) : ∃ q c, v = .slice q ts.length c ∧ ts.length ≤ c ∧ c ≤ maxLen := row_shape h
theorem NmR.cells {w : World} {lo : Nat} {v : Value} {ts : List (List UInt8)} {q : Option Addr} {n c : Nat} (h : NmR w lo v ts) (e : v = .slice q n c) (hn : 0 < ts.length) : ∃ g, q = some ⟨g, 0, none⟩ ∧ lo ≤ g ∧ g < w.heap.size ∧ ∀ j (hj : j < ts.length), w.cell? ⟨g, j, none⟩ = some (.string (tx ts[j])) := by
  subst e
  have hlt := World.ownsRow.lt h
  rcases h.2 with ⟨e, h0⟩ | ⟨g, cap, cur, e, hb, hh, _⟩
  · omega
  · cases e
    refine ⟨g, rfl, (hlt g rfl).1, (hlt g rfl).2, fun j hj => ?_⟩
    have := World.ownsRow.cells (g := g) h rfl j (.string (tx ts[j])) (by unfold stx; rw [List.getElem?_map, List.getElem?_eq_getElem hj]; rfl)
    rwa [add_zero_off] at this
theorem lit1 (w : World) (a : Value) (t : TypeId) : ∀ (j : Nat) (u : Value), [a][j]? = some u → (w.alloc (.cells #[a] t)).cell? ((⟨w.heap.size, 0, none⟩ : Addr).add j) = some u := by
  intro j u hj
  rw [add_zero_off, cell_of_row _ w.heap.size j _ t (0, 0) (heap_alloc_new w _), ← hj]
  simp
theorem one1 (a : ByteArray) : ∀ u ∈ [Value.string a], u.oneCell' = true := by
  intro u hu
  rw [List.mem_singleton.1 hu]
  rfl
theorem take_snoc2 {α : Type} {l : List α} {k : Nat} (h : k < l.length) : l.take (k + 1) = l.take k ++ [l[k]] := by rw [List.take_add_one, List.getElem?_eq_getElem h]; rfl
set_option maxHeartbeats 8000000 in
set_option maxRecDepth 20000 in
theorem rwith_any (ts : List (List UInt8)) (s : List UInt8) (lo : Nat) (v : Value) (w : World) (hl : ts.length ≤ 1048576) (hr : NmR w lo v ts) :
    Calls Tryz.prog 54 #[v, .string (tx s)] w fun e w' => Chg NoB w w' ∧ ∃ v', e = .returned v' ∧ NmR w' w.heap.size v' (withL ts s) := by
  obtain ⟨q, c, rfl, h1, h2⟩ := hr.shape
  unfold maxLen at h2
  have Hr := Lib.hid hr
  have Hce := Lib.hid (fun h => hr.cells rfl h)
  obtain ⟨n, hn⟩ : ∃ n, n = ts.length := ⟨_, rfl⟩
  rw [← hn] at h1 hl ⊢
  have Hn := Lib.hid hn
  obtain ⟨i0, hi, hz0, hz1, hz2⟩ := info_parts stringInfo
  have Hi := Lib.hid hi
  have Hz0 := Lib.hid hz0
  have Hzb1 := Lib.hid hz1
  have Hzb2 := Lib.hid hz2
  obtain ⟨z, hz⟩ : ∃ z, z = w.heap.size := ⟨_, rfl⟩
  rw [← hz]
  have Hz := Lib.hid hz
  obtain ⟨res, hres⟩ : ∃ r, r = withL ts s := ⟨_, rfl⟩
  rw [← hres]
  have Hres := Lib.hid hres
  clear hr hn hi hz0 hz1 hz2 hz hres
  go_enter Tryz.func54, Tryz.ntmps54
  go_wp2_with fail
  go_loopw [5, 12] (fun o i wr => ∃ (k : Nat), k ≤ n ∧ i = .int .i64 k ∧ NmR wr z o ((ts.take k).filter fun x => bl x s) ∧ Chg NoB w wr) (fun o i _ => n - (intOf i).toNat)
  case atStart => exact ⟨0, Nat.zero_le _, rfl, World.ownsRow_nil _ _ _ _, Chg.refl _ _⟩
  case round =>
    obtain ⟨k, hk, rfl, hrow, hch⟩ := hrel
    obtain ⟨acc, hacc⟩ : ∃ a, a = (ts.take k).filter fun x => bl x s := ⟨_, rfl⟩
    rw [← hacc] at hrow
    have hal : acc.length ≤ k := by rw [hacc]; exact Nat.le_trans (List.length_filter_le _ _) (List.length_take_le _ _)
    obtain ⟨m, hm⟩ : ∃ m, m = acc.length := ⟨_, rfl⟩
    obtain ⟨oq, oc, rfl, -, -⟩ := hrow.shape
    have hrow' : wr.ownsRow z 9 1 (.slice oq acc.length oc) acc.length (stx acc) := hrow
    rw [← hm] at hrow' hal ⊢
    have Hrow := Lib.hid hrow'
    have Hm := Lib.hid hm
    have Hacc := Lib.hid hacc
    have Hch := Lib.hid hch
    clear hrow hrow' hm hacc hch
    by_cases hlt : k < n
    · have hlt' : k < ts.length := by rw [← Hn.out]; exact hlt
      obtain ⟨g, rfl, -, -, hcl⟩ := Hce.out (by omega)
      have c0 := Hch.out.keep (hcl k hlt')
      have htk := take_snoc2 hlt'
      generalize ts[k] = x at *
      have Htk := Lib.hid (show (ts.take (k + 1)).filter (fun x => bl x s) = acc ++ [x].filter (fun x => bl x s) by rw [htk, List.filter_append, ← Hacc.out])
      clear htk hcl hlt'
      have hbl := less_tx x s
      obtain ⟨b, hb⟩ : ∃ b, b = bl x s := ⟨_, rfl⟩
      rw [← hb] at hbl
      have Hb := Lib.hid hb
      clear hb
      cases b with
      | true =>
        have Htk' := Lib.hid (show (ts.take (k + 1)).filter (fun x => bl x s) = acc ++ [x] by rw [Htk.out]; simp [← Hb.out])
        have halA := (Chg.refl NoB wr).alloc (.cells #[.string (tx x)] 9)
        have HownA := Lib.hid (ownsRow_chg Hrow.out halA fun _ _ => id)
        have HcA := Lib.hid (Hch.out.trans halA)
        have M1 := Lib.hid (show m + 1 ≤ maxLen by unfold maxLen; omega)
        have M2 := Lib.hid (show (m + 1) * 16 ≤ 140737488355328 by omega)
        have HzA := Lib.hid (show z ≤ (wr.alloc (.cells #[.string (tx x)] 9)).heap.size by rw [Hz.out]; exact HcA.out.size)
        clear halA
        go_wp2_with (at_builtin; refine wpList_append_at _ rfl _ _ 40 rfl z 9 i0 (.string ⟨#[]⟩) 1 16 Tryz.underlying40 Hi.out Hz0.out Hzb1.out Hzb2.out rfl (by decide) _ m _ rfl HownA.out ⟨wr.heap.size, 0, none⟩ 1 1 [.string (tx x)] rfl rfl (lit1 _ _ _) (one1 _) M1.out M2.out HzA.out ?_; intro v2 w2 hown2 hgr2 hpl2)
        have Hown2 := Lib.hid (show NmR w2 z v2 (acc ++ [x]) by unfold NmR; rw [List.length_append, ← Hm.out, stx_app]; exact hown2)
        have Hch2 := Lib.hid (HcA.out.grown hgr2 fun j hj => .inr (by have h1 := (World.ownsRow.lt HownA.out j hj).1; have := Hz.out; omega))
        clear hown2 hgr2 hpl2
        go_wp2_with fail
        go_roundw
        case rel => exact ⟨k + 1, by omega, by go_num, by rw [Htk'.out]; exact Hown2.out, Hch2.out⟩
        case measure => simp [intOf]; omega
      | false =>
        have Htk' := Lib.hid (show (ts.take (k + 1)).filter (fun x => bl x s) = acc by rw [Htk.out]; simp [← Hb.out])
        go_wp2_with fail
        go_roundw
        case rel => exact ⟨k + 1, by omega, by go_num, by rw [Htk'.out]; unfold NmR; rw [← Hm.out]; exact Hrow.out, Hch.out⟩
        case measure => simp [intOf]; omega
    · obtain rfl : k = n := by omega
      have hacc2 : acc = ts.filter fun x => bl x s := by rw [Hacc.out, Hn.out, List.take_length]
      have Hacc2 := Lib.hid hacc2
      obtain ⟨wi, rfl⟩ : ∃ wi, wi = wr := ⟨_, rfl⟩
      have halA := (Chg.refl NoB wi).alloc (.cells #[.string (tx s)] 9)
      have HownA := Lib.hid (ownsRow_chg Hrow.out halA fun _ _ => id)
      have HcA := Lib.hid (Hch.out.trans halA)
      have M1 := Lib.hid (show m + 1 ≤ maxLen by unfold maxLen; omega)
      have M2 := Lib.hid (show (m + 1) * 16 ≤ 140737488355328 by omega)
      have HzA := Lib.hid (show z ≤ (wi.alloc (.cells #[.string (tx s)] 9)).heap.size by rw [Hz.out]; exact HcA.out.size)
      clear halA hacc2 hlt
      go_wp2_with (at_builtin; refine wpList_append_at _ rfl _ _ 40 rfl z 9 i0 (.string ⟨#[]⟩) 1 16 Tryz.underlying40 Hi.out Hz0.out Hzb1.out Hzb2.out rfl (by decide) _ m _ rfl HownA.out ⟨wi.heap.size, 0, none⟩ 1 1 [.string (tx s)] rfl rfl (lit1 _ _ _) (one1 _) M1.out M2.out HzA.out ?_; intro v2 w2 hown2 hgr2 hpl2)
      obtain ⟨base, hbase⟩ : ∃ b, b = acc ++ [s] := ⟨_, rfl⟩
      have Hown2 := Lib.hid (show NmR w2 z v2 base by rw [hbase]; unfold NmR; rw [List.length_append, ← Hm.out, stx_app]; exact hown2)
      have Hch2 := Lib.hid (HcA.out.grown hgr2 fun j hj => .inr (by have h1 := (World.ownsRow.lt HownA.out j hj).1; have := Hz.out; omega))
      have Hbl := Lib.hid (show base.length ≤ k + 1 by rw [hbase, List.length_append, ← Hm.out]; simp; omega)
      have Hbase := Lib.hid hbase
      clear hown2 hgr2 hpl2 hbase
      go_wp2_with fail
      go_loopw [5, 30] (fun o i wr => ∃ (j : Nat), j ≤ k ∧ i = .int .i64 j ∧ NmR wr z o (base ++ (ts.take j).filter fun x => bl s x) ∧ Chg NoB w wr) (fun o i _ => k - (intOf i).toNat)
      case atStart => exact ⟨0, Nat.zero_le _, rfl, by rw [List.take_zero, List.filter_nil, List.append_nil]; exact Hown2.out, Hch2.out⟩
      case round =>
        obtain ⟨j, hj, rfl, hrow, hch⟩ := hrel
        obtain ⟨ac2, hac2⟩ : ∃ a, a = base ++ (ts.take j).filter fun x => bl s x := ⟨_, rfl⟩
        rw [← hac2] at hrow
        have hal2 : ac2.length ≤ k + 1 + j := by rw [hac2, List.length_append]; have h1 := Hbl.out; have h2 := Nat.le_trans (List.length_filter_le (fun x => bl s x) (ts.take j)) (List.length_take_le _ _); omega
        obtain ⟨m2, hm2⟩ : ∃ m, m = ac2.length := ⟨_, rfl⟩
        obtain ⟨oq2, oc2, rfl, -, -⟩ := hrow.shape
        have hrow' : wr.ownsRow z 9 1 (.slice oq2 ac2.length oc2) ac2.length (stx ac2) := hrow
        rw [← hm2] at hrow' hal2 ⊢
        have Hrow2 := Lib.hid hrow'
        have Hm2 := Lib.hid hm2
        have Hac2 := Lib.hid hac2
        have Hchj := Lib.hid hch
        clear hrow hrow' hm2 hac2 hch
        by_cases hlt : j < k
        · have hlt' : j < ts.length := by rw [← Hn.out]; exact hlt
          obtain ⟨g, rfl, -, -, hcl⟩ := Hce.out (by omega)
          have c0 := Hchj.out.keep (hcl j hlt')
          have htk := take_snoc2 hlt'
          generalize ts[j] = x at *
          have Htk := Lib.hid (show base ++ (ts.take (j + 1)).filter (fun x => bl s x) = ac2 ++ [x].filter (fun x => bl s x) by rw [htk, List.filter_append, ← List.append_assoc, ← Hac2.out])
          clear htk hcl hlt'
          have hbl := less_tx x s
          have hbl2 := less_tx s x
          have heq := tx_beq x s
          obtain ⟨b, hb⟩ : ∃ b, b = bl s x := ⟨_, rfl⟩
          have Hb := Lib.hid hb
          cases b with
          | true =>
            have e1 : bl x s = false := bl_asymm hb.symm
            have e2 : x ≠ s := by rintro rfl; rw [bl_irr] at hb; cases hb
            rw [e1] at hbl
            rw [← hb] at hbl2
            rw [decide_eq_false e2] at heq
            have Htk' := Lib.hid (show base ++ (ts.take (j + 1)).filter (fun x => bl s x) = ac2 ++ [x] by rw [Htk.out]; simp [← Hb.out])
            have halA := (Chg.refl NoB wr).alloc (.cells #[.string (tx x)] 9)
            have HownA := Lib.hid (ownsRow_chg Hrow2.out halA fun _ _ => id)
            have HcA := Lib.hid (Hchj.out.trans halA)
            have M1 := Lib.hid (show m2 + 1 ≤ maxLen by unfold maxLen; omega)
            have M2 := Lib.hid (show (m2 + 1) * 16 ≤ 140737488355328 by omega)
            have HzA := Lib.hid (show z ≤ (wr.alloc (.cells #[.string (tx x)] 9)).heap.size by rw [Hz.out]; exact HcA.out.size)
            clear halA e1 e2 hb
            go_wp2_with (at_builtin; refine wpList_append_at _ rfl _ _ 40 rfl z 9 i0 (.string ⟨#[]⟩) 1 16 Tryz.underlying40 Hi.out Hz0.out Hzb1.out Hzb2.out rfl (by decide) _ m2 _ rfl HownA.out ⟨wr.heap.size, 0, none⟩ 1 1 [.string (tx x)] rfl rfl (lit1 _ _ _) (one1 _) M1.out M2.out HzA.out ?_; intro v3 w3 hown3 hgr3 hpl3)
            have Hown3 := Lib.hid (show NmR w3 z v3 (ac2 ++ [x]) by unfold NmR; rw [List.length_append, ← Hm2.out, stx_app]; exact hown3)
            have Hch3 := Lib.hid (HcA.out.grown hgr3 fun j hj => .inr (by have h1 := (World.ownsRow.lt HownA.out j hj).1; have := Hz.out; omega))
            clear hown3 hgr3 hpl3
            go_wp2_with fail
            go_roundw
            case rel => exact ⟨j + 1, by omega, by go_num, by rw [Htk'.out]; exact Hown3.out, Hch3.out⟩
            case measure => simp [intOf]; omega
          | false =>
            have Htk' := Lib.hid (show base ++ (ts.take (j + 1)).filter (fun x => bl s x) = ac2 by rw [Htk.out]; simp [← Hb.out])
            rw [← hb] at hbl2
            by_cases e2 : x = s
            · subst e2
              rw [bl_irr] at hbl
              rw [decide_eq_true rfl] at heq
              clear hb
              go_wp2_with fail
              go_roundw
              case rel => exact ⟨j + 1, by omega, by go_num, by rw [Htk'.out]; unfold NmR; rw [← Hm2.out]; exact Hrow2.out, Hchj.out⟩
              case measure => simp [intOf]; omega
            · have e1 : bl x s = true := by
                cases hc : bl x s with
                | true => rfl
                | false => exact absurd (bl_tri hc hb.symm) e2
              rw [e1] at hbl
              rw [decide_eq_false e2] at heq
              clear hb e1 e2
              go_wp2_with fail
              go_roundw
              case rel => exact ⟨j + 1, by omega, by go_num, by rw [Htk'.out]; unfold NmR; rw [← Hm2.out]; exact Hrow2.out, Hchj.out⟩
              case measure => simp [intOf]; omega
        · obtain rfl : j = k := by omega
          have hfin : ac2 = res := by rw [Hac2.out, Hbase.out, Hacc2.out, Hres.out]; unfold withL; rw [Hn.out, List.take_length, List.append_assoc, List.singleton_append]
          have Hfin := Lib.hid (show NmR wr z (.slice oq2 m2 oc2) res by rw [← hfin]; unfold NmR; rw [← Hm2.out]; exact Hrow2.out)
          clear hlt hfin
          go_wp2_with fail
          go_ret
          exact ⟨Hchj.out, _, rfl, Hfin.out⟩
theorem behind_snoc {d : List UInt8} (a : List FileL) (x : FileL) : behindL d (a ++ [x]) = behindL d a ++ (if (undL d x.1).2 = true then [(undL d x.1).1] else []) := by
  unfold behindL
  rw [cutL_snoc, List.map_append]
  split <;> rfl
def foldN (d : List UInt8) (t : List FileL) : List (List UInt8) := ((behindL d t).map nmL).foldl withL []
theorem foldN_snoc {d : List UInt8} (a : List FileL) (x : FileL) : foldN d (a ++ [x]) = if (undL d x.1).2 = true then withL (foldN d a) (nmL (undL d x.1).1) else foldN d a := by
  unfold foldN
  rw [behind_snoc]
  split
  · rw [List.map_append, List.foldl_append]; rfl
  · rw [List.append_nil]
theorem withL_len (acc : List (List UInt8)) (s : List UInt8) : (withL acc s).length ≤ acc.length + 1 := by
  unfold withL
  rw [List.length_append, List.length_cons]
  have h : ∀ l : List (List UInt8), (l.filter fun x => bl x s).length + (l.filter fun x => bl s x).length ≤ l.length := by
    intro l
    induction l with
    | nil => simp
    | cons x r ih =>
      rw [List.filter_cons, List.filter_cons]
      cases h1 : bl x s with
      | true => rw [bl_asymm h1]; simp; omega
      | false => cases bl s x <;> simp <;> omega
  have := h acc
  omega
theorem foldN_len (d : List UInt8) (t : List FileL) : (foldN d t).length ≤ t.length := by
  have h : ∀ (l acc : List (List UInt8)), (l.foldl withL acc).length ≤ acc.length + l.length := by
    intro l
    induction l with
    | nil => intro acc; simp
    | cons s r ih => intro acc; rw [List.foldl_cons]; have := ih (withL acc s); have := withL_len acc s; simp; omega
  unfold foldN behindL
  have h1 := h (((cutL d t).map (·.1)).map nmL) []
  have h2 := cutL_len (d := d) t
  simp only [List.length_map, List.length_nil, Nat.zero_add] at h1
  omega
theorem first47 : ∀ {r : List UInt8}, (47 : UInt8) ∈ r → ∃ l t, r = l ++ 47 :: t ∧ (47 : UInt8) ∉ l
  | c :: r, h => by
    by_cases hc : c = 47
    · subst hc; exact ⟨[], r, rfl, fun h => by cases h⟩
    · obtain ⟨l, t, rfl, hl⟩ := first47 (r := r) (by rcases List.mem_cons.1 h with e | h; exact absurd e.symm hc; exact h)
      exact ⟨c :: l, t, rfl, fun h => by rcases List.mem_cons.1 h with e | h; exact hc e.symm; exact hl h⟩
/- the first piece, and whether there are more -/
theorem pcs_name (r : List UInt8) : ∃ l, (Pth.pcs 47 r).head? = some l ∧ ((1 < (Pth.pcs 47 r).length ∧ nmL r = dirL l) ∨ ((Pth.pcs 47 r).length = 1 ∧ nmL r = l)) := by
  by_cases h : (47 : UInt8) ∈ r
  · obtain ⟨l, t, rfl, hl⟩ := first47 h
    have hp := Pth.pcs_pos 47 t
    refine ⟨l, by rw [Pth.pcs_cut hl]; rfl, .inl ⟨by rw [Pth.pcs_cut hl, List.length_cons]; omega, nmL_cut hl⟩⟩
  · exact ⟨r, by rw [Pth.pcs_free h]; rfl, .inr ⟨by rw [Pth.pcs_free h]; rfl, nmL_free h⟩⟩
set_option maxHeartbeats 8000000 in
set_option maxRecDepth 20000 in
theorem rnames_any (t : List FileL) (d : List UInt8) (hl : t.length ≤ 1048575) (hw : ∀ x ∈ t, x.1.length ≤ 131072) (hd : d.length ≤ 262144) (S : Nat → Prop) (v : Value) (kb ko : Nat) (w : World) (hm : Pth.Ml w) (hs : InpS w S v t kb ko) :
    Calls Tryz.prog 26 #[.agg #[v], .string (tx d)] w fun e w' => Chg NoB w w' ∧ ∃ v', e = .returned v' ∧ NmR w' w.heap.size v' (foldN d t) := by
  obtain ⟨⟨q, c, rfl, h1, h2, h3⟩, hat⟩ := hs
  have Hat := Lib.hid hat
  have H3 := Lib.hid h3
  unfold maxLen at h2
  have Hm := Lib.hid hm
  have Hw := Lib.hid hw
  obtain ⟨n, hn⟩ : ∃ n, n = t.length := ⟨_, rfl⟩
  rw [← hn] at h1 hl ⊢
  have Hn := Lib.hid hn
  obtain ⟨res, hres⟩ : ∃ r, r = foldN d t := ⟨_, rfl⟩
  rw [← hres]
  have Hres := Lib.hid hres
  have hal_ := (Chg.refl NoB w).alloc (.cells #[.slice q n c] 26)
  have hb_ := heap_alloc_new w (.cells #[.slice q n c] 26)
  obtain ⟨tb, hxb_⟩ : ∃ b, b = w.heap.size := ⟨_, rfl⟩
  obtain ⟨w1, hw_⟩ : ∃ w_, w.alloc (.cells #[.slice q n c] 26) = w_ := ⟨_, rfl⟩
  have hz_ : w1.heap.size = tb + 1 := by rw [← hw_, hxb_]; exact alloc_size _ _
  rw [hw_] at hal_ hb_
  rw [← hxb_] at hb_
  have Hw1 := Lib.hid hw_
  have Hx1 := Lib.hid hxb_
  have Ha1 := Lib.hid hal_
  have Hb1 := Lib.hid hb_
  have Hz1 := Lib.hid hz_
  clear hal_ hb_ hxb_ hw_ hz_
  obtain ⟨z, hz⟩ : ∃ z, z = w.heap.size := ⟨_, rfl⟩
  rw [← hz]
  have Hz := Lib.hid hz
  clear hm hw hn hres h3 hat hz
  have t0 := var1 Hb1.out
  go_enter Tryz.func26, Tryz.ntmps26
  go_upto_region 1 with fail
  rw [Hw1.out, ← Hx1.out]
  go_wp2_with fail
  clear t0
  go_loopw [5, 15] (fun o i wr => ∃ (k : Nat), k ≤ n ∧ i = .int .i64 k ∧ NmR wr z o (foldN d (t.take k)) ∧ Chg NoB w wr) (fun o i _ => n - (intOf i).toNat)
  case atStart => exact ⟨0, Nat.zero_le _, rfl, World.ownsRow_nil _ _ _ _, Ha1.out⟩
  case round =>
    obtain ⟨k, hk, rfl, hrow, hch⟩ := hrel
    have hfl := foldN_len d (t.take k)
    rw [List.length_take] at hfl
    obtain ⟨acc, hacc⟩ : ∃ a, a = foldN d (t.take k) := ⟨_, rfl⟩
    rw [← hacc] at hrow hfl
    have Hacc := Lib.hid hacc
    have Hfl := Lib.hid hfl
    have Hch := Lib.hid hch
    have Hrow := Lib.hid hrow
    obtain ⟨oq, oc, rfl, -, -⟩ := hrow.shape
    obtain ⟨m, hm⟩ : ∃ m, m = acc.length := ⟨_, rfl⟩
    rw [← hm] at Hrow Hfl ⊢
    have Hm2 := Lib.hid hm
    clear hrow hch hacc hfl hm
    by_cases hlt : k < n
    · have hlt' : k < t.length := by rw [← Hn.out]; exact hlt
      obtain ⟨rfl, -⟩ := H3.out (by intro e; rw [e] at hlt'; simp at hlt')
      have c0 := Hch.out.keep (Hat.out k hlt').1
      have c1 := Hch.out.keep (Hat.out k hlt').2
      have hxl := Hw.out _ (List.getElem_mem hlt')
      have htk := take_snoc2 hlt'
      generalize t[k] = x at *
      obtain ⟨x1, x2⟩ := x
      simp only at c0 c1 hxl
      have Htk := Lib.hid (show foldN d (t.take (k + 1)) = if (undL d x1).2 = true then withL acc (nmL (undL d x1).1) else acc by rw [htk, foldN_snoc, ← Hacc.out])
      have HU := Lib.hid (fun w' (h : Chg NoB w w') => runder_any d x1 w' hd (by omega) (ml_keep Hm.out h))
      have hul := und_short (d := d) (s := x1)
      obtain ⟨u1, hu1⟩ : ∃ u, u = (undL d x1).1 := ⟨_, rfl⟩
      obtain ⟨u2, hu2⟩ : ∃ u, u = (undL d x1).2 := ⟨_, rfl⟩
      rw [← hu1, ← hu2] at Htk HU
      rw [← hu1] at hul
      have hxu : u1.length ≤ 131072 := by omega
      have Hxu := Lib.hid hxu
      clear hlt' htk hul hu1 hu2 hxl hxu
      have hal_ := (Chg.refl NoB wr).alloc (.cells #[.string (tx x1), .string (tx x2)] 33)
      have hb_ := heap_alloc_new wr (.cells #[.string (tx x1), .string (tx x2)] 33)
      obtain ⟨gb, hxb_⟩ : ∃ b, b = wr.heap.size := ⟨_, rfl⟩
      obtain ⟨w7, hw_⟩ : ∃ w_, wr.alloc (.cells #[.string (tx x1), .string (tx x2)] 33) = w_ := ⟨_, rfl⟩
      have hz_ : w7.heap.size = gb + 1 := by rw [← hw_, hxb_]; exact alloc_size _ _
      rw [hw_] at hal_ hb_
      rw [← hxb_] at hb_
      have Hw7 := Lib.hid hw_
      have Hx7 := Lib.hid hxb_
      have Ha7 := Lib.hid hal_
      have Hb7 := Lib.hid hb_
      have Hz7 := Lib.hid hz_
      clear hal_ hb_ hxb_ hw_ hz_
      go_upto_region 5 with fail
      rw [Hw7.out, ← Hx7.out]
      clear c0 c1
      obtain ⟨f0, f1⟩ := var2 Hb7.out
      have Hc7 := Lib.hid (Hch.out.trans Ha7.out)
      cases u2 with
      | false =>
        have Htk' := Lib.hid (show foldN d (t.take (k + 1)) = acc by rw [Htk.out]; simp)
        go_wp2_with fail
        refine (HU.out _ Hc7.out).mono ?_
        rintro e w8 ⟨hc8, rfl⟩
        have Hc8 := Lib.hid (Ha7.out.trans hc8)
        clear hc8 f0 f1
        go_wp2_with fail
        go_roundw
        case rel => exact ⟨k + 1, by omega, by go_num, by rw [Htk'.out]; exact Hrow.out.chg Hc8.out fun _ _ => id, Hch.out.trans Hc8.out⟩
        case measure => simp [intOf]; omega
      | true =>
        have Htk' := Lib.hid (show foldN d (t.take (k + 1)) = withL acc (nmL u1) by rw [Htk.out]; simp)
        go_wp2_with fail
        refine (HU.out _ Hc7.out).mono ?_
        rintro e w8 ⟨hc8, rfl⟩
        have Hc8 := Lib.hid (Ha7.out.trans hc8)
        have HP := Lib.hid (Pth.pieces_at (tx u1) 47 w8 (by rw [tx_size]; have := Hxu.out; omega))
        rw [tx_list] at HP
        replace HP : Hid (Calls Tryz.prog 53 #[.string (tx u1), .int .u8 47] w8 fun e w' => ∃ ps, Pth.PcsAt 47 u1 ps w8 e w') := HP
        clear hc8 f0 f1
        go_wp2_with fail
        refine HP.out.mono ?_
        rintro e w9 ⟨ps, hmap, b, cap, rfl, hbl, hbh, htx, hgr, hcap⟩
        have Hc9 := Lib.hid (Hc8.out.trans (chg_of_below hgr))
        obtain ⟨l, hh, hcase⟩ := pcs_name u1
        have hplen : (Pth.pcs 47 u1).length = ps.length := by rw [← hmap, List.length_map]
        have hpos : 0 < ps.length := by rw [← hplen]; exact Pth.pcs_pos 47 u1
        have hp0 : ps[0] = tx l := by
          rw [← hmap, List.head?_map, List.head?_eq_getElem?, List.getElem?_eq_getElem hpos] at hh
          have h := Option.some.inj hh
          rw [← h]
          exact (tx_back _).symm
        have c0 := htx 0 hpos
        rw [hp0] at c0
        rw [hplen] at hcase
        have hpb : ps.length ≤ 131073 := by rw [← hplen]; have h := Pth.pcs_len 47 u1; have := Hxu.out; omega
        obtain ⟨pn, hpn⟩ : ∃ n, n = ps.length := ⟨_, rfl⟩
        rw [← hpn] at hcase hpos hpb hcap ⊢
        have HW := Lib.hid (fun (s : List UInt8) (wz : World) (hz : Chg NoB wr wz) => rwith_any acc s z _ wz (by have := Hfl.out; rw [← Hm2.out]; omega) (Hrow.out.chg hz fun _ _ => id))
        have hdir := tx_dir l
        have hls : (tx l).size ≤ 1048576 := by rw [tx_size]; have h := Pth.pcs_small 47 u1 l (List.mem_of_mem_head? (by rw [hh]; rfl)); have := Hxu.out; omega
        clear hmap hbl hbh htx hgr hh hplen hp0 hpn HP
        rcases hcase with ⟨hp1, hnm⟩ | ⟨hp1, hnm⟩
        · have hp1' : (1 : Int) < (pn : Int) := by omega
          have HW2 := Lib.hid (HW.out (dirL l) w9 Hc9.out)
          rw [← hnm] at HW2 hdir
          have Hnm := Lib.hid hnm
          clear hnm hp1
          go_wp2_with fail
          try rw [hdir]
          refine HW2.out.mono ?_
          rintro e wa ⟨hca, va, rfl, hra⟩
          have Hra := Lib.hid hra
          have Hca := Lib.hid (Hc9.out.trans hca)
          have Hzw := Lib.hid (show z ≤ w9.heap.size by rw [Hz.out]; exact (Hch.out.trans Hc9.out).size)
          clear hca hra c0 hdir hls
          go_wp2_with fail
          go_roundw
          case rel => exact ⟨k + 1, by omega, by go_num, by rw [Htk'.out]; exact ownsRow_low Hzw.out Hra.out, Hch.out.trans Hca.out⟩
          case measure => simp [intOf]; omega
        · subst hp1
          have HW2 := Lib.hid (HW.out l w9 Hc9.out)
          rw [← hnm] at HW2 c0
          clear hnm hdir
          go_wp2_with fail
          refine HW2.out.mono ?_
          rintro e wa ⟨hca, va, rfl, hra⟩
          have Hra := Lib.hid hra
          have Hca := Lib.hid (Hc9.out.trans hca)
          have Hzw := Lib.hid (show z ≤ w9.heap.size by rw [Hz.out]; exact (Hch.out.trans Hc9.out).size)
          clear hca hra c0 hls
          go_wp2_with fail
          go_roundw
          case rel => exact ⟨k + 1, by omega, by go_num, by rw [Htk'.out]; exact ownsRow_low Hzw.out Hra.out, Hch.out.trans Hca.out⟩
          case measure => simp [intOf]; omega
    · obtain rfl : k = n := by omega
      have hfin : acc = res := by rw [Hacc.out, Hres.out, Hn.out, List.take_length]
      have Hfin := Lib.hid (show NmR wr z (.slice oq m oc) res by rw [← hfin]; exact Hrow.out)
      clear hlt hfin
      go_wp2_with fail
      go_ret
      exact ⟨Hch.out, _, rfl, Hfin.out⟩
end Go.Proofs.YtilkcjcmcnlfnaaGreatDoor
