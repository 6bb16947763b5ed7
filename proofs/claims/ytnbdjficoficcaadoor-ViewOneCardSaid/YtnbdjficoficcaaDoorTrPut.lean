/- A search of files, and the striking out of files from a row of the call's own, by whatever closure. Condition: at most 2^20 files; the closure answers by the file alone and writes nothing. -/
import Derived.Test.YtnbdjficoficcaaDoorTrSet
import Derived.Test.YtnbdjficoficcaaDoorTrOps
import Derived.Lib.SliceRun
import Derived.Test.YtnbdjficoficcaaDoorTrDm
namespace Go.Proofs.YtnbdjficoficcaaDoor
set_option linter.unusedVariables false
open Go.ChangeShapes Go.WideShapes Go.ChangeAt Go.RowKit
theorem idx_from {α : Type} (p : α → Bool) (x : α) : ∀ (l : List α) (i : Nat), Lib.idxByFrom (fun _ y => p y) x l i = match l.findIdx? p with
    | none => -1
    | some k => ((i + k : Nat) : Int)
  | [], i => rfl
  | y :: r, i => by
    rw [Lib.idxByFrom, idx_from p x r (i + 1), List.findIdx?_cons]
    cases h : p y with
    | true => simp
    | false =>
      cases r.findIdx? p with
      | none => simp
      | some k =>
        simp only [Bool.false_eq_true, if_false, Option.map_some]
        congr 1
        omega
def ixI (r : Option Nat) : Int := match r with
  | none => -1
  | some k => (k : Int)
theorem idx_by {α : Type} (p : α → Bool) (x : α) (l : List α) : Lib.idxBy (fun _ y => p y) l x = ixI (l.findIdx? p) := by
  unfold Lib.idxBy
  rw [idx_from]
  unfold ixI
  cases l.findIdx? p with
  | none => rfl
  | some k => simp
/- a closure that answers by the file alone -/
def QuietF (xs : List FileL) (g : Nat) (lb : Array Value) (p : FileL → Bool) (T : Nat → Prop) (w : World) : Prop :=
  ∀ (W : World) (x : FileL), x ∈ xs → Chg T w W → Calls Tryd.prog g (#[.agg #[.string (tx x.1), .string (tx x.2)]] ++ lb) W (SayB (p x) W)
theorem indexF_any (g : Nat) (lb : Array Value) (eg : ∀ args w, (callFunc g args).run Tryd.prog w = .ok (.enter g args) w) (p : FileL → Bool) (xs : List FileL) (S : Nat → Prop) (v : Value) (kb ko : Nat) (w : World) (hl : xs.length ≤ 1048576) (hs : InpS w S v xs kb ko)
    (hp : QuietF xs g lb p NoB w) :
    Calls Tryd.prog 35 #[v, .func (.func g) #[] lb] w fun e w' => Chg NoB w w' ∧ e = .returned (.int .i64 (ixI (xs.findIdx? p))) := by
  obtain ⟨⟨q, c, rfl, h1, h2, h3⟩, hat⟩ := hs
  by_cases hn : xs = []
  · subst hn
    refine (indexNone q c _ w).mono ?_
    rintro e w' ⟨rfl, rfl⟩
    exact ⟨Chg.refl _ _, rfl⟩
  · obtain ⟨rfl, -⟩ := h3 hn
    have hpos : 0 < xs.length := List.length_pos_iff.2 hn
    letI : Inhabited {f : FileL // f ∈ xs} := ⟨⟨xs[0], List.getElem_mem hpos⟩⟩
    obtain ⟨zs, hzs⟩ : ∃ zs : List {f : FileL // f ∈ xs}, zs.map (·.1) = xs := ⟨xs.attach, List.attach_map_subtype_val xs⟩
    have hzl : zs.length = xs.length := by have := congrArg List.length hzs; simpa using this
    have hzi : ∀ j (hj : j < zs.length), zs[j].1 = xs[j]'(by omega) := fun j hj => by
      have h1 : (zs.map (·.1))[j]? = xs[j]? := by rw [hzs]
      rw [List.getElem?_map, List.getElem?_eq_getElem hj, List.getElem?_eq_getElem (by omega)] at h1
      exact Option.some.inj h1
    have hkb : kb < w.heap.size := World.block_lt_of_cell? w _ (hat 0 hpos).1
    have h := Tryd.slices_IndexFunc 2 isAggB sizeF (fun x : {f : FileL // f ∈ xs} => encF x.1) (fun _ => rfl) (fun x => p x.1) g lb eg kb ko xs.length c zs w
      (fun W x hb => (hp W x.1 x.2 (chg_of_below hb)).mono fun e w'' ⟨he, hcg⟩ => ⟨he, ((chg_of_below hb).trans hcg).below⟩) (by omega) (by omega) hkb (fun j hj i u hu => by
        rw [getElem!_pos zs j hj] at hu
        unfold encF at hu
        rw [hzi j hj] at hu
        obtain ⟨c0, c1⟩ := hat j (by omega)
        match i, hu with
        | 0, hu => cases hu; simpa using c0
        | 1, hu => cases hu; exact c1)
    refine h.mono ?_
    rintro e w' ⟨rfl, hb⟩
    refine ⟨chg_of_below hb, ?_⟩
    rw [List.take_of_length_le (by omega), idx_by]
    have h2 : xs.findIdx? p = zs.findIdx? (fun x => p x.1) := by
      conv => lhs; rw [← hzs]
      rw [List.findIdx?_map]
      rfl
    rw [h2]
/- cells written over behind a row's part that stays -/
theorem heap_setCells {g : Nat} {t : TypeId} : ∀ (vs : List Value) (o : Nat) (w : World) (cur : Array Value), w.heap[g]? = some (.cells cur t (0, 0)) → ∃ cur', (w.setCells g o vs).heap[g]? = some (.cells cur' t (0, 0)) ∧ cur'.size = cur.size ∧ ∀ k, k ≤ o → cur'.toList.take k = cur.toList.take k
  | [], o, w, cur, h => ⟨cur, h, rfl, fun _ _ => rfl⟩
  | v :: r, o, w, cur, h => by
    obtain ⟨cur', h1, h2, h3⟩ := heap_setCells r (o + 1) _ _ (heap_set h (i := o) v)
    refine ⟨cur', h1, by rw [h2]; simp, fun k hk => ?_⟩
    rw [h3 k (by omega), Array.toList_setIfInBounds]
    rw [List.take_set, List.set_eq_of_length_le (by rw [List.length_take]; omega)]
theorem setCells_chg {g : Nat} : ∀ (vs : List Value) (o : Nat) (w : World), Chg (fun y => y = g) w (w.setCells g o vs)
  | [], o, w => Chg.refl _ _
  | v :: r, o, w => ((Chg.refl (fun y => y = g) w).setCell (p := ⟨g, o, none⟩) (.inl rfl) v).trans (setCells_chg r (o + 1) _)
theorem flatP_tk : ∀ (a : List FileL) (k : Nat), flatP (a.take k) = (flatP a).take (k * 2)
  | a, 0 => by simp [flatP]
  | [], k + 1 => by simp [flatP]
  | x :: r, k + 1 => by
    have e : (k + 1) * 2 = k * 2 + 2 := by omega
    rw [List.take_succ_cons, flatP, flatP_tk r k, flatP, e]
    rfl
theorem row_clear {w : World} {base g n c i : Nat} {ys : List FileL} (h : w.ownsRow base 47 2 (.slice (some ⟨g, 0, none⟩) n c) n (flatP ys)) (hi : i ≤ n) (vs : List Value) :
    (w.setCells g (i * 2) vs).ownsRow base 47 2 (.slice (some ⟨g, 0, none⟩) i c) i (flatP (ys.take i)) := by
  have hl : (flatP ys).length = n * 2 := h.1
  rcases h.2 with ⟨e, _⟩ | ⟨g', cap', cur, e, hb, hh, h1, h2, h3, h4⟩
  · cases e
  · cases e
    obtain ⟨cur', k1, k2, k3⟩ := heap_setCells vs (i * 2) w cur hh
    refine ⟨by rw [flatP_tk, List.length_take]; omega, .inr ⟨g, c, cur', rfl, hb, k1, by omega, h2, by rw [k2]; exact h3, ?_⟩⟩
    rw [k3 _ (Nat.le_refl _), flatP_tk, ← h4, List.take_take]
    congr 1
    omega
theorem zero_cells (n : Nat) : (Builtin.zeroCells #[Value.string ⟨#[]⟩, .string ⟨#[]⟩] n).toList = List.replicate (n * 2) (.string ⟨#[]⟩) := by
  apply List.ext_getElem
  · simp [Builtin.zeroCells]
  · intro i h1 h2
    simp only [Builtin.zeroCells, List.getElem_replicate, Array.getElem_toList, Array.getElem_map, Array.getElem_range]
    rcases Nat.mod_two_eq_zero_or_one i with h | h
    · show #[Value.string ⟨#[]⟩, .string ⟨#[]⟩][i % 2]! = _
      rw [h]; rfl
    · show #[Value.string ⟨#[]⟩, .string ⟨#[]⟩][i % 2]! = _
      rw [h]; rfl
theorem clear_row {w : World} {base g n c i : Nat} {ys : List FileL} (ty : TypeId) (h : w.ownsRow base 47 2 (.slice (some ⟨g, 0, none⟩) n c) n (flatP ys)) (hi : i < n) :
    (Builtin.clear_ #[25] ty #[.slice (some ⟨g, i * 2, none⟩) (n - i) (c - i)]).run Tryd.prog w = .ok (.tuple #[]) (w.setCells g (i * 2) (List.replicate ((n - i) * 2) (.string ⟨#[]⟩))) := by
  obtain ⟨i0, hi0, hz0, hz1, hz2⟩ := info_parts inpInfo
  have hv : ∀ w, (zeroValue 47).run Tryd.prog w = .ok (.agg #[.string ⟨#[]⟩, .string ⟨#[]⟩]) w := Tryd.zeroValue47
  rcases h.2 with ⟨e, _⟩ | ⟨g', cap', cur, e, hb, hh, h1, h2, h3, h4⟩
  · cases e
  · cases e
    have hst := run_storeCells_cells (P := Tryd.prog) g (i * 2) (List.replicate ((n - i) * 2) (Value.string ⟨#[]⟩)) 0 w (fun j hj => by
        rw [List.length_replicate] at hj
        rw [cell_of_row w g _ _ _ (0, 0) hh]
        rw [Array.getElem?_eq_getElem (by omega)]
        rfl) (fun j hj => row_free hh _) (fun v hv' => by rw [List.eq_of_mem_replicate hv']; rfl)
    simp only [Nat.add_zero] at hst
    obtain ⟨m, hm⟩ : ∃ m, n - i = m + 1 := ⟨n - i - 1, by omega⟩
    rw [hm] at hst ⊢
    have hzc : (Builtin.zeroCells (Value.agg #[.string ⟨#[]⟩, .string ⟨#[]⟩]).cells (m + 1)).toList = List.replicate ((m + 1) * 2) (.string ⟨#[]⟩) := zero_cells (m + 1)
    simp [Builtin.clear_, run_underlying Tryd.underlying25, hv, hzc, hst]
def DelP (xs : List FileL) (p : FileL → Bool) (base : Nat) (v : Value) (w : World) (e : Ending) (w' : World) : Prop :=
  Chg (fun j => v.ownBlock = some j) w w' ∧ ∃ v', e = .returned v' ∧ w'.ownsRow base 47 2 v' (delF p xs).length (flatP (delF p xs))
theorem del_take {p : FileL → Bool} {xs : List FileL} {j : Nat} (h : j < xs.length) : delF p (xs.take (j + 1)) = delF p (xs.take j) ++ (if p xs[j] = true then [] else [xs[j]]) := by
  unfold delF
  rw [List.take_add_one, List.getElem?_eq_getElem h, List.filter_append]
  congr 1
  cases hp : p xs[j] <;> simp [hp]
theorem del_all {p : FileL → Bool} {xs : List FileL} (h : ∀ x ∈ xs, p x = false) : delF p xs = xs := by
  unfold delF
  exact List.filter_eq_self.2 fun x hx => by rw [h x hx]; rfl
theorem set_take {ys : List FileL} {i : Nat} (x : FileL) (h : i < ys.length) : (ys.set i x).take (i + 1) = ys.take i ++ [x] := by
  rw [List.take_add_one, List.getElem?_set_self h, List.take_set, List.set_eq_of_length_le (by rw [List.length_take]; omega)]
  rfl
theorem del_len (p : FileL → Bool) (xs : List FileL) : (delF p xs).length ≤ xs.length := List.length_filter_le _ _
theorem del_mem {p : FileL → Bool} {xs : List FileL} {x : FileL} (h : x ∈ delF p xs) : x ∈ xs := (List.mem_filter.1 h).1
end Go.Proofs.YtnbdjficoficcaaDoor
namespace Go.Proofs.YtnbdjficoficcaaDoor
set_option linter.unusedVariables false
open Go.ChangeShapes Go.WideShapes Go.ChangeAt Go.RowKit
theorem MakeP.pass {r : Except Int (List FileL)} {w : World} {e : Ending} {w' : World} (h : MakeP r w e w') : ∃ q n c y, e = .returned (.tuple #[.agg #[.slice q n c], .int .i64 y]) ∧ Chg NoB w w' ∧
    ∀ (w0 wf : World) (b : Nat), Chg NoB w0 w → w0.heap.size ≤ b → b < w.heap.size → Chg (fun x => x = b) w' wf → MakeP r w0 (.returned (.tuple #[.agg #[.slice q n c], .int .i64 y])) wf := by
  obtain ⟨hc, h⟩ := h
  cases r with
  | error y => exact ⟨none, 0, 0, y, h, hc, fun w0 wf b h0 hb hb2 hf => ⟨(h0.trans hc).above hf fun x hx => by have : x = b := hx; omega, rfl⟩⟩
  | ok d =>
    obtain ⟨v, he, hrow⟩ := h
    obtain ⟨q, c, rfl, -, -⟩ := row_shape hrow
    refine ⟨q, _, c, 0, he, hc, fun w0 wf b h0 hb hb2 hf => ⟨(h0.trans hc).above hf fun x hx => by have : x = b := hx; omega, _, rfl, ?_⟩⟩
    exact ownsRow_low h0.size (ownsRow_chg hrow hf fun y hy e => by have h1 := (World.ownsRow.lt hrow y hy).1; have h2 : y = b := e; omega)
theorem get1_any (x : FileL) (p : List UInt8) (pb : Nat) (w : World) (hf : w.cell? ⟨pb, 0, none⟩ = some (.string (tx p))) : Calls Tryd.prog 36 #[.agg #[.string (tx x.1), .string (tx x.2)], .pointer (some ⟨pb, 0, none⟩)] w (SayB (decide (x.1 = p)) w) := by
  obtain ⟨x1, x2⟩ := x
  have hal := (Chg.refl NoB w).alloc (.cells #[.string (tx x1), .string (tx x2)] 47)
  have hb := heap_alloc_new w (.cells #[.string (tx x1), .string (tx x2)] 47)
  have hd2 := hal.keep hf
  have hr := tx_beq x1 p
  obtain ⟨r, hrr⟩ : ∃ r, r = decide (x1 = p) := ⟨_, rfl⟩
  rw [← hrr] at hr
  show Calls _ _ _ _ (SayB (decide (x1 = p)) w)
  rw [← hrr]
  have Hal := Lib.hid hal
  obtain ⟨g0, g1⟩ := var2 hb
  clear hal hb hrr hf
  go_enter Tryd.func36, Tryd.ntmps36
  go_wp2_with fail
  go_ret
  exact ⟨rfl, Hal.out⟩
theorem tx_nil (p : List UInt8) : ((tx p).toList == []) = decide (p = []) := by
  have h := tx_beq p []
  rwa [show (tx []).toList = [] by rw [Lib.toList_data, tx_list]] at h
theorem getF_some {t : List FileL} {p : List UInt8} {k : Nat} (h : t.findIdx? (fun x => decide (x.1 = p)) = some k) : ∃ hk : k < t.length, getF t p = (t[k].2, true) := by
  obtain ⟨hk, h1, h2⟩ := List.findIdx?_eq_some_iff_getElem.1 h
  refine ⟨hk, ?_⟩
  unfold getF
  have hf : t.find? (fun x => decide (x.1 = p)) = some t[k] := List.find?_eq_some_iff_getElem.2 ⟨h1, k, hk, rfl, fun j hj => by have := h2 j hj; simp at this ⊢; exact this⟩
  rw [hf]
theorem getF_none {t : List FileL} {p : List UInt8} (h : t.findIdx? (fun x => decide (x.1 = p)) = none) : getF t p = ([], false) := by
  unfold getF
  rw [List.find?_eq_none.2 (fun x hx => by have := List.findIdx?_eq_none_iff.1 h x hx; simpa using this)]
set_option maxHeartbeats 2000000 in
theorem get_any (t : List FileL) (p : List UInt8) (S : Nat → Prop) (v : Value) (kb ko : Nat) (w : World) (hl : t.length ≤ 1048576) (hs : InpS w S v t kb ko) :
    Calls Tryd.prog 17 #[.agg #[v], .string (tx p)] w fun e w' => Chg NoB w w' ∧ e = .returned (.tuple #[.string (tx (getF t p).1), .bool (getF t p).2]) := by
  have Hs := Lib.hid hs
  obtain ⟨⟨q, c, rfl, h1, h2, h3⟩, hat⟩ := hs
  obtain ⟨n, hn⟩ : ∃ n, n = t.length := ⟨_, rfl⟩
  rw [← hn] at h1 hl Hs ⊢
  have Hn := Lib.hid hn
  have H3 := Lib.hid h3
  have Hat := Lib.hid hat
  unfold maxLen at h2
  have hal_ := (Chg.refl NoB w).alloc (.cells #[.slice q n c] 27)
  have hb_ := heap_alloc_new w (.cells #[.slice q n c] 27)
  obtain ⟨tb, hxb_⟩ : ∃ b, b = w.heap.size := ⟨_, rfl⟩
  obtain ⟨w1, hw_⟩ : ∃ w_, w.alloc (.cells #[.slice q n c] 27) = w_ := ⟨_, rfl⟩
  have hz_ : w1.heap.size = tb + 1 := by rw [← hw_, hxb_]; exact alloc_size _ _
  rw [hw_] at hal_ hb_
  rw [← hxb_] at hb_
  have Hw1 := Lib.hid hw_
  have Hx1 := Lib.hid hxb_
  have Ha1 := Lib.hid hal_
  have Hb1 := Lib.hid hb_
  have Hz1 := Lib.hid hz_
  clear hal_ hb_ hxb_ hw_ hz_
  have hal_ := (Chg.refl NoB w1).alloc (.cells #[.string (tx p)] 9)
  have hb_ := heap_alloc_new w1 (.cells #[.string (tx p)] 9)
  obtain ⟨pb, hxb_⟩ : ∃ b, b = w1.heap.size := ⟨_, rfl⟩
  obtain ⟨w2, hw_⟩ : ∃ w_, w1.alloc (.cells #[.string (tx p)] 9) = w_ := ⟨_, rfl⟩
  have hz_ : w2.heap.size = pb + 1 := by rw [← hw_, hxb_]; exact alloc_size _ _
  rw [hw_] at hal_ hb_
  rw [← hxb_] at hb_
  have Hw2 := Lib.hid hw_
  have Hx2 := Lib.hid hxb_
  have Ha2 := Lib.hid hal_
  have Hb2 := Lib.hid hb_
  have Hz2 := Lib.hid hz_
  clear hal_ hb_ hxb_ hw_ hz_
  have Hc2 := Lib.hid (Ha1.out.trans Ha2.out)
  have Hb12 := Lib.hid (row_kept Ha2.out Hb1.out id)
  have HI := Lib.hid (indexF_any 36 #[.pointer (some ⟨pb, 0, none⟩)] (enters_of Tryd.func36 (by kernel_rfl) rfl) (fun x => decide (x.1 = p)) t S _ kb ko w2 (by rw [← Hn.out]; exact hl) (Hs.out.keep Hc2.out fun _ _ => id)
    (fun W x hx hc => get1_any x p pb W (var1 (row_kept hc Hb2.out id))))
  obtain ⟨ix, hixd⟩ : ∃ i, i = ixI (t.findIdx? (fun x => decide (x.1 = p))) := ⟨_, rfl⟩
  rw [← hixd] at HI
  have Hix := Lib.hid hixd
  obtain ⟨g1, hg1⟩ : ∃ g, g = (getF t p).1 := ⟨_, rfl⟩
  obtain ⟨g2, hg2⟩ : ∃ g, g = (getF t p).2 := ⟨_, rfl⟩
  rw [← hg1, ← hg2]
  have Hg1 := Lib.hid hg1
  have Hg2 := Lib.hid hg2
  have hpx : tb + 1 = pb := by rw [Hx2.out, Hz1.out]
  have f0 := var1 Hb12.out
  clear hn h3 hat hg1 hg2 hixd
  go_enter Tryd.func17, Tryd.ntmps17
  go_upto_region 1 with fail
  rw [Hw1.out, Hw2.out, ← Hx1.out]
  rw [hpx]
  go_wp2_with fail
  refine HI.out.mono ?_
  rintro e w3 ⟨hc3, rfl⟩
  have Hc3 := Lib.hid (Hc2.out.trans hc3)
  have f0 := var1 (row_kept hc3 Hb12.out id)
  clear hc3 hpx
  cases hix : t.findIdx? (fun x => decide (x.1 = p)) with
  | none =>
    have hg := getF_none hix
    have e1 : g1 = [] := by rw [Hg1.out, hg]
    have e2 : g2 = false := by rw [Hg2.out, hg]
    have e3 : ix = -1 := by rw [Hix.out, hix]; rfl
    subst e1 e2 e3
    clear hix hg
    go_wp2_with fail
    go_ret2
    exact ⟨Hc3.out, rfl⟩
  | some k =>
    obtain ⟨hk, hg⟩ := getF_some hix
    have e1 : g1 = t[k].2 := by rw [Hg1.out, hg]
    have e2 : g2 = true := by rw [Hg2.out, hg]
    have e3 : ix = (k : Int) := by rw [Hix.out, hix]; rfl
    subst e2 e3
    obtain ⟨rfl, -⟩ := H3.out (by rintro rfl; simp at hk)
    have c1 := Hc3.out.keep (Hat.out k hk).2
    have hkn : k < n := by rw [Hn.out]; exact hk
    rw [← e1] at c1
    clear hix hg e1 hk
    have hnn : ¬ (k : Int) < 0 := by omega
    go_wp2_with fail
    go_ret2
    exact ⟨Hc3.out, rfl⟩
end Go.Proofs.YtnbdjficoficcaaDoor
namespace Go.Proofs.YtnbdjficoficcaaDoor
set_option linter.unusedVariables false
open Go.ChangeShapes Go.WideShapes Go.ChangeAt Go.RowKit
theorem putF_no {t : List FileL} {f : FileL} (h : goodF t = false) : putF t f = .error 1 := by unfold putF; rw [if_neg (by rw [h]; decide)]
theorem putF_yes {t : List FileL} {f : FileL} (h : goodF t = true) : putF t f = makeF (delF (fun x => decide (x.1 = f.1)) t ++ [f]) := by unfold putF; rw [if_pos h]
theorem dropF_no {t : List FileL} {p : List UInt8} (h : goodF t = false) : dropF t p = .error 1 := by unfold dropF; rw [if_neg (by rw [h]; decide)]
theorem dropF_all {t : List FileL} {p : List UInt8} (h : goodF t = true) (h2 : (delF (dropP p) t).length = t.length) : dropF t p = .error 14 := by unfold dropF; rw [if_pos h, if_pos h2]
theorem dropF_yes {t : List FileL} {p : List UInt8} (h : goodF t = true) (h2 : (delF (dropP p) t).length ≠ t.length) : dropF t p = .ok (delF (dropP p) t) := by unfold dropF; rw [if_pos h, if_neg h2]
end Go.Proofs.YtnbdjficoficcaaDoor
