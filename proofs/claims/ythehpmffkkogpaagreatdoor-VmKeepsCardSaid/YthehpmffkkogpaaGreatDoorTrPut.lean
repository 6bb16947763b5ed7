/- A search of files, and the striking out of files from a row of the call's own, by whatever closure. Condition: at most 2^20 files; the closure answers by the file alone and writes nothing. -/
import Derived.Test.YthehpmffkkogpaaGreatDoorTrSet
import Derived.Test.YthehpmffkkogpaaGreatDoorTrOps
import Derived.Lib.SliceRun
import Derived.Test.YthehpmffkkogpaaGreatDoorTrDm
namespace Go.Proofs.YthehpmffkkogpaaGreatDoor
set_option linter.unusedVariables false
open Go.ChangeShapes Go.WideShapes Go.ChangeAt Go.RowKit
theorem idx_from {α : Type} (p : α → Bool) (x : α) : ∀ (l : List α) (i : Nat), Lib.idxByFrom (fun _ y => p y) x l i = match l.findIdx? p with
    | none => -1
    | some k => ((i + k : Nat) : Int)
  | [], i => rfl
  | y :: r, i => by
    rw [Lib.idxByFrom, idx_from p x r (i + 1), List.findIdx?_cons]
    cases h : p y with
    | true => simp
    | false =>
      cases r.findIdx? p with
      | none => simp
      | some k =>
        simp only [Bool.false_eq_true, if_false, Option.map_some]
        congr 1
        omega
def ixI (r : Option Nat) : Int := match r with
  | none => -1
  | some k => (k : Int)
theorem idx_by {α : Type} (p : α → Bool) (x : α) (l : List α) : Lib.idxBy (fun _ y => p y) l x = ixI (l.findIdx? p) := by
  unfold Lib.idxBy
  rw [idx_from]
  unfold ixI
  cases l.findIdx? p with
  | none => rfl
  | some k => simp
/- a closure that answers by the file alone -/
def QuietF (xs : List FileL) (g : Nat) (lb : Array Value) (p : FileL → Bool) (T : Nat → Prop) (w : World) : Prop :=
  ∀ (W : World) (x : FileL), x ∈ xs → Chg T w W → Calls Tryz.prog g (#[.agg #[.string (tx x.1), .string (tx x.2)]] ++ lb) W (SayB (p x) W)
theorem indexF_any (g : Nat) (lb : Array Value) (eg : ∀ args w, (callFunc g args).run Tryz.prog w = .ok (.enter g args) w) (p : FileL → Bool) (xs : List FileL) (S : Nat → Prop) (v : Value) (kb ko : Nat) (w : World) (hl : xs.length ≤ 1048576) (hs : InpS w S v xs kb ko)
    (hp : QuietF xs g lb p NoB w) :
    Calls Tryz.prog 84 #[v, .func (.func g) #[] lb] w fun e w' => Chg NoB w w' ∧ e = .returned (.int .i64 (ixI (xs.findIdx? p))) := by
  obtain ⟨⟨q, c, rfl, h1, h2, h3⟩, hat⟩ := hs
  by_cases hn : xs = []
  · subst hn
    refine (indexNone q c _ w).mono ?_
    rintro e w' ⟨rfl, rfl⟩
    exact ⟨Chg.refl _ _, rfl⟩
  · obtain ⟨rfl, -⟩ := h3 hn
    have hpos : 0 < xs.length := List.length_pos_iff.2 hn
    letI : Inhabited {f : FileL // f ∈ xs} := ⟨⟨xs[0], List.getElem_mem hpos⟩⟩
    obtain ⟨zs, hzs⟩ : ∃ zs : List {f : FileL // f ∈ xs}, zs.map (·.1) = xs := ⟨xs.attach, List.attach_map_subtype_val xs⟩
    have hzl : zs.length = xs.length := by have := congrArg List.length hzs; simpa using this
    have hzi : ∀ j (hj : j < zs.length), zs[j].1 = xs[j]'(by omega) := fun j hj => by
      have h1 : (zs.map (·.1))[j]? = xs[j]? := by rw [hzs]
      rw [List.getElem?_map, List.getElem?_eq_getElem hj, List.getElem?_eq_getElem (by omega)] at h1
      exact Option.some.inj h1
    have hkb : kb < w.heap.size := World.block_lt_of_cell? w _ (hat 0 hpos).1
    have h := Tryz.slices_IndexFunc 2 isAggB sizeF (fun x : {f : FileL // f ∈ xs} => encF x.1) (fun _ => rfl) (fun x => p x.1) g lb eg kb ko xs.length c zs w
      (fun W x hb => (hp W x.1 x.2 (chg_of_below hb)).mono fun e w'' ⟨he, hcg⟩ => ⟨he, ((chg_of_below hb).trans hcg).below⟩) (by omega) (by omega) hkb (fun j hj i u hu => by
        rw [getElem!_pos zs j hj] at hu
        unfold encF at hu
        rw [hzi j hj] at hu
        obtain ⟨c0, c1⟩ := hat j (by omega)
        match i, hu with
        | 0, hu => cases hu; simpa using c0
        | 1, hu => cases hu; exact c1)
    refine h.mono ?_
    rintro e w' ⟨rfl, hb⟩
    refine ⟨chg_of_below hb, ?_⟩
    rw [List.take_of_length_le (by omega), idx_by]
    have h2 : xs.findIdx? p = zs.findIdx? (fun x => p x.1) := by
      conv => lhs; rw [← hzs]
      rw [List.findIdx?_map]
      rfl
    rw [h2]
/- cells written over behind a row's part that stays -/
theorem heap_setCells {g : Nat} {t : TypeId} : ∀ (vs : List Value) (o : Nat) (w : World) (cur : Array Value), w.heap[g]? = some (.cells cur t (0, 0)) → ∃ cur', (w.setCells g o vs).heap[g]? = some (.cells cur' t (0, 0)) ∧ cur'.size = cur.size ∧ ∀ k, k ≤ o → cur'.toList.take k = cur.toList.take k
  | [], o, w, cur, h => ⟨cur, h, rfl, fun _ _ => rfl⟩
  | v :: r, o, w, cur, h => by
    obtain ⟨cur', h1, h2, h3⟩ := heap_setCells r (o + 1) _ _ (heap_set h (i := o) v)
    refine ⟨cur', h1, by rw [h2]; simp, fun k hk => ?_⟩
    rw [h3 k (by omega), Array.toList_setIfInBounds]
    rw [List.take_set, List.set_eq_of_length_le (by rw [List.length_take]; omega)]
theorem setCells_chg {g : Nat} : ∀ (vs : List Value) (o : Nat) (w : World), Chg (fun y => y = g) w (w.setCells g o vs)
  | [], o, w => Chg.refl _ _
  | v :: r, o, w => ((Chg.refl (fun y => y = g) w).setCell (p := ⟨g, o, none⟩) (.inl rfl) v).trans (setCells_chg r (o + 1) _)
theorem flatP_tk : ∀ (a : List FileL) (k : Nat), flatP (a.take k) = (flatP a).take (k * 2)
  | a, 0 => by simp [flatP]
  | [], k + 1 => by simp [flatP]
  | x :: r, k + 1 => by
    have e : (k + 1) * 2 = k * 2 + 2 := by omega
    rw [List.take_succ_cons, flatP, flatP_tk r k, flatP, e]
    rfl
theorem row_clear {w : World} {base g n c i : Nat} {ys : List FileL} (h : w.ownsRow base 43 2 (.slice (some ⟨g, 0, none⟩) n c) n (flatP ys)) (hi : i ≤ n) (vs : List Value) :
    (w.setCells g (i * 2) vs).ownsRow base 43 2 (.slice (some ⟨g, 0, none⟩) i c) i (flatP (ys.take i)) := by
  have hl : (flatP ys).length = n * 2 := h.1
  rcases h.2 with ⟨e, _⟩ | ⟨g', cap', cur, e, hb, hh, h1, h2, h3, h4⟩
  · cases e
  · cases e
    obtain ⟨cur', k1, k2, k3⟩ := heap_setCells vs (i * 2) w cur hh
    refine ⟨by rw [flatP_tk, List.length_take]; omega, .inr ⟨g, c, cur', rfl, hb, k1, by omega, h2, by rw [k2]; exact h3, ?_⟩⟩
    rw [k3 _ (Nat.le_refl _), flatP_tk, ← h4, List.take_take]
    congr 1
    omega
theorem zero_cells (n : Nat) : (Builtin.zeroCells #[Value.string ⟨#[]⟩, .string ⟨#[]⟩] n).toList = List.replicate (n * 2) (.string ⟨#[]⟩) := by
  apply List.ext_getElem
  · simp [Builtin.zeroCells]
  · intro i h1 h2
    simp only [Builtin.zeroCells, List.getElem_replicate, Array.getElem_toList, Array.getElem_map, Array.getElem_range]
    rcases Nat.mod_two_eq_zero_or_one i with h | h
    · show #[Value.string ⟨#[]⟩, .string ⟨#[]⟩][i % 2]! = _
      rw [h]; rfl
    · show #[Value.string ⟨#[]⟩, .string ⟨#[]⟩][i % 2]! = _
      rw [h]; rfl
theorem clear_row {w : World} {base g n c i : Nat} {ys : List FileL} (ty : TypeId) (h : w.ownsRow base 43 2 (.slice (some ⟨g, 0, none⟩) n c) n (flatP ys)) (hi : i < n) :
    (Builtin.clear_ #[23] ty #[.slice (some ⟨g, i * 2, none⟩) (n - i) (c - i)]).run Tryz.prog w = .ok (.tuple #[]) (w.setCells g (i * 2) (List.replicate ((n - i) * 2) (.string ⟨#[]⟩))) := by
  obtain ⟨i0, hi0, hz0, hz1, hz2⟩ := info_parts inpInfo
  have hv : ∀ w, (zeroValue 43).run Tryz.prog w = .ok (.agg #[.string ⟨#[]⟩, .string ⟨#[]⟩]) w := Tryz.zeroValue43
  rcases h.2 with ⟨e, _⟩ | ⟨g', cap', cur, e, hb, hh, h1, h2, h3, h4⟩
  · cases e
  · cases e
    have hst := run_storeCells_cells (P := Tryz.prog) g (i * 2) (List.replicate ((n - i) * 2) (Value.string ⟨#[]⟩)) 0 w (fun j hj => by
        rw [List.length_replicate] at hj
        rw [cell_of_row w g _ _ _ (0, 0) hh]
        rw [Array.getElem?_eq_getElem (by omega)]
        rfl) (fun j hj => row_free hh _) (fun v hv' => by rw [List.eq_of_mem_replicate hv']; rfl)
    simp only [Nat.add_zero] at hst
    obtain ⟨m, hm⟩ : ∃ m, n - i = m + 1 := ⟨n - i - 1, by omega⟩
    rw [hm] at hst ⊢
    have hzc : (Builtin.zeroCells (Value.agg #[.string ⟨#[]⟩, .string ⟨#[]⟩]).cells (m + 1)).toList = List.replicate ((m + 1) * 2) (.string ⟨#[]⟩) := zero_cells (m + 1)
    simp [Builtin.clear_, run_underlying Tryz.underlying23, hv, hzc, hst]
def DelP (xs : List FileL) (p : FileL → Bool) (base : Nat) (v : Value) (w : World) (e : Ending) (w' : World) : Prop :=
  Chg (fun j => v.ownBlock = some j) w w' ∧ ∃ v', e = .returned v' ∧ w'.ownsRow base 43 2 v' (delF p xs).length (flatP (delF p xs))
theorem del_take {p : FileL → Bool} {xs : List FileL} {j : Nat} (h : j < xs.length) : delF p (xs.take (j + 1)) = delF p (xs.take j) ++ (if p xs[j] = true then [] else [xs[j]]) := by
  unfold delF
  rw [List.take_add_one, List.getElem?_eq_getElem h, List.filter_append]
  congr 1
  cases hp : p xs[j] <;> simp [hp]
theorem del_all {p : FileL → Bool} {xs : List FileL} (h : ∀ x ∈ xs, p x = false) : delF p xs = xs := by
  unfold delF
  exact List.filter_eq_self.2 fun x hx => by rw [h x hx]; rfl
theorem set_take {ys : List FileL} {i : Nat} (x : FileL) (h : i < ys.length) : (ys.set i x).take (i + 1) = ys.take i ++ [x] := by
  rw [List.take_add_one, List.getElem?_set_self h, List.take_set, List.set_eq_of_length_le (by rw [List.length_take]; omega)]
  rfl
theorem del_len (p : FileL → Bool) (xs : List FileL) : (delF p xs).length ≤ xs.length := List.length_filter_le _ _
theorem del_mem {p : FileL → Bool} {xs : List FileL} {x : FileL} (h : x ∈ delF p xs) : x ∈ xs := (List.mem_filter.1 h).1
set_option maxHeartbeats 8000000 in
set_option maxRecDepth 20000 in
theorem del_any (g : Nat) (lb : Array Value) (eg : ∀ args w, (callFunc g args).run Tryz.prog w = .ok (.enter g args) w) (p : FileL → Bool) (xs : List FileL) (base : Nat) (v : Value) (w : World) (hl : xs.length ≤ 1048576)
    (hrow : w.ownsRow base 43 2 v xs.length (flatP xs)) (hp : QuietF xs g lb p (fun j => v.ownBlock = some j) w) :
    Calls Tryz.prog 66 #[v, .func (.func g) #[] lb] w (DelP xs p base v w) := by
  obtain ⟨kb, hs⟩ := InpS.of_row hrow
  have hI := Lib.hid (indexF_any g lb eg p xs _ v kb 0 w hl hs (fun W x hx hc => hp W x hx (hc.mono fun _ _ => False.elim)))
  obtain ⟨n, hn⟩ : ∃ n, n = xs.length := ⟨_, rfl⟩
  rw [← hn] at hrow hl
  have Hn := Lib.hid hn
  obtain ⟨q, c, rfl, hnc, hcm⟩ := row_shape hrow
  have Hrow := Lib.hid hrow
  have Hp := Lib.hid hp
  have Hxs := Lib.hid hs
  unfold maxLen at hcm
  clear hn hp hs
  cases hix : xs.findIdx? p with
  | none =>
    have hno : ∀ x ∈ xs, p x = false := fun x hx => by simpa using List.findIdx?_eq_none_iff.1 hix x hx
    have Hde := Lib.hid (del_all hno)
    rw [hix] at hI
    unfold ixI at hI
    clear hix hno hrow
    go_enter Tryz.func66, Tryz.ntmps66
    go_wp2_with fail
    refine hI.out.mono ?_
    rintro e w1 ⟨hc1, rfl⟩
    go_wp2_with fail
    go_ret
    refine ⟨hc1.mono fun _ _ => False.elim, _, rfl, ?_⟩
    rw [Hde.out, ← Hn.out]
    exact ownsRow_chg Hrow.out hc1 fun _ _ => id
  | some k0 =>
    obtain ⟨hk0, hpk, hbe⟩ := List.findIdx?_eq_some_iff_getElem.1 hix
    obtain ⟨gb, rfl⟩ : ∃ gb, q = some ⟨gb, 0, none⟩ := by
      rcases hrow.2 with ⟨e, h0⟩ | ⟨g', cap', cur, e, _⟩
      · have := Hn.out; omega
      · cases e; exact ⟨g', rfl⟩
    have hst : delF p (xs.take (k0 + 1)) = xs.take k0 := by
      rw [del_take hk0, if_pos hpk, List.append_nil]
      refine del_all fun x hx => ?_
      obtain ⟨i, hi, rfl⟩ := List.getElem_of_mem hx
      rw [List.length_take] at hi
      rw [List.getElem_take]
      simpa using hbe i (by omega)
    have Hst := Lib.hid hst
    have hk0n : k0 < n := by rw [Hn.out]; exact hk0
    rw [hix] at hI
    unfold ixI at hI
    clear hix hpk hbe hst hk0 hrow
    have hne1 : ((k0 : Int) == -1) = false := beq_eq_false_iff_ne.2 (by omega)
    go_enter Tryz.func66, Tryz.ntmps66
    go_wp2_with fail
    refine hI.out.mono ?_
    rintro e w1 ⟨hc1, rfl⟩
    have Hc1 := Lib.hid hc1
    clear hc1
    go_wp2_with fail
    go_loopw [5, 6] (fun s5 s6 wr => ∃ (i j : Nat) (ys : List FileL), s5 = .int .i64 i ∧ s6 = .int .i64 j ∧ i < j ∧ j ≤ n ∧ ys.length = n ∧ ys.take i = delF p (xs.take j) ∧ (delF p (xs.take j)).length = i ∧ ys.drop j = xs.drop j ∧ wr.ownsRow base 43 2 (.slice (some ⟨gb, 0, none⟩) n c) n (flatP ys) ∧ Chg (fun y => (Value.slice (some ⟨gb, 0, none⟩) n c).ownBlock = some y) w wr) (fun _ s6 _ => n - (intOf s6).toNat)
    case atStart => exact ⟨k0, k0 + 1, xs, rfl, by go_num, by omega, by omega, Hn.out.symm, Hst.out.symm, by rw [Hst.out, List.length_take, ← Hn.out]; omega, rfl, ownsRow_chg Hrow.out Hc1.out fun _ _ => id, Hc1.out.mono fun _ _ => False.elim⟩
    case round =>
      obtain ⟨i, j, ys, rfl, rfl, hij, hjn, hyl, hti, hdl, hdr, hrw, hch⟩ := hrel
      have Hyl := Lib.hid hyl
      have Hti := Lib.hid hti
      have Hdl := Lib.hid hdl
      have Hdr := Lib.hid hdr
      have Hrw := Lib.hid hrw
      have Hch := Lib.hid hch
      clear hyl hti hdl hdr hrw hch
      by_cases hlt : j < n
      · have hltz : (j : Int) < (n : Int) := by omega
        have hjx : j < xs.length := by rw [← Hn.out]; exact hlt
        have hjy : j < ys.length := by rw [Hyl.out]; exact hlt
        have hxy : ys[j] = xs[j] := by
          have h1 := List.getElem?_eq_getElem hjy
          have h2 := List.getElem?_eq_getElem hjx
          have h3 : (ys.drop j)[0]? = (xs.drop j)[0]? := by rw [Hdr.out]
          rw [List.getElem?_drop, List.getElem?_drop, Nat.add_zero, h1, h2] at h3
          exact Option.some.inj h3
        have Hdt := Lib.hid (del_take (p := p) hjx)
        have Hmx := Lib.hid (show xs[j] ∈ xs from List.getElem_mem hjx)
        obtain ⟨gj, gj1⟩ := flatP_at ys j hjy
        have hcl := fun o u h => World.ownsRow.cells (g := gb) (xs := flatP ys) Hrw.out rfl o u h
        have cj := hcl _ _ gj
        have cj1 := hcl _ _ gj1
        rw [add_zero_off] at cj cj1
        rw [hxy] at cj cj1
        obtain ⟨gi, gi1⟩ := flatP_at ys i (by omega)
        have hci : ∃ o1 o2 : List UInt8, wr.cell? ⟨gb, i * 2, none⟩ = some (.string (tx o1)) ∧ wr.cell? ⟨gb, i * 2 + 1, none⟩ = some (.string (tx o2)) := by
          have ci := hcl _ _ gi
          have ci1 := hcl _ _ gi1
          rw [add_zero_off] at ci ci1
          exact ⟨_, _, ci, ci1⟩
        obtain ⟨o1, o2, ci, ci1⟩ := hci
        clear gj gj1 gi gi1
        have fi : ∀ t, wr.frozen? ⟨gb, t, none⟩ = false := fun t => by
          rcases Hrw.out.2 with ⟨e, _⟩ | ⟨g', cap', cur, e, _, hh, _⟩
          · cases e
          · cases e; exact row_free hh t
        obtain ⟨x, hx⟩ : ∃ x, x = xs[j] := ⟨_, rfl⟩
        rw [← hx] at cj cj1 Hmx Hdt
        obtain ⟨x1, x2⟩ := x
        simp only at cj cj1
        have hgl : gb < wr.heap.size := World.block_lt_of_cell? wr _ cj
        have hal := (Chg.refl NoB wr).alloc (.cells #[.string (tx x1), .string (tx x2)] 43)
        have hb := heap_alloc_new wr (.cells #[.string (tx x1), .string (tx x2)] 43)
        obtain ⟨vb, hvb⟩ : ∃ b, b = wr.heap.size := ⟨_, rfl⟩
        obtain ⟨w2, hw2⟩ : ∃ w2, wr.alloc (.cells #[.string (tx x1), .string (tx x2)] 43) = w2 := ⟨_, rfl⟩
        rw [hw2] at hal hb
        rw [← hvb] at hb
        have Hw2 := Lib.hid hw2
        have Hvb := Lib.hid hvb
        have Hal := Lib.hid hal
        have Hb := Lib.hid hb
        have Hrw2 := Lib.hid (ownsRow_chg Hrw.out hal fun _ _ => id)
        have Hch2 := Lib.hid (Hch.out.trans (hal.mono fun _ _ => False.elim))
        have Hcall := Lib.hid (Hp.out w2 (x1, x2) Hmx.out Hch2.out)
        have Hci := Lib.hid (And.intro ci ci1)
        have Hfi3 := Lib.hid (show ∀ w3, Chg NoB w2 w3 → ∀ t, w3.frozen? ⟨gb, t, none⟩ = false from fun w3 h t => by
          rcases (ownsRow_chg Hrw2.out h fun _ _ => id).2 with ⟨e, _⟩ | ⟨g', cap', cur, e, _, hh, _⟩
          · cases e
          · cases e; exact row_free hh t)
        obtain ⟨b, hpb⟩ : ∃ b, b = p (x1, x2) := ⟨_, rfl⟩
        rw [← hpb] at Hdt Hcall
        clear hxy hcl hx hal hb hw2 hvb hpb ci ci1 fi hjx hjy hgl
        go_upto_region 8 with fail
        rw [Hw2.out, ← Hvb.out]
        clear cj cj1
        obtain ⟨f0, f1⟩ := var2 Hb.out
        cases b with
        | true =>
          go_wp2_with (go_at_fn g; refine Hcall.out.mono ?_; rintro e w3 ⟨rfl, hc3⟩)
          have Hdt' : Hid (delF p (xs.take (j + 1)) = delF p (xs.take j)) := Lib.hid (by rw [Hdt.out]; simp)
          go_roundw
          case rel => exact ⟨i, j + 1, ys, rfl, by go_num, by omega, by omega, Hyl.out, by rw [Hdt'.out]; exact Hti.out, by rw [Hdt'.out]; exact Hdl.out, by rw [← List.drop_drop, Hdr.out, List.drop_drop], ownsRow_chg Hrw2.out hc3 fun _ _ => id, Hch2.out.trans (hc3.mono fun _ _ => False.elim)⟩
          case measure => simp [intOf]; omega
        | false =>
          go_wp2_with (go_at_fn g; refine Hcall.out.mono ?_; rintro e w3 ⟨rfl, hc3⟩; have Hc3 := Lib.hid hc3; have ci := hc3.keep (Hal.out.keep Hci.out.1); have ci1 := hc3.keep (Hal.out.keep Hci.out.2); have f0 := (var2 (row_kept hc3 Hb.out id)).1; have f1 := (var2 (row_kept hc3 Hb.out id)).2; have fi : ∀ t, w3.frozen? ⟨gb, t, none⟩ = false := Hfi3.out w3 hc3; clear hc3)
          go_roundw
          case rel => exact ⟨i + 1, j + 1, ys.set i (x1, x2), by go_num, by go_num, by omega, by omega, by rw [List.length_set]; exact Hyl.out, by rw [Hdt.out, set_take _ (by have := Hyl.out; omega), Hti.out]; rfl, by rw [Hdt.out, List.length_append, Hdl.out]; rfl, by rw [List.drop_set_of_lt (by omega), ← List.drop_drop, Hdr.out, List.drop_drop], row_set (ownsRow_chg Hrw2.out Hc3.out fun _ _ => id) (by omega) (x1, x2), (Hch2.out.trans (Hc3.out.mono fun _ _ => False.elim)).trans ((set_chg _ _).mono fun y _ h => by rw [h]; rfl)⟩
          case measure => simp [intOf]; omega
      · obtain rfl : j = n := by omega
        have hltz : ¬ (j : Int) < (j : Int) := by omega
        have hall : delF p (xs.take j) = delF p xs := by rw [Hn.out, List.take_of_length_le (Nat.le_refl _)]
        rw [hall] at Hti Hdl
        have hcl := fun ty => clear_row ty Hrw.out hij
        have Hcr := Lib.hid (row_clear Hrw.out (Nat.le_of_lt hij) (List.replicate ((j - i) * 2) (Value.string ⟨#[]⟩)))
        have Hcc := Lib.hid (setCells_chg (g := gb) (List.replicate ((j - i) * 2) (Value.string ⟨#[]⟩)) (i * 2) wr)
        clear hall
        go_wp2_with fail
        go_ret
        refine ⟨Hch.out.trans (Hcc.out.mono fun y _ h => by rw [h]; rfl), _, rfl, ?_⟩
        have h := Hcr.out
        rw [Hti.out] at h
        rw [Hdl.out]
        exact h
end Go.Proofs.YthehpmffkkogpaaGreatDoor
namespace Go.Proofs.YthehpmffkkogpaaGreatDoor
set_option linter.unusedVariables false
open Go.ChangeShapes Go.WideShapes Go.ChangeAt Go.RowKit
theorem MakeP.pass {r : Except Int (List FileL)} {w : World} {e : Ending} {w' : World} (h : MakeP r w e w') : ∃ q n c y, e = .returned (.tuple #[.agg #[.slice q n c], .int .i64 y]) ∧ Chg NoB w w' ∧
    ∀ (w0 wf : World) (b : Nat), Chg NoB w0 w → w0.heap.size ≤ b → b < w.heap.size → Chg (fun x => x = b) w' wf → MakeP r w0 (.returned (.tuple #[.agg #[.slice q n c], .int .i64 y])) wf := by
  obtain ⟨hc, h⟩ := h
  cases r with
  | error y => exact ⟨none, 0, 0, y, h, hc, fun w0 wf b h0 hb hb2 hf => ⟨(h0.trans hc).above hf fun x hx => by have : x = b := hx; omega, rfl⟩⟩
  | ok d =>
    obtain ⟨v, he, hrow⟩ := h
    obtain ⟨q, c, rfl, -, -⟩ := row_shape hrow
    refine ⟨q, _, c, 0, he, hc, fun w0 wf b h0 hb hb2 hf => ⟨(h0.trans hc).above hf fun x hx => by have : x = b := hx; omega, _, rfl, ?_⟩⟩
    exact ownsRow_low h0.size (ownsRow_chg hrow hf fun y hy e => by have h1 := (World.ownsRow.lt hrow y hy).1; have h2 : y = b := e; omega)
theorem put1_any (x : FileL) (f1 : List UInt8) (fb : Nat) (w : World) (hf : w.cell? ⟨fb, 0, none⟩ = some (.string (tx f1))) : Calls Tryz.prog 40 #[.agg #[.string (tx x.1), .string (tx x.2)], .pointer (some ⟨fb, 0, none⟩)] w (SayB (decide (x.1 = f1)) w) := by
  obtain ⟨x1, x2⟩ := x
  have hal := (Chg.refl NoB w).alloc (.cells #[.string (tx x1), .string (tx x2)] 43)
  have hb := heap_alloc_new w (.cells #[.string (tx x1), .string (tx x2)] 43)
  have hd2 := hal.keep hf
  have hr := tx_beq x1 f1
  obtain ⟨r, hrr⟩ : ∃ r, r = decide (x1 = f1) := ⟨_, rfl⟩
  rw [← hrr] at hr
  show Calls _ _ _ _ (SayB (decide (x1 = f1)) w)
  rw [← hrr]
  have Hal := Lib.hid hal
  obtain ⟨g0, g1⟩ := var2 hb
  clear hal hb hrr hf
  go_enter Tryz.func40, Tryz.ntmps40
  go_wp2_with fail
  go_ret
  exact ⟨rfl, Hal.out⟩
theorem get1_any (x : FileL) (p : List UInt8) (pb : Nat) (w : World) (hf : w.cell? ⟨pb, 0, none⟩ = some (.string (tx p))) : Calls Tryz.prog 149 #[.agg #[.string (tx x.1), .string (tx x.2)], .pointer (some ⟨pb, 0, none⟩)] w (SayB (decide (x.1 = p)) w) := by
  obtain ⟨x1, x2⟩ := x
  have hal := (Chg.refl NoB w).alloc (.cells #[.string (tx x1), .string (tx x2)] 43)
  have hb := heap_alloc_new w (.cells #[.string (tx x1), .string (tx x2)] 43)
  have hd2 := hal.keep hf
  have hr := tx_beq x1 p
  obtain ⟨r, hrr⟩ : ∃ r, r = decide (x1 = p) := ⟨_, rfl⟩
  rw [← hrr] at hr
  show Calls _ _ _ _ (SayB (decide (x1 = p)) w)
  rw [← hrr]
  have Hal := Lib.hid hal
  obtain ⟨g0, g1⟩ := var2 hb
  clear hal hb hrr hf
  go_enter Tryz.func149, Tryz.ntmps149
  go_wp2_with fail
  go_ret
  exact ⟨rfl, Hal.out⟩
theorem tx_nil (p : List UInt8) : ((tx p).toList == []) = decide (p = []) := by
  have h := tx_beq p []
  rwa [show (tx []).toList = [] by rw [Lib.toList_data, tx_list]] at h
set_option maxHeartbeats 2000000 in
theorem without_any (g : Nat) (lb : Array Value) (eg : ∀ args w, (callFunc g args).run Tryz.prog w = .ok (.enter g args) w) (p : FileL → Bool) (t : List FileL) (S : Nat → Prop) (v : Value) (kb ko : Nat) (w : World) (hl : t.length ≤ 1048576) (hs : InpS w S v t kb ko) (hp : QuietF t g lb p NoB w) :
    Calls Tryz.prog 39 #[.agg #[v], .func (.func g) #[] lb] w fun e w' => Chg NoB w w' ∧ ∃ v', e = .returned v' ∧ w'.ownsRow w.heap.size 43 2 v' (delF p t).length (flatP (delF p t)) := by
  have Hs := Lib.hid hs
  obtain ⟨⟨q, c, rfl, -, -, -⟩, -⟩ := hs
  obtain ⟨n, hn⟩ : ∃ n, n = t.length := ⟨_, rfl⟩
  rw [← hn] at Hs ⊢
  have Hn := Lib.hid hn
  have Hl := Lib.hid hl
  have Hp := Lib.hid hp
  have hal := (Chg.refl NoB w).alloc (.cells #[.slice q n c] 25)
  have hb := heap_alloc_new w (.cells #[.slice q n c] 25)
  have Hal := Lib.hid hal
  have Hc := Lib.hid (fun w' h => clone_any t S _ kb ko w' hl (Hs.out.keep (show Chg NoB w w' from h) fun _ _ => id))
  have f0 := var1 hb
  clear hn hl hp hal hb
  go_enter Tryz.func39, Tryz.ntmps39
  go_wp2_with fail
  refine (Hc.out _ Hal.out).mono ?_
  rintro e w2 ⟨hc2, v2, rfl, hrow2⟩
  obtain ⟨q2, c2, rfl, -, -⟩ := row_shape hrow2
  have Hc2 := Lib.hid (Hal.out.trans hc2)
  have Hbl := Lib.hid (fun j hj => Nat.le_trans Hal.out.size (World.ownsRow.lt hrow2 j hj).1)
  have Hrl := Lib.hid (ownsRow_low Hal.out.size hrow2)
  have Hd := Lib.hid (del_any g lb eg p t _ _ w2 Hl.out Hrl.out (fun W x hx hc => Hp.out W x hx (Hc2.out.above hc fun y hy => Hbl.out y hy)))
  obtain ⟨m, hm⟩ : ∃ m, m = t.length := ⟨_, rfl⟩
  rw [← hm] at Hd Hbl ⊢
  clear hc2 hrow2 f0 hm
  go_wp2_with fail
  refine Hd.out.mono ?_
  rintro e w3 ⟨hc3, v3, rfl, hrow3⟩
  obtain ⟨q3, c3, rfl, -, -⟩ := row_shape hrow3
  have Hc3 := Lib.hid (Hc2.out.above hc3 fun y hy => Hbl.out y hy)
  have Hrow3 := Lib.hid hrow3
  clear hc3 hrow3
  go_wp2_with fail
  go_ret
  exact ⟨Hc3.out, _, rfl, Hrow3.out⟩
theorem getF_some {t : List FileL} {p : List UInt8} {k : Nat} (h : t.findIdx? (fun x => decide (x.1 = p)) = some k) : ∃ hk : k < t.length, getF t p = (t[k].2, true) := by
  obtain ⟨hk, h1, h2⟩ := List.findIdx?_eq_some_iff_getElem.1 h
  refine ⟨hk, ?_⟩
  unfold getF
  have hf : t.find? (fun x => decide (x.1 = p)) = some t[k] := List.find?_eq_some_iff_getElem.2 ⟨h1, k, hk, rfl, fun j hj => by have := h2 j hj; simp at this ⊢; exact this⟩
  rw [hf]
theorem getF_none {t : List FileL} {p : List UInt8} (h : t.findIdx? (fun x => decide (x.1 = p)) = none) : getF t p = ([], false) := by
  unfold getF
  rw [List.find?_eq_none.2 (fun x hx => by have := List.findIdx?_eq_none_iff.1 h x hx; simpa using this)]
set_option maxHeartbeats 2000000 in
theorem get_any (t : List FileL) (p : List UInt8) (S : Nat → Prop) (v : Value) (kb ko : Nat) (w : World) (hl : t.length ≤ 1048576) (hs : InpS w S v t kb ko) :
    Calls Tryz.prog 134 #[.agg #[v], .string (tx p)] w fun e w' => Chg NoB w w' ∧ e = .returned (.tuple #[.string (tx (getF t p).1), .bool (getF t p).2]) := by
  have Hs := Lib.hid hs
  obtain ⟨⟨q, c, rfl, h1, h2, h3⟩, hat⟩ := hs
  obtain ⟨n, hn⟩ : ∃ n, n = t.length := ⟨_, rfl⟩
  rw [← hn] at h1 hl Hs ⊢
  have Hn := Lib.hid hn
  have H3 := Lib.hid h3
  have Hat := Lib.hid hat
  unfold maxLen at h2
  have hal_ := (Chg.refl NoB w).alloc (.cells #[.slice q n c] 25)
  have hb_ := heap_alloc_new w (.cells #[.slice q n c] 25)
  obtain ⟨tb, hxb_⟩ : ∃ b, b = w.heap.size := ⟨_, rfl⟩
  obtain ⟨w1, hw_⟩ : ∃ w_, w.alloc (.cells #[.slice q n c] 25) = w_ := ⟨_, rfl⟩
  have hz_ : w1.heap.size = tb + 1 := by rw [← hw_, hxb_]; exact alloc_size _ _
  rw [hw_] at hal_ hb_
  rw [← hxb_] at hb_
  have Hw1 := Lib.hid hw_
  have Hx1 := Lib.hid hxb_
  have Ha1 := Lib.hid hal_
  have Hb1 := Lib.hid hb_
  have Hz1 := Lib.hid hz_
  clear hal_ hb_ hxb_ hw_ hz_
  have hal_ := (Chg.refl NoB w1).alloc (.cells #[.string (tx p)] 9)
  have hb_ := heap_alloc_new w1 (.cells #[.string (tx p)] 9)
  obtain ⟨pb, hxb_⟩ : ∃ b, b = w1.heap.size := ⟨_, rfl⟩
  obtain ⟨w2, hw_⟩ : ∃ w_, w1.alloc (.cells #[.string (tx p)] 9) = w_ := ⟨_, rfl⟩
  have hz_ : w2.heap.size = pb + 1 := by rw [← hw_, hxb_]; exact alloc_size _ _
  rw [hw_] at hal_ hb_
  rw [← hxb_] at hb_
  have Hw2 := Lib.hid hw_
  have Hx2 := Lib.hid hxb_
  have Ha2 := Lib.hid hal_
  have Hb2 := Lib.hid hb_
  have Hz2 := Lib.hid hz_
  clear hal_ hb_ hxb_ hw_ hz_
  have Hc2 := Lib.hid (Ha1.out.trans Ha2.out)
  have Hb12 := Lib.hid (row_kept Ha2.out Hb1.out id)
  have HI := Lib.hid (indexF_any 149 #[.pointer (some ⟨pb, 0, none⟩)] (enters_of Tryz.func149 (by kernel_rfl) rfl) (fun x => decide (x.1 = p)) t S _ kb ko w2 (by rw [← Hn.out]; exact hl) (Hs.out.keep Hc2.out fun _ _ => id)
    (fun W x hx hc => get1_any x p pb W (var1 (row_kept hc Hb2.out id))))
  obtain ⟨ix, hixd⟩ : ∃ i, i = ixI (t.findIdx? (fun x => decide (x.1 = p))) := ⟨_, rfl⟩
  rw [← hixd] at HI
  have Hix := Lib.hid hixd
  obtain ⟨g1, hg1⟩ : ∃ g, g = (getF t p).1 := ⟨_, rfl⟩
  obtain ⟨g2, hg2⟩ : ∃ g, g = (getF t p).2 := ⟨_, rfl⟩
  rw [← hg1, ← hg2]
  have Hg1 := Lib.hid hg1
  have Hg2 := Lib.hid hg2
  have hpx : tb + 1 = pb := by rw [Hx2.out, Hz1.out]
  have f0 := var1 Hb12.out
  clear hn h3 hat hg1 hg2 hixd
  go_enter Tryz.func134, Tryz.ntmps134
  go_upto_region 1 with fail
  rw [Hw1.out, Hw2.out, ← Hx1.out]
  rw [hpx]
  go_wp2_with fail
  refine HI.out.mono ?_
  rintro e w3 ⟨hc3, rfl⟩
  have Hc3 := Lib.hid (Hc2.out.trans hc3)
  have f0 := var1 (row_kept hc3 Hb12.out id)
  clear hc3 hpx
  cases hix : t.findIdx? (fun x => decide (x.1 = p)) with
  | none =>
    have hg := getF_none hix
    have e1 : g1 = [] := by rw [Hg1.out, hg]
    have e2 : g2 = false := by rw [Hg2.out, hg]
    have e3 : ix = -1 := by rw [Hix.out, hix]; rfl
    subst e1 e2 e3
    clear hix hg
    go_wp2_with fail
    go_ret2
    exact ⟨Hc3.out, rfl⟩
  | some k =>
    obtain ⟨hk, hg⟩ := getF_some hix
    have e1 : g1 = t[k].2 := by rw [Hg1.out, hg]
    have e2 : g2 = true := by rw [Hg2.out, hg]
    have e3 : ix = (k : Int) := by rw [Hix.out, hix]; rfl
    subst e2 e3
    obtain ⟨rfl, -⟩ := H3.out (by rintro rfl; simp at hk)
    have c1 := Hc3.out.keep (Hat.out k hk).2
    have hkn : k < n := by rw [Hn.out]; exact hk
    rw [← e1] at c1
    clear hix hg e1 hk
    have hnn : ¬ (k : Int) < 0 := by omega
    go_wp2_with fail
    go_ret2
    exact ⟨Hc3.out, rfl⟩
end Go.Proofs.YthehpmffkkogpaaGreatDoor
namespace Go.Proofs.YthehpmffkkogpaaGreatDoor
set_option linter.unusedVariables false
open Go.ChangeShapes Go.WideShapes Go.ChangeAt Go.RowKit
theorem putF_no {t : List FileL} {f : FileL} (h : goodF t = false) : putF t f = .error 1 := by unfold putF; rw [if_neg (by rw [h]; decide)]
theorem putF_yes {t : List FileL} {f : FileL} (h : goodF t = true) : putF t f = makeF (delF (fun x => decide (x.1 = f.1)) t ++ [f]) := by unfold putF; rw [if_pos h]
theorem dropF_no {t : List FileL} {p : List UInt8} (h : goodF t = false) : dropF t p = .error 1 := by unfold dropF; rw [if_neg (by rw [h]; decide)]
theorem dropF_all {t : List FileL} {p : List UInt8} (h : goodF t = true) (h2 : (delF (dropP p) t).length = t.length) : dropF t p = .error 14 := by unfold dropF; rw [if_pos h, if_pos h2]
theorem dropF_yes {t : List FileL} {p : List UInt8} (h : goodF t = true) (h2 : (delF (dropP p) t).length ≠ t.length) : dropF t p = .ok (delF (dropP p) t) := by unfold dropF; rw [if_pos h, if_neg h2]
set_option maxHeartbeats 4000000 in
set_option maxRecDepth 20000 in
theorem tput_any (t : List FileL) (f : FileL) (hl : t.length ≤ 1048576) (hw : ∀ x ∈ t, x.1.length ≤ 1048576 ∧ x.2.length ≤ 1048576) (hf1 : f.1.length ≤ 1048576) (hf2 : f.2.length ≤ 1048576) (S : Nat → Prop) (v : Value) (kb ko : Nat) (w : World) (hm : Pth.Ml w) (hs : InpS w S v t kb ko) :
    Calls Tryz.prog 24 #[.agg #[v], .agg #[.string (tx f.1), .string (tx f.2)]] w (MakeP (putF t f) w) := by
  obtain ⟨f1, f2⟩ := f
  change f1.length ≤ 1048576 at hf1
  change f2.length ≤ 1048576 at hf2
  show Calls _ _ #[_, .agg #[.string (tx f1), .string (tx f2)]] _ _
  have Hs := Lib.hid hs
  obtain ⟨⟨q, c, rfl, -, -, -⟩, -⟩ := hs
  have Hm := Lib.hid hm
  have Hl := Lib.hid hl
  have Hw := Lib.hid hw
  have HG := Lib.hid (fun w' (h : Chg NoB w w') => tgood_any t hl hw S _ kb ko w' (ml_keep hm h) (Hs.out.keep h fun _ _ => id))
  obtain ⟨gd, hgd⟩ : ∃ g, g = goodF t := ⟨_, rfl⟩
  rw [← hgd] at HG
  have Hgd := Lib.hid hgd
  obtain ⟨n, hn⟩ : ∃ n, n = t.length := ⟨_, rfl⟩
  rw [← hn] at Hs HG ⊢
  have Hn := Lib.hid hn
  obtain ⟨res, hres⟩ : ∃ r, r = putF t (f1, f2) := ⟨_, rfl⟩
  rw [← hres]
  have Hres0 := Lib.hid hres
  have hal_ := (Chg.refl NoB w).alloc (.cells #[.slice q n c] 25)
  have hb_ := heap_alloc_new w (.cells #[.slice q n c] 25)
  obtain ⟨tb, hxb_⟩ : ∃ b, b = w.heap.size := ⟨_, rfl⟩
  obtain ⟨w1, hw_⟩ : ∃ w_, w.alloc (.cells #[.slice q n c] 25) = w_ := ⟨_, rfl⟩
  have hz_ : w1.heap.size = tb + 1 := by rw [← hw_, hxb_]; exact alloc_size _ _
  rw [hw_] at hal_ hb_
  rw [← hxb_] at hb_
  have Hw1 := Lib.hid hw_
  have Hx1 := Lib.hid hxb_
  have Ha1 := Lib.hid hal_
  have Hb1 := Lib.hid hb_
  have Hz1 := Lib.hid hz_
  clear hal_ hb_ hxb_ hw_ hz_
  have hal_ := (Chg.refl NoB w1).alloc (.cells #[.string (tx f1), .string (tx f2)] 43)
  have hb_ := heap_alloc_new w1 (.cells #[.string (tx f1), .string (tx f2)] 43)
  obtain ⟨fb, hxb_⟩ : ∃ b, b = w1.heap.size := ⟨_, rfl⟩
  obtain ⟨w2, hw_⟩ : ∃ w_, w1.alloc (.cells #[.string (tx f1), .string (tx f2)] 43) = w_ := ⟨_, rfl⟩
  have hz_ : w2.heap.size = fb + 1 := by rw [← hw_, hxb_]; exact alloc_size _ _
  rw [hw_] at hal_ hb_
  rw [← hxb_] at hb_
  have Hw2 := Lib.hid hw_
  have Hx2 := Lib.hid hxb_
  have Ha2 := Lib.hid hal_
  have Hb2 := Lib.hid hb_
  have Hz2 := Lib.hid hz_
  clear hal_ hb_ hxb_ hw_ hz_
  have hal_ := (Chg.refl NoB w2).alloc (.cells #[.slice none 0 0] 25)
  have hb_ := heap_alloc_new w2 (.cells #[.slice none 0 0] 25)
  obtain ⟨rb, hxb_⟩ : ∃ b, b = w2.heap.size := ⟨_, rfl⟩
  obtain ⟨w3, hw_⟩ : ∃ w_, w2.alloc (.cells #[.slice none 0 0] 25) = w_ := ⟨_, rfl⟩
  have hz_ : w3.heap.size = rb + 1 := by rw [← hw_, hxb_]; exact alloc_size _ _
  rw [hw_] at hal_ hb_
  rw [← hxb_] at hb_
  have Hw3 := Lib.hid hw_
  have Hx3 := Lib.hid hxb_
  have Ha3 := Lib.hid hal_
  have Hb3 := Lib.hid hb_
  have Hz3 := Lib.hid hz_
  clear hal_ hb_ hxb_ hw_ hz_
  have Hwr := Lib.hid (show w.heap.size ≤ rb by have := Hx1.out; have := Hz1.out; have := Hx2.out; have := Hz2.out; have := Hx3.out; omega)
  have Hc3 := Lib.hid (Ha1.out.trans (Ha2.out.trans Ha3.out))
  have Ht3 := Lib.hid (row_kept (Ha2.out.trans Ha3.out) Hb1.out id)
  have Hf3 := Lib.hid (row_kept Ha3.out Hb2.out id)
  have hx2 : tb + 1 = fb := by rw [Hx2.out, Hz1.out]
  have hx3 : fb + 1 = rb := by rw [Hx3.out, Hz2.out]
  obtain ⟨i0, hi, hz0, hz1, hz2⟩ := info_parts inpInfo
  have Hi := Lib.hid hi
  have Hz0 := Lib.hid hz0
  have Hzb1 := Lib.hid hz1
  have Hzb2 := Lib.hid hz2
  clear hm hl hw hgd hn hres hi hz0 hz1 hz2
  have t0 := var1 Ht3.out
  go_enter Tryz.func24, Tryz.ntmps24
  go_upto_region 1 with fail
  rw [Hw1.out, Hw2.out, Hw3.out, ← Hx1.out]
  rw [hx2, hx3]
  clear hx2 hx3
  go_wp2_with fail
  refine (HG.out _ Hc3.out).mono ?_
  rintro e w4 ⟨rfl, hc4⟩
  have Hc4 := Lib.hid (Hc3.out.trans hc4)
  have Hr4 := Lib.hid (row_kept hc4 Hb3.out id)
  have Ht4 := Lib.hid (row_kept hc4 Ht3.out id)
  have Hf4 := Lib.hid (row_kept hc4 Hf3.out id)
  clear hc4 t0 HG
  have t0 := var1 Ht4.out
  have r0 := var1 Hr4.out
  have rf := row_free Hr4.out
  cases gd with
  | false =>
    have Hres : Hid (res = .error 1) := Lib.hid (by rw [Hres0.out]; exact putF_no Hgd.out.symm)
    go_wp2_with fail
    have e0 := var1 (heap_set Hr4.out (i := 0) (.slice none 0 0))
    have hfin := Hc4.out.setCell (p := ⟨rb, 0, none⟩) (.inr Hwr.out) (.slice none 0 0)
    generalize w4.setCell ⟨rb, 0, none⟩ (.slice none 0 0) = wf at *
    refine bodyPost_ret (v := .tuple #[.agg #[.slice none 0 0], .int .i64 1]) (by simp [results, Tryz.results24, go_sem, e0]) rfl ⟨hfin, ?_⟩
    rw [Hres.out]
  | true =>
    have hsz := good_sizes Hgd.out.symm
    have Hsz := Lib.hid hsz
    have Hres : Hid (res = makeF (delF (fun x => decide (x.1 = f1)) t ++ [(f1, f2)])) := Lib.hid (by rw [Hres0.out]; exact putF_yes Hgd.out.symm)
    have HW := Lib.hid (without_any 40 #[.pointer (some ⟨fb, 0, none⟩)] (enters_of Tryz.func40 (by kernel_rfl) rfl) (fun x => decide (x.1 = f1)) t S _ kb ko w4 Hl.out (Hs.out.keep Hc4.out fun _ _ => id)
      (fun W x hx hc => put1_any x f1 fb W (var2 (row_kept hc Hf4.out id)).1))
    obtain ⟨d, hd⟩ : ∃ d, d = delF (fun x : FileL => decide (x.1 = f1)) t := ⟨_, rfl⟩
    rw [← hd] at HW Hres
    have hdl : d.length ≤ 32 := by have h1 := del_len (fun x : FileL => decide (x.1 = f1)) t; rw [← hd] at h1; omega
    have hdm : ∀ x ∈ d, x ∈ t := fun x hx => by rw [hd] at hx; exact del_mem hx
    obtain ⟨m, hmd⟩ : ∃ m, m = d.length := ⟨_, rfl⟩
    have Hdm := Lib.hid hdm
    have Hmd := Lib.hid hmd
    have hmb : m ≤ 32 := by omega
    rw [← hmd] at HW
    clear hsz hd hdl hdm hmd r0 rf
    go_wp2_with fail
    refine HW.out.mono ?_
    rintro e w5 ⟨hc5, v5, rfl, hrow5⟩
    obtain ⟨q5, c5, rfl, -, -⟩ := row_shape hrow5
    have Hc5 := Lib.hid (Hc4.out.trans hc5)
    have Hr5 := Lib.hid (row_kept hc5 Hr4.out id)
    have hf5 := row_kept hc5 Hf4.out id
    have hrl := lt_of_block Hr4.out
    obtain ⟨f0, f1'⟩ := var2 hf5
    have hal6 := (Chg.refl NoB w5).alloc (.cells #[.string (tx f1), .string (tx f2)] 43)
    have Hrow6 := Lib.hid (ownsRow_chg hrow5 hal6 fun _ _ => id)
    have Hc6 := Lib.hid (Hc5.out.trans hal6)
    have Hr6 := Lib.hid (row_kept hal6 Hr5.out id)
    have M1 := Lib.hid (show m + 1 ≤ maxLen by unfold maxLen; omega)
    have M2 := Lib.hid (show (m + 1) * 32 ≤ 140737488355328 by omega)
    have Hlz : Hid (w4.heap.size ≤ (w5.alloc (.cells #[.string (tx f1), .string (tx f2)] 43)).heap.size) := Lib.hid (hc5.trans hal6).size
    have Hrl := Lib.hid hrl
    clear hc5 hrow5 hf5 hal6 t0 hrl
    go_wp2_with (at_builtin; refine wpList_append_at _ rfl _ _ 23 rfl w4.heap.size 43 i0 (.agg #[.string ⟨#[]⟩, .string ⟨#[]⟩]) 2 32 Tryz.underlying23 Hi.out Hz0.out Hzb1.out Hzb2.out rfl (by decide) _ m _ rfl Hrow6.out _ 1 1 [.string (tx f1), .string (tx f2)] rfl rfl (lit2 _ _ _ _) (one2 _ _) M1.out M2.out Hlz.out ?_)
    intro v9 w7 hown9 hgr9 hpl9
    obtain ⟨q9, c9, rfl, -, -⟩ := row_shape hown9
    have hch7 : Chg NoB w w7 := Hc6.out.grown hgr9 fun j hj => .inr (by have h1 := (World.ownsRow.lt Hrow6.out j hj).1; have := Hc4.out.size; omega)
    have Hr7 := Lib.hid (row_kept ((Chg.refl (fun j => (Value.slice q5 m c5).ownBlock = some j) _).grown hgr9 fun j hj => .inl hj) Hr6.out (fun e => by have h1 := (World.ownsRow.lt Hrow6.out rb e).1; have := Hrl.out; omega))
    have hrow7 : w7.ownsRow w4.heap.size 43 2 (.slice q9 (m + 1) c9) (d ++ [(f1, f2)]).length (flatP (d ++ [(f1, f2)])) := by
      rw [List.length_append, ← Hmd.out, flatP_app]
      exact hown9
    obtain ⟨nb, hns⟩ := InpS.of_row hrow7
    have Hc7 := Lib.hid hch7
    have HM := Lib.hid (make_any (d ++ [(f1, f2)]) (by rw [List.length_append, ← Hmd.out]; show m + 1 ≤ _; omega) (fun x hx => by
      rcases List.mem_append.1 hx with hx | hx
      · exact Hw.out x (Hdm.out x hx)
      · rw [List.mem_singleton.1 hx]; exact ⟨hf1, hf2⟩) _ _ nb 0 w7 (ml_keep Hm.out hch7) hns)
    have Hrl7 := Lib.hid (lt_of_block Hr7.out)
    rw [← Hres.out] at HM
    clear hown9 hgr9 hpl9 hch7 hrow7 hns f0 f1'
    go_wp2_with fail
    refine HM.out.mono ?_
    intro e w8 hp8
    obtain ⟨q8, n8, c8, y8, rfl, hc8, hps⟩ := hp8.pass
    have Hc8 := Lib.hid (Hc7.out.trans hc8)
    have Hr8 := Lib.hid (row_kept hc8 Hr7.out id)
    have Hps := Lib.hid hps
    have r0 := var1 Hr8.out
    have rf := row_free Hr8.out
    clear hp8 hc8 hps
    go_wp2_with fail
    have e0 := var1 (heap_set Hr8.out (i := 0) (.slice q8 n8 c8))
    have hst : Chg (fun x => x = rb) w8 (w8.setCell ⟨rb, 0, none⟩ (.slice q8 n8 c8)) := (Chg.refl (fun x => x = rb) w8).setCell (p := ⟨rb, 0, none⟩) (.inl rfl) _
    generalize w8.setCell ⟨rb, 0, none⟩ (.slice q8 n8 c8) = wf at *
    exact bodyPost_ret (v := .tuple #[.agg #[.slice q8 n8 c8], .int .i64 y8]) (by simp [results, Tryz.results24, go_sem, e0]) rfl (Hps.out w wf rb Hc7.out Hwr.out Hrl7.out hst)
end Go.Proofs.YthehpmffkkogpaaGreatDoor
