/- The statement's gone: a going over by Leaves is the document's list, as far as it goes. Condition: the list is the document's. -/
import Derived.Test.YtodcbagjmbdafaaDoorSxDown
import Derived.Test.YtodcbagjmbdafaaDoorSxFrame
import Derived.Test.YtodcbagjmbdafaaDoorSxWrites
namespace Go.Proofs.YtodcbagjmbdafaaDoor
set_option linter.unusedVariables false
open Go.ChangeShapes Go.WideShapes Go.ChangeAt Go.RowKit Go.Shelf
attribute [local go_sem] Oper.semAt_some
/- the five variables of a going over, in the world w -/
structure Vars5 (w W : World) (lf : Bool) (at' : ByteArray) (q : Option Addr) (len c : Nat) (wv : Value) (most : Int) : Prop where
  chg : Chg NoB w W
  size : W.heap.size = w.heap.size + 5
  nod : W.heap[w.heap.size]? = some (.cells #[.bool lf, .string at', .slice q len c] 24 (0, 0))
  wnt : Boxed W (w.heap.size + 1) 35 wv
  mst : Boxed W (w.heap.size + 1 + 1) 3 (.int .i64 most)
  res : Boxed W (w.heap.size + 1 + 1 + 1) 4 (.bool false)
  idx : Boxed W (w.heap.size + 1 + 1 + 1 + 1) 3 (.int .i64 0)
theorem vars5 (w : World) (lf : Bool) (at' : ByteArray) (q : Option Addr) (len c : Nat) (wv : Value) (most : Int) :
    Vars5 w (((((w.alloc (.cells #[.bool lf, .string at', .slice q len c] 24)).alloc (.cells #[wv] 35)).alloc (.cells #[.int .i64 most] 3)).alloc (.cells #[.bool false] 4)).alloc (.cells #[.int .i64 0] 3)) lf at' q len c wv most := by
  obtain ⟨w1, h1⟩ : ∃ w1, w1 = w.alloc (.cells #[.bool lf, .string at', .slice q len c] 24) := ⟨_, rfl⟩
  obtain ⟨w2, h2⟩ : ∃ w2, w2 = w1.alloc (.cells #[wv] 35) := ⟨_, rfl⟩
  obtain ⟨w3, h3⟩ : ∃ w3, w3 = w2.alloc (.cells #[.int .i64 most] 3) := ⟨_, rfl⟩
  obtain ⟨w4, h4⟩ : ∃ w4, w4 = w3.alloc (.cells #[.bool false] 4) := ⟨_, rfl⟩
  obtain ⟨w5, h5⟩ : ∃ w5, w5 = w4.alloc (.cells #[.int .i64 0] 3) := ⟨_, rfl⟩
  rw [← h1, ← h2, ← h3, ← h4, ← h5]
  have s1 : w1.heap.size = w.heap.size + 1 := by rw [h1]; exact alloc_size _ _
  have s2 : w2.heap.size = w.heap.size + 1 + 1 := by rw [h2, alloc_size, s1]
  have s3 : w3.heap.size = w.heap.size + 1 + 1 + 1 := by rw [h3, alloc_size, s2]
  have s4 : w4.heap.size = w.heap.size + 1 + 1 + 1 + 1 := by rw [h4, alloc_size, s3]
  have s5 : w5.heap.size = w.heap.size + 5 := by rw [h5, alloc_size, s4]
  have c1 : Chg NoB w w1 := by rw [h1]; exact (Chg.refl NoB w).alloc _
  have c2 : Chg NoB w1 w2 := by rw [h2]; exact (Chg.refl NoB w1).alloc _
  have c3 : Chg NoB w2 w3 := by rw [h3]; exact (Chg.refl NoB w2).alloc _
  have c4 : Chg NoB w3 w4 := by rw [h4]; exact (Chg.refl NoB w3).alloc _
  have c5 : Chg NoB w4 w5 := by rw [h5]; exact (Chg.refl NoB w4).alloc _
  have b1 := heap_alloc_new w (.cells #[.bool lf, .string at', .slice q len c] 24)
  have b2 := heap_alloc_new w1 (.cells #[wv] 35)
  have b3 := heap_alloc_new w2 (.cells #[.int .i64 most] 3)
  have b4 := heap_alloc_new w3 (.cells #[.bool false] 4)
  have b5 := heap_alloc_new w4 (.cells #[.int .i64 0] 3)
  rw [← h1] at b1
  rw [← h2, s1] at b2
  rw [← h3, s2] at b3
  rw [← h4, s3] at b4
  rw [← h5, s4] at b5
  exact ⟨c1.trans (c2.trans (c3.trans (c4.trans c5))), s5, row_kept (c2.trans (c3.trans (c4.trans c5))) b1 id, row_kept (c3.trans (c4.trans c5)) b2 id, row_kept (c4.trans c5) b3 id, row_kept c5 b4 id, b5⟩
/- a list of texts, as it is read -/
theorem TxRow.shape {w : World} {lo : Nat} {v : Value} {ts : List ByteArray} (h : TxRow w lo v ts) : ∃ a cap, v = .slice a ts.length cap ∧ (ts ≠ [] → ∃ g, a = some ⟨g, 0, none⟩ ∧ lo ≤ g ∧ g < w.heap.size ∧ ∀ j (hj : j < ts.length), w.cell? ⟨g, j, none⟩ = some (.string ts[j])) := by
  have hlt := World.ownsRow.lt h
  have hcl := fun g hg => World.ownsRow.cells (g := g) h hg
  rcases h.2 with ⟨rfl, h0⟩ | ⟨g, cap, cur, rfl, hb, hh, h3, h4, _⟩
  · exact ⟨none, 0, by rw [h0], fun hn => absurd (List.eq_nil_of_length_eq_zero h0) hn⟩
  · refine ⟨_, cap, rfl, fun _ => ⟨g, rfl, hb, (hlt g rfl).2, fun j hj => ?_⟩⟩
    have := hcl g rfl j (.string ts[j]) (by rw [List.getElem?_map, List.getElem?_eq_getElem hj]; rfl)
    rwa [add_zero_off] at this
/- between two rounds: what has come is a beginning of the list -/
structure GI (w : World) (ts : List ByteArray) (wv : Value) (most : Int) (pre : List ByteArray) (W : World) : Prop where
  chg : Below w.heap.size w W
  size : w.heap.size + 5 ≤ W.heap.size
  wnt : Boxed W (w.heap.size + 1) 35 wv
  mst : Boxed W (w.heap.size + 1 + 1) 3 (.int .i64 most)
  res : Boxed W (w.heap.size + 1 + 1 + 1) 4 (.bool false)
  idx : Boxed W (w.heap.size + 1 + 1 + 1 + 1) 3 (.int .i64 (pre.length : Int))
def GF (most : Int) (pre : List ByteArray) : Prop := pre = [] ∨ (pre.length : Int) < most
def GE (most : Int) (pre : List ByteArray) : Prop := (pre.length : Int) = most ∨ (most < 1 ∧ pre.length = 1)
theorem GI.step {w : World} {ts : List ByteArray} {wv : Value} {most : Int} {pre : List ByteArray} {W : World} (h : GI w ts wv most pre W) (x : ByteArray) {v : Int} (hv : v = (pre.length : Int) + 1) :
    GI w ts wv most (pre ++ [x]) (W.setCell ⟨w.heap.size + 1 + 1 + 1 + 1, 0, none⟩ (.int .i64 v)) := by
  have hst : Chg (fun k => k = w.heap.size + 1 + 1 + 1 + 1) W (W.setCell ⟨w.heap.size + 1 + 1 + 1 + 1, 0, none⟩ (.int .i64 v)) := (Chg.refl (fun k => k = w.heap.size + 1 + 1 + 1 + 1) W).setCell (p := ⟨w.heap.size + 1 + 1 + 1 + 1, 0, none⟩) (.inl rfl) (.int .i64 v)
  refine ⟨h.chg.setCell (p := ⟨w.heap.size + 1 + 1 + 1 + 1, 0, none⟩) (by show w.heap.size ≤ w.heap.size + 1 + 1 + 1 + 1; omega) _, Nat.le_trans h.size hst.size, row_kept hst h.wnt (by omega), row_kept hst h.mst (by omega), row_kept hst h.res (by omega), ?_⟩
  have := h.idx.set (.int .i64 v)
  rw [hv] at this ⊢
  rw [List.length_append]
  exact this
/- behind the loop: the answer is laid, the rounds' list is empty -/
theorem GI.fin {w : World} {ts : List ByteArray} {wv : Value} {most : Int} {pre : List ByteArray} {W w7 : World} {D : Nat} (h : GI w ts wv most pre W) (hK : W.heap[D]? = some (.deferred (some []))) (hz : w.heap.size + 5 ≤ w7.heap.size) (hD : w7.heap.size ≤ D) :
    (W.setCell ⟨w.heap.size + 1 + 1 + 1, 0, none⟩ (.bool true)).heap[D]? = some (.deferred (some [])) ∧ ((W.setCell ⟨w.heap.size + 1 + 1 + 1, 0, none⟩ (.bool true)).putObj D (.deferred none)).cell? ⟨w.heap.size + 1 + 1 + 1, 0, none⟩ = some (.bool true) ∧
      Chg NoB w ((W.setCell ⟨w.heap.size + 1 + 1 + 1, 0, none⟩ (.bool true)).putObj D (.deferred none)) := by
  have hK' := (KeepsOthers.setCell W ⟨w.heap.size + 1 + 1 + 1, 0, none⟩ (.bool true)).same D _ hK rfl
  have hr := (h.res.set (.bool true)).cell
  have hB := (h.chg.setCell (p := ⟨w.heap.size + 1 + 1 + 1, 0, none⟩) (by show w.heap.size ≤ w.heap.size + 1 + 1 + 1; omega) (.bool true)).trans (belowK_b (w := w) (Nat.le_refl _) _ D _ (.deferred none) (by omega) hK' rfl rfl)
  exact ⟨hK', cell_kept hr (grownBy_putObj' _ D (.deferred none)) (fun r e => by cases e; exact ⟨_, hK', rfl⟩), ⟨hB.os, hB.tape, hB.output, hB.size, fun k hk _ => hB.block k hk⟩⟩
theorem GI.own {w : World} {ts : List ByteArray} {wv : Value} {most : Int} {B : Nat} (hB : w.heap.size + 5 ≤ B) : OwnFrom B (GI w ts wv most) := fun s W W' row hs hg hr => by
  have hne : ∀ k, k < w.heap.size + 5 → some k ≠ row := fun k hk e => by
    have := (hr k e.symm).1
    omega
  exact ⟨hs.chg.grown hg (Nat.le_trans (Nat.le_add_right _ 5) hs.size) (fun k e => by have := (hr k e).1; omega), Nat.le_trans hs.size hg.size,
    hs.wnt.kept hg (hne _ (by omega)), hs.mst.kept hg (hne _ (by omega)), hs.res.kept hg (hne _ (by omega)), hs.idx.kept hg (hne _ (by omega))⟩
set_option maxRecDepth 100000 in
set_option maxHeartbeats 1000000 in
theorem gone_any (n : Nd) (hn : n.count ≤ 1048576) (S : Nat → Prop) (v : Value) (lo : Nat) (wv : Value) (most : Int) (w : World) (hv : NdV w S v n) (hr : TxRow w lo wv n.leaves) :
    Calls Tryd.prog 19 #[v, wv, .int .i64 most] w fun e w' => e = .returned (.bool true) ∧ Chg NoB w w' := by
  have hll := n.leaves_le
  obtain ⟨q, len, c, rfl⟩ := box_node hv
  obtain ⟨wa, wc, rfl, hwt⟩ := hr.shape
  obtain ⟨tl, htl⟩ : ∃ tl, tl = n.leaves.length := ⟨_, rfl⟩
  rw [← htl] at hll ⊢
  have h5 := vars5 w n.leaf n.atom q len c (.slice wa tl wc) most
  obtain ⟨w5, hw5⟩ : ∃ w5, ((((w.alloc (.cells #[.bool n.leaf, .string n.atom, .slice q len c] 24)).alloc (.cells #[.slice wa tl wc] 35)).alloc (.cells #[.int .i64 most] 3)).alloc (.cells #[.bool false] 4)).alloc (.cells #[.int .i64 0] 3) = w5 := ⟨_, rfl⟩
  rw [hw5] at h5
  obtain ⟨v0, v1, v2⟩ := var3 h5.nod
  have H5 := Lib.hid h5
  have Hw5 := Lib.hid hw5
  have Hlv := Lib.hid ((callsIn_wide (n := 3 - 1)).2 (leaves_new n hn S _ w5 (hv.keep h5.chg fun _ _ => id)))
  have Hwt := Lib.hid hwt
  have Htl := Lib.hid htl
  have Hll := Lib.hid (Nat.le_trans hll hn)
  have Ha := Lib.hid hv.1
  clear h5 hr hv hll hwt htl hw5 v0 v1 v2
  refine (callsIn_wide (n := 3)).1 ?_
  refine callsIn_of_wp_marks Tryd.func19 rfl trivial ?_ rfl
  simp only [Tryd.ntmps19, List.size_toArray, List.length_cons, List.length_nil, Nat.reduceAdd, Nat.reduceSub, Array.replicate_succ, Array.replicate_zero, List.push_toArray, List.append_toArray, List.nil_append, List.cons_append]
  gi_wp2_with ((try refine ⟨trivial, ?_⟩); gi_at_call 23; rw [Hw5.out]; refine Hlv.out.mono ?_; rintro e w7 ⟨hc7, b, s', kb', ko', rfl, hbge, hblk, hs'⟩)
  have hz7 : w.heap.size + 5 ≤ w7.heap.size := by have := H5.out.size; have := hc7.size; omega
  have hT : ∀ k, (k = w.heap.size + 1 + 1 + 1 ∨ k = w.heap.size + 1 + 1 + 1 + 1) → k < w5.heap.size := fun k hk => by have := H5.out.size; omega
  have hGI7 : GI w n.leaves (.slice wa tl wc) most [] w7 := ⟨(H5.out.chg.trans hc7).below, hz7, row_kept hc7 H5.out.wnt id, row_kept hc7 H5.out.mst id, row_kept hc7 H5.out.res id, row_kept hc7 H5.out.idx id⟩
  refine wpIn_rangeFunc_ownF (α := ByteArray) rfl (by decide) (gf := 32) (lb := #[.pointer (some ⟨b, 0, none⟩)]) rfl trivial (enters_of Tryd.func32 (by kernel_rfl) rfl)
    (leaves1_stops Fence.wide rfl (3 - 1) trivial trivial rfl b (fun k => k = w.heap.size + 1 + 1 + 1 ∨ k = w.heap.size + 1 + 1 + 1 + 1) (NewB w5 w7) n hn s' kb' ko' w7 (fun k hk ht => by have := hT k ht; have := hk.1; omega) (fun k hk => hk.2) (fun k hk ht => by have := hT k ht; have := hc7.size; omega) hblk Ha.out hs')
    KeepT.trans (fun W l o o' _ h hc _ => KeepT.putObj W l o o' h hc) (Below.refl _ _) (fun _ => rfl)
    (fun pre W => GI w n.leaves (.slice wa tl wc) most pre W ∧ (pre <+: n.leaves ∧ GF most pre))
    (fun co pre W => (GI w n.leaves (.slice wa tl wc) most pre W ∧ (co = .exit 0 ∧ GE most pre)) ∨ (co = .ret ∧ ¬ pre <+: n.leaves))
    (OwnFrom.and (GI.own hz7) (ownFrom_pure _ fun pre => pre <+: n.leaves ∧ GF most pre))
    (fun co s W W' row hs hg hr => hs.elim (fun h => .inl ⟨GI.own hz7 s W W' row h.1 hg hr, h.2⟩) .inr)
    ⟨hGI7, List.nil_prefix, .inl rfl⟩
    (fun x => { tmps := #[.agg #[.bool n.leaf, .string n.atom, .slice q len c], .slice wa tl wc, .int .i64 most, .pointer (some ⟨w.heap.size, 0, none⟩), .pointer (some ⟨w.heap.size + 1, 0, none⟩), .pointer (some ⟨w.heap.size + 1 + 1, 0, none⟩), .pointer (some ⟨w.heap.size + 1 + 1 + 1, 0, none⟩), .pointer (some ⟨w.heap.size + 1 + 1 + 1 + 1, 0, none⟩), .string x, .agg #[.bool n.leaf, .string n.atom, .slice q len c], .func (.func 32) #[] #[.pointer (some ⟨b, 0, none⟩)], .string x, undef, undef, undef, undef, undef, undef, undef, undef, undef, undef, undef, undef, undef, undef, undef, undef, undef, undef, undef, undef, undef, undef, undef, undef, undef, undef, undef, undef, undef, undef, undef, undef, undef, undef], defers := [] }) ?assign ?body ?done ?stop
  case assign =>
    intro l x W K hK
    gi_wp2
    exact hK
  case body =>
    rintro l pre x W ⟨hgi, hpre, hgf⟩ hlen
    obtain ⟨g, rfl, -, hgw, hcells⟩ := Hwt.out (by intro e; rw [e] at hlen; simp at hlen)
    have hx0 : W.cell? ⟨g, pre.length, none⟩ = some (.string n.leaves[pre.length]) := (hgi.chg.cell (p := ⟨g, pre.length, none⟩) hgw).trans (hcells pre.length hlen)
    have hbeg := List.prefix_iff_eq_take.1 hpre
    have hnext : ∀ y, (pre ++ [y]) <+: n.leaves ↔ y = n.leaves[pre.length] := fun y => by
      constructor
      · rintro ⟨r, hr⟩
        have : n.leaves[pre.length]? = some y := by rw [← hr]; simp
        rw [List.getElem?_eq_getElem hlen] at this
        exact (Option.some.inj this).symm
      · rintro rfl
        refine ⟨n.leaves.drop (pre.length + 1), ?_⟩
        rw [List.append_assoc, List.singleton_append, ← List.drop_eq_getElem_cons hlen]
        conv => lhs; arg 1; rw [hbeg]
        exact List.take_append_drop _ _
    have Hnext := Lib.hid hnext
    clear hbeg hnext hpre hcells
    generalize n.leaves[pre.length] = y at *
    obtain ⟨pl, hpl⟩ : ∃ pl, pl = pre.length := ⟨_, rfl⟩
    rw [← Htl.out, ← hpl] at hlen
    have i0 := hgi.idx.cell
    have i1 := hgi.idx.frozen
    have r0 := hgi.res.cell
    have r1 := hgi.res.frozen
    have w0 := hgi.wnt.cell
    have m0 := hgi.mst.cell
    rw [← hpl] at hx0 i0
    have hpb : pl ≤ 1048576 := by have := Hll.out; omega
    have Hgi := Lib.hid hgi
    have Hgf := Lib.hid hgf
    have Hpl := Lib.hid hpl
    clear hgi hgf hpl hGI7 hs' hblk hT
    dsimp only
    by_cases hxy : x = y
    · subst hxy
      have hk : KeepT (fun k => k = w.heap.size + 1 + 1 + 1 ∨ k = w.heap.size + 1 + 1 + 1 + 1) W (W.setCell ⟨w.heap.size + 1 + 1 + 1 + 1, 0, none⟩ (.int .i64 (pl + 1))) :=
        ((Chg.refl (fun k => k = w.heap.size + 1 + 1 + 1 ∨ k = w.heap.size + 1 + 1 + 1 + 1) W).setCell (p := ⟨w.heap.size + 1 + 1 + 1 + 1, 0, none⟩) (.inl (.inr rfl)) (.int .i64 (pl + 1))).keepT fun _ h => h
      have hgi' : GI w n.leaves (.slice (some ⟨g, 0, none⟩) tl wc) most (pre ++ [x]) (W.setCell ⟨w.heap.size + 1 + 1 + 1 + 1, 0, none⟩ (.int .i64 (pl + 1))) := Hgi.out.step x (by rw [Hpl.out])
      have hpre' := (Hnext.out x).2 rfl
      have hgf := Hgf.out
      have hlen1 : (pre ++ [x]).length = pl + 1 := by rw [List.length_append, ← Hpl.out]; rfl
      have Hk := Lib.hid hk
      have Hgi' := Lib.hid hgi'
      have Hpre' := Lib.hid hpre'
      have Hgf' := Lib.hid hgf
      have Hlen1 := Lib.hid hlen1
      clear hk hgi' hpre' hgf hlen1
      gi_wp2
      · rename_i hm
        refine ⟨KeepsOthers.setCell _ _ _, .inl ⟨Hgi'.out, rfl, ?_⟩⟩
        unfold GE
        rw [Hlen1.out]
        rcases Hgf'.out with h | h
        · have : pl = 0 := by rw [Hpl.out, h]; rfl
          omega
        · rw [← Hpl.out] at h
          omega
      · rename_i hm
        refine ⟨KeepsOthers.setCell _ _ _, Hk.out, Hgi'.out, Hpre'.out, .inr ?_⟩
        rw [Hlen1.out]
        omega
    · have hne : (x.toList == y.toList) = false := by
        rw [beq_eq_false_iff_ne]
        intro h
        apply hxy
        rw [Lib.toList_data, Lib.toList_data] at h
        rw [← mk_bytes x, ← mk_bytes y, h]
      gi_wp2
      exact ⟨KeepsOthers.setCell _ _ _, .inr ⟨rfl, fun h => hxy ((Hnext.out x).1 h)⟩⟩
  case done =>
    rintro D ys W hD rfl ⟨hgi, hpre, hgf⟩ hK
    have i0 := hgi.idx.cell
    have r0 := hgi.res.cell
    have r1 := hgi.res.frozen
    have w0 := hgi.wnt.cell
    have m0 := hgi.mst.cell
    rw [← Htl.out] at i0
    have Hgi := Lib.hid hgi
    have HK := Lib.hid hK
    clear hgi hpre hgf hK hGI7 hs' hblk hT
    have HE := Lib.hid (Hgi.out.fin HK.out hz7 hD)
    gi_wp2
    refine ⟨by simp, .inl ⟨_, _, rfl, run_takeDeferred (HE.out.1), ?_⟩⟩
    have hc6 := HE.out.2.1
    refine ⟨.bool true, ?_, rfl, HE.out.2.2⟩
    simp [results, Tryd.f19, go_sem, hc6]
  case stop =>
    rintro D co pre W hD hpre (⟨hgi, rfl, hge⟩ | ⟨rfl, hno⟩) hK
    · have i0 := hgi.idx.cell
      have r0 := hgi.res.cell
      have r1 := hgi.res.frozen
      have w0 := hgi.wnt.cell
      have m0 := hgi.mst.cell
      have Hgi := Lib.hid hgi
      have HK := Lib.hid hK
      have Hge := Lib.hid hge
      obtain ⟨pl, hpl⟩ : ∃ pl, pl = pre.length := ⟨_, rfl⟩
      rw [← hpl] at i0
      have Hpl := Lib.hid hpl
      clear hgi hpre hge hK hGI7 hs' hblk hT hpl
      have HE := Lib.hid (Hgi.out.fin HK.out hz7 hD)
      by_cases h1 : (pl : Int) = (tl : Int)
      · have b1 : ((pl : Int) == (tl : Int)) = true := by rw [beq_iff_eq]; exact h1
        rw [h1] at i0
        clear h1 b1
        gi_wp2
        refine ⟨by simp, .inl ⟨_, _, rfl, run_takeDeferred (HE.out.1), ?_⟩⟩
        have hc6 := HE.out.2.1
        refine ⟨.bool true, ?_, rfl, HE.out.2.2⟩
        simp [results, Tryd.f19, go_sem, hc6]
      · have b1 : ((pl : Int) == (tl : Int)) = false := by rw [beq_eq_false_iff_ne]; exact h1
        clear h1
        by_cases h2 : (pl : Int) = most
        · have b2 : ((pl : Int) == most) = true := by rw [beq_iff_eq]; exact h2
          clear h2
          gi_wp2
          refine ⟨by simp, .inl ⟨_, _, rfl, run_takeDeferred (HE.out.1), ?_⟩⟩
          have hc6 := HE.out.2.1
          refine ⟨.bool true, ?_, rfl, HE.out.2.2⟩
          simp [results, Tryd.f19, go_sem, hc6]
        · have b2 : ((pl : Int) == most) = false := by rw [beq_eq_false_iff_ne]; exact h2
          obtain ⟨h3, h4⟩ := Hge.out.resolve_left (by rw [← Hpl.out]; exact h2)
          rw [← Hpl.out] at h4
          have b3 : ((pl : Int) == 1) = true := by rw [beq_iff_eq]; omega
          clear h2 h4
          gi_wp2
          refine ⟨by simp, .inl ⟨_, _, rfl, run_takeDeferred (HE.out.1), ?_⟩⟩
          have hc6 := HE.out.2.1
          refine ⟨.bool true, ?_, rfl, HE.out.2.2⟩
          simp [results, Tryd.f19, go_sem, hc6]
    · exact absurd hpre hno
end Go.Proofs.YtodcbagjmbdafaaDoor
