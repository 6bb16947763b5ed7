/- The contract of slices.Insert of one pair into a row of the call's own. Condition: at most 2^20 pairs. -/
import Derived.Test.YtbloglfmhhgccaaShFind
import Derived.Shelf.Spec.SlicesInsert
import Derived.Lib.AppendZerosOnto
import Derived.Laws.CopyRow
import Derived.Laws.NewBlocks

namespace Go.Proofs.Ytbloglfmhhgccaa
set_option linter.unusedVariables false
open Go.ChangeShapes Go.WideShapes Go.ChangeAt Go.RowKit
theorem run_copyK {P : Program} (w : World) (dT sT ty elem : TypeId) (k g o dLen dCap : Nat) (a : Addr) (sLen sCap m : Nat) (cur : Array Value) (t : TypeId) (cs : List Value)
    (hu : P.underlying dT = some (.slice elem)) (hs : (P.info? elem).map (·.size) = some k)
    (hg : w.heap[g]? = some (.cells cur t (0, 0))) (hm : m = Nat.min sLen dLen) (hn : cs.length = m * k)
    (hsrc : ∀ j v, cs[j]? = some v → w.cell? (a.add j) = some v) (hfit : o + cs.length ≤ cur.size) (h1 : ∀ v ∈ cs, v.oneCell' = true) :
    (Builtin.copy_ #[dT, sT] ty #[.slice (some ⟨g, o, none⟩) dLen dCap, .slice (some a) sLen sCap]).run P w =
      .ok (goInt m) (w.setRow g (cur.toList.take o ++ cs ++ cur.toList.drop (o + cs.length)).toArray) := by
  have hl := run_loadCells_list (P := P) w a cs hsrc
  have hst := run_storeCells_at P g o t cs 0 cur w hg (by simpa using hfit) h1
  rw [hn] at hl
  cases hq : P.info? elem with
  | none => simp [hq] at hs
  | some i =>
    have hi : i.size = k := by simpa [hq] using hs
    simp [Builtin.copy_, run_underlying hu, Builtin.lenOf, Builtin.firstCells, sizeOf, typeInfo, hq, hi, ← hm, hl, hst]
theorem pairInfo : (Try.prog.info? 61).map (fun i => (i.zero, i.size, i.bytes)) = some (some (.agg #[.string ⟨#[]⟩, .string ⟨#[]⟩]), 2, 32) := by kernel_rfl
theorem sizeP (w : World) : (Go.sizeOf 61).run Try.prog w = .ok 2 w := by kernel_rfl
def InsP (ps : List FileL) (x : FileL) (i lo : Nat) (v : Value) (w : World) (e : Ending) (w' : World) : Prop :=
  ∃ q' c', e = .returned (.slice q' (ps.length + 1) c') ∧ w'.ownsRow lo 61 2 (.slice q' (ps.length + 1) c') (ps.length + 1) (flatP (putI ps i x)) ∧ Chg (fun k => v.ownBlock = some k) w w' ∧ ∀ g, (Value.slice q' (ps.length + 1) c').ownBlock = some g → v.ownBlock = some g ∨ w.heap.size ≤ g
set_option maxHeartbeats 2000000 in
set_option maxRecDepth 20000 in
theorem insert_end (ps : List FileL) (x : FileL) (hl : ps.length ≤ 1048576) (lo : Nat) (q : Option Addr) (c vb : Nat) (w : World) (hown : w.ownsRow lo 61 2 (.slice q ps.length c) ps.length (flatP ps))
    (hv : w.heap[vb]? = some (.cells #[.string (tx x.1), .string (tx x.2)] 61 (0, 0))) (hlo : lo ≤ w.heap.size) :
    Calls Try.prog 33 #[.slice q ps.length c, .int .i64 ps.length, .slice (some ⟨vb, 0, none⟩) 1 1] w (InsP ps x ps.length lo (.slice q ps.length c) w) := by
  have Hown := Lib.hid hown
  obtain ⟨n, hn⟩ : ∃ n, n = ps.length := ⟨_, rfl⟩
  rw [← hn] at Hown hl ⊢
  unfold InsP
  rw [← hn]
  have hnc : n ≤ c := by
    obtain ⟨q', c', e, h, -⟩ := row_shape Hown.out
    simp only [Value.slice.injEq] at e
    obtain ⟨-, -, rfl⟩ := e
    exact h
  have hcm : c ≤ maxLen := by
    obtain ⟨q', c', e, -, h⟩ := row_shape Hown.out
    simp only [Value.slice.injEq] at e
    obtain ⟨-, -, rfl⟩ := e
    exact h
  unfold maxLen at hcm
  have Hn := Lib.hid hn
  obtain ⟨q1, c1, hsl, -, -⟩ := rest_any 55 61 2 Try.underlying55 (fun w => sizeP w) q n c n (Nat.le_refl _) hnc
  obtain ⟨i0, hi, hz0, hz1, hz2⟩ := info_parts pairInfo
  have Hi := Lib.hid hi
  have Hz0 := Lib.hid hz0
  have Hzb1 := Lib.hid hz1
  have Hzb2 := Lib.hid hz2
  have Hnews := Lib.hid (show ∀ (j : Nat) (u : Value), [Value.string (tx x.1), .string (tx x.2)][j]? = some u → w.cell? ((⟨vb, 0, none⟩ : Addr).add j) = some u from fun j u hj => by
    rw [add_zero_off, cell_of_row w vb j _ _ (0, 0) hv]
    rw [← hj]; simp)
  have H1 := Lib.hid (one2 (tx x.1) (tx x.2))
  have M1 := Lib.hid (show n + 1 ≤ maxLen by unfold maxLen; omega)
  have M2 := Lib.hid (show (n + 1) * 32 ≤ 140737488355328 by omega)
  have Hlo := Lib.hid hlo
  clear hown hv hn hi hz0 hz1 hz2 hlo
  go_enter Try.func33, Try.ntmps33
  go_wp2_with (at_builtin; refine wpList_append_at _ rfl _ _ 55 rfl lo 61 i0 (.agg #[.string ⟨#[]⟩, .string ⟨#[]⟩]) 2 32 Try.underlying55 Hi.out Hz0.out Hzb1.out Hzb2.out rfl (by decide) _ n (flatP ps) rfl Hown.out ⟨vb, 0, none⟩ 1 1 [.string (tx x.1), .string (tx x.2)] rfl rfl Hnews.out H1.out M1.out M2.out Hlo.out ?_; intro v2 w2 hown2 hgr2 hpl2; have Hown2 := Lib.hid hown2; have Hgr2 := Lib.hid hgr2; have Hpl2 := Lib.hid hpl2; clear hown2 hgr2 hpl2)
  go_ret
  obtain ⟨q', c', rfl, -, -⟩ := row_shape Hown2.out
  refine ⟨q', c', rfl, ?_, (Chg.refl _ w).grown Hgr2.out fun k hk => .inl hk, fun g hg => ?_⟩
  · have e : flatP (putI ps n x) = flatP ps ++ [.string (tx x.1), .string (tx x.2)] := by
      unfold putI
      rw [Hn.out, List.take_length, List.drop_length, flatP_app]; rfl
    rw [e]; exact Hown2.out
  · rcases Hpl2.out with h | h
    · rw [hg] at h; exact .inl h.symm
    · rw [hg] at h; cases h; exact .inr (Nat.le_refl _)
theorem row_known {w : World} {lo n c z g : Nat} {t : TypeId} {xs : List Value} (h : w.ownsRow lo t z (.slice (some ⟨g, 0, none⟩) n c) n xs) : ∃ cur : Array Value, lo ≤ g ∧ w.heap[g]? = some (.cells cur t (0, 0)) ∧ n ≤ c ∧ c ≤ maxLen ∧ cur.size = c * z ∧ cur.toList.take (n * z) = xs := by
  rcases h.2 with ⟨e, _⟩ | ⟨g', cap', cur, e, hb, hh, h3, h4, h5, h6⟩
  · cases e
  · simp only [Value.slice.injEq, Option.some.injEq] at e
    obtain ⟨e1, -, rfl⟩ := e
    cases e1
    exact ⟨cur, hb, hh, h3, h4, h5, h6⟩
theorem shape_of {w : World} {b : Nat} {cs : Array Value} {t : TypeId} {f : Nat × Nat} (h : w.heap[b]? = some (.cells cs t f)) : w.shape? b = some (t, cs.size) := by
  unfold World.shape?
  rw [h]
theorem setRow_chg {w : World} {g : Nat} {cs : Array Value} : Chg (fun k => k = g) w (w.setRow g cs) := by
  refine ⟨rfl, rfl, rfl, by simp [World.setRow], fun k hk hne => ?_⟩
  have : g ≠ k := fun e => hne e.symm
  simp [World.setRow, Array.getElem?_modify, this]
theorem shift_cells (cur F vs : List Value) (n i c : Nat) (hct : cur.take (n * 2) = F) (hF : F.length = n * 2) (hi : i < n) (hz : cur.length = c * 2) (hc : n + 1 ≤ c) (hv : vs.length = 2) (cur1 : List Value)
    (h1 : cur1 = cur.take ((i + 1) * 2) ++ F.drop (i * 2) ++ cur.drop ((i + 1) * 2 + (F.drop (i * 2)).length)) :
    (cur1.take (i * 2) ++ vs ++ cur1.drop (i * 2 + 2)).take ((n + 1) * 2) = F.take (i * 2) ++ vs ++ F.drop (i * 2) ∧ (cur1.take (i * 2) ++ vs ++ cur1.drop (i * 2 + 2)).length = c * 2 := by
  have hl1 : cur1.length = c * 2 := by
    rw [h1]; simp [List.length_drop, hF, hz]; omega
  have e1 : cur1.take (i * 2) = F.take (i * 2) := by
    rw [h1, List.append_assoc, List.take_append_of_le_length (by rw [List.length_take]; omega), List.take_take, ← hct, List.take_take]
    congr 1; omega
  have e2 : cur1.drop (i * 2 + 2) = F.drop (i * 2) ++ cur.drop ((i + 1) * 2 + (F.drop (i * 2)).length) := by
    rw [h1, List.append_assoc]
    have hl : (cur.take ((i + 1) * 2)).length = i * 2 + 2 := by rw [List.length_take]; omega
    rw [← hl, List.drop_left]
  constructor
  · rw [e1, e2, ← List.append_assoc]
    have hl : (F.take (i * 2) ++ vs ++ F.drop (i * 2)).length = (n + 1) * 2 := by simp [hv, hF]; omega
    rw [← hl, List.take_left]
  · rw [List.length_append, List.length_append, List.length_take, List.length_drop, hl1, hv]; omega
set_option maxHeartbeats 4000000 in
set_option maxRecDepth 100000 in
theorem insert_shift (ps : List FileL) (x : FileL) (i : Nat) (hin : i < ps.length) (hl : ps.length ≤ 1048576) (lo g c vb : Nat) (w : World) (hown : w.ownsRow lo 61 2 (.slice (some ⟨g, 0, none⟩) ps.length c) ps.length (flatP ps)) (hroom : ps.length + 1 ≤ c)
    (hv : w.heap[vb]? = some (.cells #[.string (tx x.1), .string (tx x.2)] 61 (0, 0))) (hne : vb ≠ g) :
    Calls Try.prog 33 #[.slice (some ⟨g, 0, none⟩) ps.length c, .int .i64 i, .slice (some ⟨vb, 0, none⟩) 1 1] w (InsP ps x i lo (.slice (some ⟨g, 0, none⟩) ps.length c) w) := by
  obtain ⟨cur, hg0, hg, -, hcm, hcz, hct⟩ := row_known hown
  obtain ⟨F, hF⟩ : ∃ F, F = flatP ps := ⟨_, rfl⟩
  have hFl : F.length = ps.length * 2 := by rw [hF, flatP_len]
  have hF1 : ∀ u ∈ F, u.oneCell' = true := by rw [hF]; exact flatP_one ps
  rw [← hF] at hct
  obtain ⟨n, hn⟩ : ∃ n, n = ps.length := ⟨_, rfl⟩
  unfold InsP
  rw [← hn] at hin hl hroom hct hFl ⊢
  have hu := Try.underlying55
  obtain ⟨i0, hi, hz0, hz1, hz2⟩ := info_parts pairInfo
  have hsz : (Try.prog.info? 61).map (·.size) = some 2 := by rw [hi]; simp [hz1]
  unfold maxLen at hcm
  -- what stands in the row
  have hcell : ∀ j u, F[j]? = some u → w.cell? ⟨g, j, none⟩ = some u := fun j u hj => by
    have hlt := (List.getElem?_eq_some_iff.1 hj).1
    rw [cell_of_row w g j _ _ (0, 0) hg, ← Array.getElem?_toList]
    rw [← hct, List.getElem?_take_of_lt (by omega)] at hj
    exact hj
  have hov : ∀ lb cb, (callFunc 43 #[.slice (some ⟨vb, 0, none⟩) 1 1, .slice (some ⟨g, (i + 1) * 2, none⟩) lb cb]).run Try.prog w = .ok (.value (.bool false)) w := fun lb cb => by
    rw [run_callFunc_extern Try.func43 (by kernel_rfl) (by kernel_rfl) (by kernel_rfl) (e := Extern.SlicesOverlaps.overlaps #[55, 55] #[4]) (by kernel_rfl),
      Lib.run_overlaps_apart w 55 4 61 hu 2 (fun w => sizeP w) ⟨vb, 0, none⟩ ⟨g, (i + 1) * 2, none⟩ 1 1 lb cb hne 61 61 2 cur.size (shape_of hv) (shape_of hg) (by omega) (row_free hv 0) (row_free hv 2)]
    rfl
  -- the first copy
  have hcp1 : ∀ (W : World), W.heap = w.heap → ∀ ty dc sc, (Builtin.copy_ #[55, 55] ty #[.slice (some ⟨g, (i + 1) * 2, none⟩) (n - i) dc, .slice (some ⟨g, i * 2, none⟩) (n + 1 - i) sc]).run Try.prog W =
      .ok (goInt (n - i : Nat)) (W.setRow g (cur.toList.take ((i + 1) * 2) ++ F.drop (i * 2) ++ cur.toList.drop ((i + 1) * 2 + (F.drop (i * 2)).length)).toArray) := fun W hW ty dc sc =>
    run_copyK W _ _ ty 61 2 g ((i + 1) * 2) (n - i) dc ⟨g, i * 2, none⟩ (n + 1 - i) sc (n - i) cur 61 (F.drop (i * 2)) hu hsz (by rw [hW]; exact hg) (by simp only [Nat.min_def]; split <;> omega) (by rw [List.length_drop, hFl]; omega)
      (fun j u hj => by
        rw [List.getElem?_drop] at hj
        have := hcell _ _ hj
        rw [Go.WideShapes.add_plain]
        unfold World.cell? at this ⊢
        rw [hW]; exact this)
      (by rw [List.length_drop, hFl]; omega) (fun u hu => hF1 u (List.mem_of_mem_drop hu))
  obtain ⟨cur1, hcur1⟩ : ∃ c1, c1 = (cur.toList.take ((i + 1) * 2) ++ F.drop (i * 2) ++ cur.toList.drop ((i + 1) * 2 + (F.drop (i * 2)).length)).toArray := ⟨_, rfl⟩
  rw [← hcur1] at hcp1
  have hc1z : cur1.size = c * 2 := by
    rw [hcur1]; simp [List.length_drop, hFl, hcz]; omega
  have hvs : ∀ (W : World), W.heap = (w.setRow g cur1).heap → ∀ j u, [Value.string (tx x.1), .string (tx x.2)][j]? = some u → W.cell? ((⟨vb, 0, none⟩ : Addr).add j) = some u := fun W hW j u hj => by
    have h1 : (w.setRow g cur1).heap[vb]? = some (.cells #[.string (tx x.1), .string (tx x.2)] 61 (0, 0)) := row_kept setRow_chg hv hne
    rw [← hW] at h1
    rw [add_zero_off, cell_of_row W vb j _ _ (0, 0) h1]
    rw [← hj]; simp
  have hcp2 : ∀ (W : World), W.heap = (w.setRow g cur1).heap → ∀ ty dc, (Builtin.copy_ #[55, 55] ty #[.slice (some ⟨g, i * 2, none⟩) (n + 1 - i) dc, .slice (some ⟨vb, 0, none⟩) 1 1]).run Try.prog W =
      .ok (goInt (1 : Nat)) (W.setRow g (cur1.toList.take (i * 2) ++ [Value.string (tx x.1), Value.string (tx x.2)] ++ cur1.toList.drop (i * 2 + 2)).toArray) := fun W hW ty dc =>
    run_copyK W _ _ ty 61 2 g (i * 2) (n + 1 - i) dc ⟨vb, 0, none⟩ 1 1 1 cur1 61 [.string (tx x.1), .string (tx x.2)] hu hsz (by rw [hW]; exact setRow_heap w g cur _ 61 (0, 0) hg) (by simp only [Nat.min_def]; split <;> omega) rfl (hvs W hW) (by simp; omega) (one2 _ _)
  have hb2 : ¬ (c = i + 1) := by omega
  have hb4 : ¬ (c = i) := by omega
  have hin2 : (i : Int) ≤ (n : Int) := by omega
  have hne2 : ¬ ((i : Int) = (n : Int)) := by omega
  have hgt : ¬ ((c : Int) < (n : Int) + 1) := by omega
  have hb1 : (0 : Int) ≤ (i : Int) + 1 := by omega
  have hb5 : (i : Int) + 1 ≤ (n : Int) + 1 := by omega
  have hb6 : (i : Int) ≤ (n : Int) + 1 := by omega
  have hb7 : (n : Int) + 1 ≤ (c : Int) := by omega
  have htn : ((i : Int) + 1).toNat = i + 1 := by omega
  have htn2 : ((n : Int) + 1).toNat = n + 1 := by omega
  have HF := Lib.hid hF
  have Hn := Lib.hid hn
  have Hct := Lib.hid hct
  have HFl := Lib.hid hFl
  have Hcur1 := Lib.hid hcur1
  have Hcz := Lib.hid hcz
  have Hc1z := Lib.hid hc1z
  have Hg := Lib.hid hg
  have Hc1 := Lib.hid (hcp1 w.drew rfl 3 (c - (i + 1)) (c - i))
  obtain ⟨LA, hLA⟩ : ∃ LA, LA = (cur1.toList.take (i * 2) ++ [Value.string (tx x.1), Value.string (tx x.2)] ++ cur1.toList.drop (i * 2 + 2)).toArray := ⟨_, rfl⟩
  have hc2 := hcp2 (w.drew.setRow g cur1) rfl 3 (c - i)
  rw [← hLA] at hc2
  have Hc2 := Lib.hid hc2
  have HLA := Lib.hid hLA
  clear hcp1 hcp2 hc2 hLA hF hn hct hFl hcur1 hcz hc1z hg hu hi hz0 hz1 hz2 hsz hcell hvs hv hown
  go_enter Try.func33, Try.ntmps33
  go_wp2_with (simp only [hov])
  have hw1 : IntKind.i64.wrap ((i : Int) + 1) = (i : Int) + 1 := by rw [IntKind.wrap_i64]; omega
  go_region_law (refine step_copy_runI rfl (.tmp 73) (.tmp 76) 55 55 rfl (.slice (some ⟨g, (i + 1) * 2, none⟩) (n - i) (c - (i + 1))) (.slice (some ⟨g, i * 2, none⟩) (n + 1 - i) (c - i)) (by simp [Act.eval, Act.put]) (by simp [Act.eval, Act.put]) Hc1.out ?_)
  clear hw1
  have hc2 := Hc2.out
  go_wp2_with fail
  go_ret
  clear htn htn2 hc2 hov
  obtain ⟨h1, h2⟩ := shift_cells cur.toList F [.string (tx x.1), .string (tx x.2)] n i c Hct.out HFl.out (by omega) (by rw [Array.length_toList]; exact Hcz.out) (by omega) rfl cur1.toList (by rw [Hcur1.out])
  have hg1 : (w.drew.setRow g cur1).heap[g]? = some (.cells cur1 61 (0, 0)) := setRow_heap w.drew g cur _ 61 (0, 0) Hg.out
  have hg2 := setRow_heap (w.drew.setRow g cur1) g cur1 LA 61 (0, 0) hg1
  refine ⟨some ⟨g, 0, none⟩, c, rfl, ⟨?_, .inr ⟨g, c, LA, rfl, hg0, hg2, by omega, by unfold maxLen; omega, by rw [HLA.out, List.size_toArray]; exact h2, ?_⟩⟩, ?_, fun k hk => .inl hk⟩
  · rw [flatP_len, put_len (by rw [← Hn.out]; omega), ← Hn.out]
  · rw [HLA.out, List.toList_toArray, h1, HF.out, ← put_flat]
  · exact (((Chg.refl (fun k => k = g) w).drew.trans setRow_chg).trans setRow_chg).mono fun k _ hk => by have : k = g := hk; subst this; rfl
theorem grow_cells (row F vs : List Value) (n i z : Nat) (hF : F.length = n * 2) (hi : i < n) (hz : row.length = z) (hzn : (n + 1) * 2 ≤ z) (ht : row.take (i * 2) = F.take (i * 2)) (hv : vs.length = 2) (row1 : List Value)
    (h1 : row1 = row.take (i * 2) ++ vs ++ row.drop (i * 2 + 2)) :
    (row1.take ((i + 1) * 2) ++ F.drop (i * 2) ++ row1.drop ((i + 1) * 2 + (F.drop (i * 2)).length)).take ((n + 1) * 2) = F.take (i * 2) ++ vs ++ F.drop (i * 2) ∧
    (row1.take ((i + 1) * 2) ++ F.drop (i * 2) ++ row1.drop ((i + 1) * 2 + (F.drop (i * 2)).length)).length = z := by
  have hl1 : row1.length = z := by
    rw [h1, List.length_append, List.length_append, List.length_take, List.length_drop, hz, hv]; omega
  have e1 : row1.take ((i + 1) * 2) = F.take (i * 2) ++ vs := by
    have hl : (row.take (i * 2) ++ vs).length = (i + 1) * 2 := by rw [List.length_append, List.length_take, hz, hv]; omega
    rw [h1, ← hl, List.take_left, ht]
  have hd : (F.drop (i * 2)).length = n * 2 - i * 2 := by rw [List.length_drop, hF]
  constructor
  · have hl : (F.take (i * 2) ++ vs ++ F.drop (i * 2)).length = (n + 1) * 2 := by
      rw [List.length_append, List.length_append, List.length_take, hd, hF, hv]; omega
    rw [e1, ← hl, List.take_left]
  · simp only [List.length_append, List.length_take, List.length_drop, hl1, hF]; omega
set_option maxHeartbeats 4000000 in
set_option maxRecDepth 100000 in
theorem insert_grow (ps : List FileL) (x : FileL) (i : Nat) (hin : i < ps.length) (hl : ps.length ≤ 1048576) (lo g c vb : Nat) (w : World) (hown : w.ownsRow lo 61 2 (.slice (some ⟨g, 0, none⟩) ps.length c) ps.length (flatP ps)) (hroom : c < ps.length + 1)
    (hv : w.heap[vb]? = some (.cells #[.string (tx x.1), .string (tx x.2)] 61 (0, 0))) (hlo : lo ≤ w.heap.size) :
    Calls Try.prog 33 #[.slice (some ⟨g, 0, none⟩) ps.length c, .int .i64 i, .slice (some ⟨vb, 0, none⟩) 1 1] w (InsP ps x i lo (.slice (some ⟨g, 0, none⟩) ps.length c) w) := by
  obtain ⟨cur, hg0, hg, hnc0, hcm, hcz, hct⟩ := row_known hown
  obtain ⟨F, hF⟩ : ∃ F, F = flatP ps := ⟨_, rfl⟩
  have hFl : F.length = ps.length * 2 := by rw [hF, flatP_len]
  have hF1 : ∀ u ∈ F, u.oneCell' = true := by rw [hF]; exact flatP_one ps
  rw [← hF] at hct
  obtain ⟨n, hn⟩ : ∃ n, n = ps.length := ⟨_, rfl⟩
  unfold InsP
  rw [← hn] at hin hl hroom hct hFl hnc0 ⊢
  obtain rfl : c = n := by omega
  have hu := Try.underlying55
  obtain ⟨i0, hi, hz0, hz1, hz2⟩ := info_parts pairInfo
  have hsz : (Try.prog.info? 61).map (·.size) = some 2 := by rw [hi]; simp [hz1]
  unfold maxLen at hcm
  have hcell : ∀ j u, F[j]? = some u → w.cell? ⟨g, j, none⟩ = some u := fun j u hj => by
    have hlt := (List.getElem?_eq_some_iff.1 hj).1
    rw [cell_of_row w g j _ _ (0, 0) hg, ← Array.getElem?_toList]
    rw [← hct, List.getElem?_take_of_lt (by omega)] at hj
    exact hj
  have hold : (Builtin.firstCells i0.size i (.slice (some ⟨g, 0, none⟩) i c)).run Try.prog w.drew = .ok (F.take (i * 2)).toArray w.drew := by
    rw [hz1]
    exact run_firstCells_some w.drew 2 i ⟨g, 0, none⟩ i c (F.take (i * 2)) (by rw [List.length_take, hFl]; omega) (fun j u hj => by
      have hlt := (List.getElem?_eq_some_iff.1 hj).1
      rw [List.length_take] at hlt
      rw [List.getElem?_take_of_lt (by omega)] at hj
      rw [add_zero_off]
      exact hcell j u hj)
  have hik : i + (c + 1 - i) = c + 1 := by omega
  have hkk : (c : Int) + 1 - (i : Int) = ((c + 1 - i : Nat) : Int) := by omega
  obtain ⟨G, hG⟩ : ∃ G, G = grownCap w (c + 1) c 61 := ⟨_, rfl⟩
  have hGn : c + 1 ≤ G := by rw [hG]; exact grownCap_ge w _ _ _
  have hGm : G ≤ maxLen := by rw [hG]; exact grownCap_le_maxLen w (c + 1) c 61 (by unfold maxLen; omega)
  obtain ⟨ROW, hROW⟩ : ∃ ROW : Array Value, ROW = (F.take (i * 2)).toArray ++ Builtin.zeroCells (Value.agg #[.string ⟨#[]⟩, .string ⟨#[]⟩]).cells (c + 1 - i) ++ Builtin.zeroCells (Value.agg #[.string ⟨#[]⟩, .string ⟨#[]⟩]).cells (G - (c + 1)) := ⟨_, rfl⟩
  have hRz : ROW.size = G * 2 := by
    rw [hROW]
    simp [Builtin.zeroCells, Value.cells, hFl]
    omega
  have hRt : ROW.toList.take (i * 2) = F.take (i * 2) := by
    have hl : (F.take (i * 2)).length = i * 2 := by rw [List.length_take, hFl]; omega
    rw [hROW]
    simp only [Array.toList_append, List.append_assoc]
    rw [List.take_append_of_le_length (by rw [hl]; exact Nat.le_refl _), List.take_take, Nat.min_self]
  obtain ⟨W1, hW1⟩ : ∃ W1, W1 = w.drew.alloc (.cells ROW 61) := ⟨_, rfl⟩
  have hrz : ∀ ty, (Builtin.append_ #[55, 3] ty #[.slice (some ⟨g, 0, none⟩) i c, .int .i64 ((c : Int) + 1 - (i : Int))]).run Try.prog w = .ok (.slice (some ⟨w.heap.size, 0, none⟩) (c + 1) G) W1 := fun ty => by
    have h := Lib.run_append_grow_zeros w 55 3 ty 61 i0 _ .i64 .i64 hu Try.underlying3 hi hz0 (some ⟨g, 0, none⟩) i c (F.take (i * 2)) hold (c + 1 - i) (by omega) (by rw [hz1]; decide) (by omega) (by omega) (by rw [hz2]; omega) (by rw [hz2, hik]; exact growslice_fits (by omega) (by omega))
    rw [hik, ← hG, ← hROW, ← hW1] at h
    rw [hkk]
    exact h
  have hc1 : Chg NoB w W1 := by rw [hW1]; exact (Chg.refl NoB w).drew.alloc _
  obtain ⟨N, hN⟩ : ∃ N, N = w.heap.size := ⟨_, rfl⟩
  rw [← hN] at hrz
  have hgN : g < N := by rw [hN]; exact lt_of_block hg
  have hvN : vb < N := by rw [hN]; exact lt_of_block hv
  have hb1 : W1.heap[N]? = some (.cells ROW 61 (0, 0)) := by rw [hW1, hN]; exact heap_alloc_new w.drew _
  have hcp1 : (Builtin.copy_ #[55, 55] 3 #[.slice (some ⟨N, i * 2, none⟩) (c + 1 - i) (G - i), .slice (some ⟨vb, 0, none⟩) 1 1]).run Try.prog W1 =
      .ok (goInt (1 : Nat)) (W1.setRow N (ROW.toList.take (i * 2) ++ [Value.string (tx x.1), Value.string (tx x.2)] ++ ROW.toList.drop (i * 2 + 2)).toArray) :=
    run_copyK W1 _ _ 3 61 2 N (i * 2) (c + 1 - i) (G - i) ⟨vb, 0, none⟩ 1 1 1 ROW 61 [.string (tx x.1), .string (tx x.2)] hu hsz hb1 (by simp only [Nat.min_def]; split <;> omega) rfl (fun j u hj => by
        rw [add_zero_off, cell_of_row W1 vb j _ _ (0, 0) (row_kept hc1 hv id)]
        rw [← hj]; simp) (by simp; omega) (one2 _ _)
  obtain ⟨ROW1, hROW1⟩ : ∃ R1, R1 = (ROW.toList.take (i * 2) ++ [Value.string (tx x.1), Value.string (tx x.2)] ++ ROW.toList.drop (i * 2 + 2)).toArray := ⟨_, rfl⟩
  rw [← hROW1] at hcp1
  obtain ⟨W2, hW2⟩ : ∃ W2, W2 = W1.setRow N ROW1 := ⟨_, rfl⟩
  rw [← hW2] at hcp1
  have hb2 : W2.heap[N]? = some (.cells ROW1 61 (0, 0)) := by rw [hW2]; exact setRow_heap W1 N ROW _ 61 (0, 0) hb1
  have hc2 : Chg (fun k => k = N) W1 W2 := by rw [hW2]; exact setRow_chg
  have hR1z : ROW1.size = G * 2 := by
    rw [hROW1, List.size_toArray, List.length_append, List.length_append, List.length_take, List.length_drop, Array.length_toList, hRz]
    simp; omega
  have hcp2 : (Builtin.copy_ #[55, 55] 3 #[.slice (some ⟨N, (i + 1) * 2, none⟩) (c - i) (G - (i + 1)), .slice (some ⟨g, i * 2, none⟩) (c - i) (c - i)]).run Try.prog W2.drew =
      .ok (goInt (c - i : Nat)) (W2.drew.setRow N (ROW1.toList.take ((i + 1) * 2) ++ F.drop (i * 2) ++ ROW1.toList.drop ((i + 1) * 2 + (F.drop (i * 2)).length)).toArray) :=
    run_copyK W2.drew _ _ 3 61 2 N ((i + 1) * 2) (c - i) (G - (i + 1)) ⟨g, i * 2, none⟩ (c - i) (c - i) (c - i) ROW1 61 (F.drop (i * 2)) hu hsz hb2 (by simp) (by rw [List.length_drop, hFl]; omega)
      (fun j u hj => by
        rw [List.getElem?_drop] at hj
        rw [Go.WideShapes.add_plain]
        exact ((hc2.drew).cell (hc1.keep (hcell _ _ hj)) (show ¬ g = N by omega)))
      (by rw [List.length_drop, hFl]; omega) (fun u hu => hF1 u (List.mem_of_mem_drop hu))
  obtain ⟨R2, hR2⟩ : ∃ R2, R2 = (ROW1.toList.take ((i + 1) * 2) ++ F.drop (i * 2) ++ ROW1.toList.drop ((i + 1) * 2 + (F.drop (i * 2)).length)).toArray := ⟨_, rfl⟩
  rw [← hR2] at hcp2
  have Hcp2 := Lib.hid hcp2
  have Hcp1 := Lib.hid hcp1
  have Hrz := Lib.hid (hrz 55)
  have hGi : ¬ (G = i) := by unfold maxLen at hGm; omega
  have hGi1 : ¬ (G = i + 1) := by omega
  have hci : ¬ (c = i) := by omega
  have hin2 : (i : Int) ≤ (c : Int) := by omega
  have hne2 : ¬ ((i : Int) = (c : Int)) := by omega
  have hgt : (c : Int) < (c : Int) + 1 := by omega
  have hbb1 : (0 : Int) ≤ (i : Int) + 1 := by omega
  have hbb5 : (i : Int) + 1 ≤ (c : Int) + 1 := by omega
  have hbb6 : (i : Int) ≤ (c : Int) + 1 := by omega
  have htn : ((i : Int) + 1).toNat = i + 1 := by omega
  have HF := Lib.hid hF
  have Hn := Lib.hid hn
  have HFl := Lib.hid hFl
  have HROW1 := Lib.hid hROW1
  have HRz := Lib.hid hRz
  have HRt := Lib.hid hRt
  have HR2 := Lib.hid hR2
  have HN := Lib.hid hN
  have Hb2 := Lib.hid hb2
  have Hc1 := Lib.hid hc1
  have Hc2 := Lib.hid hc2
  unfold maxLen at hGm
  clear hcp1 hcp2 hrz hF hn hct hFl hROW1 hROW hRz hRt hR2 hN hb1 hb2 hc1 hc2 hW1 hW2 hR1z hG hg hu hi hz0 hz1 hz2 hsz hcell hv hown hold hik hkk
  go_enter Try.func33, Try.ntmps33
  have hcp := Hcp1.out
  go_wp2_with (at_builtin; refine Lib.wpList_append_run _ rfl (.tmp 34) (.tmp 39) _ _ rfl _ _ rfl rfl _ _ Hrz.out ?_)
  have hw1 : IntKind.i64.wrap ((i : Int) + 1) = (i : Int) + 1 := by rw [IntKind.wrap_i64]; omega
  go_region_law (refine step_copy_runI rfl (.tmp 50) (.tmp 53) 55 55 rfl (.slice (some ⟨N, (i + 1) * 2, none⟩) (c - i) (G - (i + 1))) (.slice (some ⟨g, i * 2, none⟩) (c - i) (c - i)) (by simp [Act.eval, Act.put]) (by simp [Act.eval, Act.put]) Hcp2.out ?_)
  clear hw1 hcp
  go_wp2_with fail
  go_ret
  clear htn
  obtain ⟨h1, h2⟩ := grow_cells ROW.toList F [.string (tx x.1), .string (tx x.2)] c i (G * 2) HFl.out (by omega) (by rw [Array.length_toList]; exact HRz.out) (by omega) HRt.out rfl ROW1.toList (by rw [HROW1.out])
  have hg2 := setRow_heap W2.drew N ROW1 R2 61 (0, 0) Hb2.out
  refine ⟨some ⟨N, 0, none⟩, G, rfl, ⟨?_, .inr ⟨N, G, R2, rfl, by omega, hg2, hGn, by unfold maxLen; omega, by rw [HR2.out, List.size_toArray]; exact h2, ?_⟩⟩, ?_, fun k hk => ?_⟩
  · rw [flatP_len, put_len (by rw [← Hn.out]; omega), ← Hn.out]
  · rw [HR2.out, List.toList_toArray, h1, HF.out, ← put_flat]
  · exact ((Hc1.out.above (Hc2.out.drew.trans setRow_chg) fun k hk => by have h : k = N := hk; have := HN.out; omega)).mono fun k _ h => h.elim
  · cases hk; exact .inr (by rw [HN.out]; exact Nat.le_refl _)
theorem insert_any (ps : List FileL) (x : FileL) (i : Nat) (hi : i ≤ ps.length) (hl : ps.length ≤ 1048576) (lo : Nat) (q : Option Addr) (c vb : Nat) (w : World) (hown : w.ownsRow lo 61 2 (.slice q ps.length c) ps.length (flatP ps))
    (hv : w.heap[vb]? = some (.cells #[.string (tx x.1), .string (tx x.2)] 61 (0, 0))) (hne : ∀ g, (Value.slice q ps.length c).ownBlock = some g → g ≠ vb) (hlo : lo ≤ w.heap.size) :
    Calls Try.prog 33 #[.slice q ps.length c, .int .i64 i, .slice (some ⟨vb, 0, none⟩) 1 1] w (InsP ps x i lo (.slice q ps.length c) w) := by
  by_cases hin : i = ps.length
  · subst hin; exact insert_end ps x hl lo q c vb w hown hv hlo
  · have hlt : i < ps.length := by omega
    obtain ⟨g, rfl⟩ : ∃ g, q = some ⟨g, 0, none⟩ := by
      rcases hown.2 with ⟨e, h0⟩ | ⟨g', cap', cur, e, _⟩
      · omega
      · simp only [Value.slice.injEq] at e
        exact ⟨g', e.1⟩
    by_cases hr : ps.length + 1 ≤ c
    · exact insert_shift ps x i hlt hl lo g c vb w hown hr hv (Ne.symm (hne g rfl))
    · exact insert_grow ps x i hlt hl lo g c vb w hown (by omega) hv hlo
end Go.Proofs.Ytbloglfmhhgccaa
