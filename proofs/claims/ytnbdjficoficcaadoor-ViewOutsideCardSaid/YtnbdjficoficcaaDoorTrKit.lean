/- What is put is got, what is mounted is cut out again, two mounts in either order: in lists. No condition. -/
import Derived.Test.YtnbdjficoficcaaDoorTrOps
import Derived.Test.YtnbdjficoficcaaDoorTrSet
import Derived.Test.YtnbdjficoficcaaDoorTrDm
import Derived.Test.YtnbdjficoficcaaDoorTrOpen
import Derived.Test.YtnbdjficoficcaaDoorTrPut
namespace Go.Proofs.YtnbdjficoficcaaDoor
set_option linter.unusedVariables false
open Go.ChangeShapes Go.WideShapes Go.ChangeAt Go.RowKit
theorem sort_sorted {l : List FileL} (h : Asc l) : sortF l = l := asc_perm (sortF_asc l) h (sortF_perm (asc_nodup h))
theorem make_again {l d : List FileL} (h : makeF l = .ok d) : goodF d = true := by
  obtain ⟨h1, h2, h3, h4, h5⟩ := make_parts h
  obtain ⟨h6, h7⟩ := make_len h
  have hasc : Asc d := by rw [h5]; exact sortF_asc l
  refine good_iff.2 ?_
  have hb : badF d = none := badF_none.2 fun x hx => h2 x (h7.mem_iff.1 hx)
  have hc : clashF d = false := by rw [clashF_perm h7]; exact h4
  have := make_ok (l := d) (by omega) hb (asc_nodup hasc) hc
  rw [this, sort_sorted hasc]
theorem make_asc {l d : List FileL} (h : makeF l = .ok d) : Asc d := by
  obtain ⟨-, -, -, -, h5⟩ := make_parts h
  rw [h5]
  exact sortF_asc l
theorem good_asc {l : List FileL} (h : goodF l = true) : Asc l := make_asc (good_ok h)
/- got -/
theorem getF_mem {l : List FileL} (h : (keysL l).Nodup) {x : FileL} (hx : x ∈ l) : getF l x.1 = (x.2, true) := by
  unfold getF
  cases hf : l.find? (fun y => decide (y.1 = x.1)) with
  | none => exact absurd (List.find?_eq_none.1 hf x hx) (by simp)
  | some y =>
    have h1 := List.find?_some hf
    have h2 := List.mem_of_find?_eq_some hf
    have h3 : y.1 = x.1 := by simpa using h1
    have h4 : y = x := by
      obtain ⟨i, hi, rfl⟩ := List.getElem_of_mem h2
      obtain ⟨j, hj, rfl⟩ := List.getElem_of_mem hx
      have h5 : i = j := by
        have h6 : (keysL l)[i]'(by unfold keysL; simpa using hi) = (keysL l)[j]'(by unfold keysL; simpa using hj) := by unfold keysL; simpa using h3
        exact (List.getElem_inj h).1 h6
      subst h5
      rfl
    subst h4
    rfl
theorem put_ok {t : List FileL} {f : FileL} {u : List FileL} (h : putF t f = .ok u) : goodF t = true ∧ u.Perm (delF (fun x => decide (x.1 = f.1)) t ++ [f]) ∧ (keysL u).Nodup ∧ u.length ≤ 32 ∧ ∀ x ∈ u, x.1.length ≤ 128 ∧ x.2.length ≤ 2048 := by
  unfold putF at h
  split at h
  · rename_i hg
    exact ⟨hg, (make_len h).2, asc_nodup (make_asc h), (good_sizes (make_again h)).1, (good_sizes (make_again h)).2⟩
  · cases h
theorem put_got {t : List FileL} {f : FileL} {u : List FileL} (h : putF t f = .ok u) : getF u f.1 = (f.2, true) := by
  obtain ⟨-, hp, hn, -⟩ := put_ok h
  exact getF_mem hn (hp.mem_iff.2 (by simp))
theorem put_other {t : List FileL} {f g : FileL} {u : List FileL} (h : putF t f = .ok u) (hg : g ∈ t) (hne : g.1 ≠ f.1) : getF u g.1 = (g.2, true) := by
  obtain ⟨-, hp, hn, -⟩ := put_ok h
  refine getF_mem hn (hp.mem_iff.2 (List.mem_append.2 (.inl ?_)))
  unfold delF
  rw [List.mem_filter]
  exact ⟨hg, by simpa using hne⟩
/- joined -/
theorem joinF_mem {d : List UInt8} : ∀ {a l : List FileL}, joinF d a = some l → ∀ x ∈ l, ∃ y ∈ a, Pth.joinL d y.1 = some x.1 ∧ x.2 = y.2
  | [], l, h => by cases h; exact fun x hx => by cases hx
  | y :: r, l, h => by
    rw [joinF] at h
    split at h
    · rename_i h0
      cases hr : joinF d r with
      | none => rw [hr] at h; cases h
      | some l' =>
        rw [hr] at h
        cases h
        intro x hx
        rcases List.mem_cons.1 hx with rfl | hx
        · refine ⟨y, List.mem_cons_self .., ?_, rfl⟩
          rcases jn_cases d y.1 with ⟨-, h1⟩ | ⟨h1, -⟩
          · exact h1
          · omega
        · obtain ⟨z, hz, h1⟩ := joinF_mem hr x hx
          exact ⟨z, List.mem_cons_of_mem _ hz, h1⟩
    · cases h
theorem und_ne {d s r : List UInt8} (hd : d ≠ []) (h : Pth.underL d s = some r) : s = (d ++ [47]) ++ r := by
  unfold Pth.underL at h
  split at h
  · try rw [if_neg hd] at h
    split at h
    · rename_i hp
      cases h
      obtain ⟨t, rfl⟩ := List.isPrefixOf_iff_prefix.1 hp
      rw [show d.length + 1 = (d ++ [47]).length by simp, List.drop_left]
    · cases h
  · cases h
theorem jn_ne {d s r : List UInt8} (hd : d ≠ []) (h : Pth.joinL d s = some r) : r = (d ++ [47]) ++ s := by
  unfold Pth.joinL at h
  split at h
  · cases h
    unfold Pth.glue
    rw [if_neg hd]
    simp
  · cases h
theorem jn_place {d s r : List UInt8} (h : Pth.joinL d s = some r) : Pth.placeL d = true ∧ Pth.goodL r = true ∧ Pth.goodL s = true := by
  unfold Pth.joinL at h
  split at h
  · rename_i h1
    cases h
    exact ⟨h1.2.1, h1.2.2, h1.1⟩
  · cases h
theorem place_ne {d : List UInt8} (hd : d ≠ []) (h : Pth.placeL d = true) : Pth.goodL d = true := by
  rwa [← place_full' hd]
theorem jn_und {d s r : List UInt8} (h : Pth.joinL d s = some r) : Pth.underL d r = some s := by
  obtain ⟨h1, h2, h3⟩ := jn_place h
  by_cases hd : d = []
  · subst hd
    unfold Pth.joinL at h
    split at h
    · cases h
      show Pth.underL [] s = some s
      unfold Pth.underL
      rw [if_pos ⟨h3, h1⟩, if_pos rfl]
    · cases h
  · have e := jn_ne hd h
    unfold Pth.underL
    rw [if_pos ⟨h2, h1⟩, if_neg hd, if_pos (by rw [e]; exact List.isPrefixOf_iff_prefix.2 ⟨s, rfl⟩), e, show d.length + 1 = (d ++ [47]).length by simp, List.drop_left]
theorem cutL_map (d : List UInt8) (l : List FileL) : cutL d l = l.filterMap fun x => (Pth.underL d x.1).map fun p => (p, x.2) := by
  induction l with
  | nil => rfl
  | cons x r ih =>
    rw [cutL, ih]
    cases h : Pth.underL d x.1 with
    | none =>
      have h1 : undL d x.1 = ([], false) := by unfold undL; rw [h]
      rw [h1, if_neg (by decide), List.filterMap_cons_none (by rw [h]; rfl)]
    | some p =>
      have h1 : undL d x.1 = (p, true) := by unfold undL; rw [h]
      rw [h1, if_pos rfl, List.filterMap_cons_some (by rw [h]; rfl)]
theorem cutL_app (d : List UInt8) (a b : List FileL) : cutL d (a ++ b) = cutL d a ++ cutL d b := by rw [cutL_map, cutL_map, cutL_map, List.filterMap_append]
theorem cutL_perm {d : List UInt8} {a b : List FileL} (h : a.Perm b) : (cutL d a).Perm (cutL d b) := by rw [cutL_map, cutL_map]; exact h.filterMap _
theorem cutL_join {d : List UInt8} : ∀ {a l : List FileL}, joinF d a = some l → cutL d l = a
  | [], l, h => by cases h; rfl
  | y :: r, l, h => by
    rw [joinF] at h
    split at h
    · rename_i h0
      cases hr : joinF d r with
      | none => rw [hr] at h; cases h
      | some l' =>
        rw [hr] at h
        cases h
        rcases jn_cases d y.1 with ⟨-, h1⟩ | ⟨h1, -⟩
        · have h2 : undL d (jnL d y.1).1 = (y.1, true) := by unfold undL; rw [jn_und h1]
          rw [cutL]
          simp only [h2, if_pos, cutL_join hr]
        · omega
    · cases h
theorem bl_app (p a b : List UInt8) : bl (p ++ a) (p ++ b) = bl a b := by
  induction p with
  | nil => rfl
  | cons c r ih =>
    rw [← ih]
    unfold bl
    show Op.bytesLess (c :: (r ++ a)) (c :: (r ++ b)) = _
    rw [Op.bytesLess]
    simp
theorem cutL_asc {d : List UInt8} {l : List FileL} (h : Asc l) : Asc (cutL d l) := by
  rw [cutL_map]
  unfold Asc
  rw [List.pairwise_filterMap]
  refine h.imp ?_
  intro x y hxy u hu v hv
  cases hx : Pth.underL d x.1 with
  | none => rw [hx] at hu; cases hu
  | some p =>
    cases hy : Pth.underL d y.1 with
    | none => rw [hy] at hv; cases hv
    | some q =>
      rw [hx] at hu
      rw [hy] at hv
      cases hu
      cases hv
      show bl p q = true
      by_cases hd : d = []
      · subst hd
        have e1 : x.1 = p := by unfold Pth.underL at hx; split at hx <;> simp_all
        have e2 : y.1 = q := by unfold Pth.underL at hy; split at hy <;> simp_all
        rw [← e1, ← e2]
        exact hxy
      · rw [und_ne hd hx, und_ne hd hy, bl_app] at hxy
        exact hxy
theorem mount_ok {t s u : List FileL} {d : List UInt8} (h : mountF t d s = .ok u) : goodF t = true ∧ goodF s = true ∧ Pth.placeL d = true ∧ ∃ l, joinF d s = some l ∧ makeF (t ++ l) = .ok u := by
  unfold mountF at h
  split at h
  · rename_i hg
    split at h
    · rename_i hp
      split at h
      · cases h
      · rename_i l hl
        exact ⟨hg.1, hg.2, hp, l, hl, h⟩
    · cases h
  · cases h
theorem mount_good {t s u : List FileL} {d : List UInt8} (h : mountF t d s = .ok u) : goodF u = true := by
  obtain ⟨-, -, -, l, -, h⟩ := mount_ok h
  exact make_again h
theorem mount_cut {t s u : List FileL} {d : List UInt8} (h : mountF t d s = .ok u) (h0 : cutL d t = []) : cutF u d = .ok s := by
  obtain ⟨h1, h2, h3, l, h4, h5⟩ := mount_ok h
  unfold cutF
  rw [if_pos (make_again h5), if_pos h3]
  have hp : (cutL d u).Perm s := by
    refine (cutL_perm (make_len h5).2).trans ?_
    rw [cutL_app, h0, cutL_join h4]
    exact List.Perm.refl _
  rw [asc_perm (cutL_asc (make_asc h5)) (good_asc h2) hp]
theorem cutF_of {t : List FileL} {d : List UInt8} (h : goodF t = true) (hd : Pth.goodL d = true) : cutF t d = .ok (cutL d t) := by
  unfold cutF
  rw [if_pos h, if_pos (by unfold Pth.placeL; rw [hd]; simp)]
/- neither stands under the other -/
theorem apart_pre {p q v : List UInt8} (hpq : p ≠ q) (hq : q ≠ []) (hpp : Pth.placeL p = true) (hqq : Pth.placeL q = true) (h1 : Pth.underL p q = none) (hl : (p ++ [47]).length ≤ (q ++ [47]).length) (hp0 : p ≠ []) (hu : (p ++ [47]) <+: v) (hv : (q ++ [47]) <+: v) : False := by
  have h := List.prefix_of_prefix_length_le hu hv hl
  by_cases he : p.length = q.length
  · exact hpq (List.append_inj_left (h.eq_of_length (by simp [he])) he)
  · have h2 : (p ++ [47]) <+: q := List.prefix_of_prefix_length_le h (List.prefix_append q [47]) (by simp at hl ⊢; omega)
    unfold Pth.underL at h1
    rw [if_pos ⟨place_ne hq hqq, hpp⟩, if_neg hp0, if_pos (List.isPrefixOf_iff_prefix.2 h2)] at h1
    cases h1
theorem apart_no {p q v : List UInt8} (hpq : p ≠ q) (hpp : Pth.placeL p = true) (hqq : Pth.placeL q = true) (h1 : Pth.underL p q = none) (h2 : Pth.underL q p = none) : p ≠ [] ∧ q ≠ [] ∧ ∀ v, (p ++ [47]) <+: v → (q ++ [47]) <+: v → False := by
  have hp0 : p ≠ [] := by
    rintro rfl
    unfold Pth.underL at h1
    rw [if_pos ⟨place_ne (Ne.symm hpq) hqq, hpp⟩, if_pos rfl] at h1
    cases h1
  have hq0 : q ≠ [] := by
    rintro rfl
    unfold Pth.underL at h2
    rw [if_pos ⟨place_ne hpq hpp, hqq⟩, if_pos rfl] at h2
    cases h2
  refine ⟨hp0, hq0, fun v hu hv => ?_⟩
  by_cases hl : (p ++ [47]).length ≤ (q ++ [47]).length
  · exact apart_pre hpq hq0 hpp hqq h1 hl hp0 hu hv
  · exact apart_pre (Ne.symm hpq) hp0 hqq hpp h2 (by omega) hq0 hv hu
theorem clash_no {l : List FileL} : clashF l = false ↔ ∀ f ∈ l, ∀ g ∈ l, aheadL f.1 g.1 = false := by
  unfold clashF
  simp only [List.any_eq_false, Bool.not_eq_true]
theorem mounts_swap {a b x y : List FileL} {p q : List UInt8} (hpq : p ≠ q) (hu : Pth.underL p q = none) (hv : Pth.underL q p = none) (h1 : mountF [] p a = .ok x) (h2 : mountF [] q b = .ok y) :
    mountF x q b = mountF y p a ∧ ((∃ z, mountF x q b = .ok z) ∨ mountF x q b = .error 13) := by
  obtain ⟨-, ga, pp, ja, hja, ma⟩ := mount_ok h1
  obtain ⟨-, gb, pq, jb, hjb, mb⟩ := mount_ok h2
  rw [List.nil_append] at ma mb
  have e1 : mountF x q b = makeF (x ++ jb) := by unfold mountF; rw [if_pos ⟨make_again ma, gb⟩, if_pos pq, hjb]
  have e2 : mountF y p a = makeF (y ++ ja) := by unfold mountF; rw [if_pos ⟨make_again mb, ga⟩, if_pos pp, hja]
  have px := (make_len ma).2
  have py := (make_len mb).2
  have hp1 : (x ++ jb).Perm (ja ++ jb) := px.append_right jb
  have hp2 : (y ++ ja).Perm (ja ++ jb) := (py.append_right ja).trans List.perm_append_comm
  rw [e1, e2]
  obtain ⟨-, a2, a3, a4, -⟩ := make_parts ma
  obtain ⟨-, b2, b3, b4, -⟩ := make_parts mb
  have hA : ∀ f ∈ ja, (p ++ [47]) <+: f.1 ∧ ∀ g ∈ jb, ¬ (p ++ [47]) <+: g.1 ∧ ¬ (q ++ [47]) <+: f.1 ∧ (q ++ [47]) <+: g.1 := by
    obtain ⟨p0, q0, hno⟩ := apart_no (v := []) hpq pp pq hu hv
    intro f hf
    obtain ⟨s, -, hs, -⟩ := joinF_mem hja f hf
    have e := jn_ne p0 hs
    have hpf : (p ++ [47]) <+: f.1 := ⟨s.1, e.symm⟩
    refine ⟨hpf, fun g hg => ?_⟩
    obtain ⟨s', -, hs', -⟩ := joinF_mem hjb g hg
    have e' := jn_ne q0 hs'
    have hqg : (q ++ [47]) <+: g.1 := ⟨s'.1, e'.symm⟩
    exact ⟨fun h => hno _ h hqg, fun h => hno _ hpf h, hqg⟩
  by_cases h32 : 32 < (ja ++ jb).length
  · have l1 := hp1.length_eq
    have l2 := hp2.length_eq
    rw [make_many (by omega), make_many (by omega)]
    exact ⟨rfl, .inr rfl⟩
  · have hbad : badF (ja ++ jb) = none := badF_none.2 fun f hf => by
      rcases List.mem_append.1 hf with h | h
      · exact a2 f h
      · exact b2 f h
    have hnd : (keysL (ja ++ jb)).Nodup := by
      unfold keysL at a3 b3 ⊢
      rw [List.map_append, List.nodup_append]
      refine ⟨a3, b3, fun u hu v hv e => ?_⟩
      obtain ⟨f, hf, rfl⟩ := List.mem_map.1 hu
      obtain ⟨g, hg, rfl⟩ := List.mem_map.1 hv
      have h := (hA f hf).2 g hg
      rw [← e] at h
      exact h.1 (hA f hf).1
    have hcl : clashF (ja ++ jb) = false := by
      rw [clash_no] at a4 b4 ⊢
      have hpre : ∀ {f g : FileL}, aheadL f.1 g.1 = true → f.1 <+: g.1 := fun h => by
        unfold aheadL dirL at h
        exact (List.prefix_append _ _).trans (List.isPrefixOf_iff_prefix.1 h)
      intro f hf g hg
      rcases List.mem_append.1 hf with hf | hf <;> rcases List.mem_append.1 hg with hg | hg
      · exact a4 f hf g hg
      · rw [Bool.eq_false_iff]
        exact fun h => ((hA f hf).2 g hg).1 ((hA f hf).1.trans (hpre h))
      · rw [Bool.eq_false_iff]
        exact fun h => ((hA g hg).2 f hf).2.1 (((hA g hg).2 f hf).2.2.trans (hpre h))
      · exact b4 f hf g hg
    have hM := make_ok h32 hbad hnd hcl
    have k1 := make_perm hp1
    have k2 := make_perm hp2
    have r1 : makeF (x ++ jb) = .ok (sortF (ja ++ jb)) := by
      rcases k1 with k | ⟨_, z, -, k, -, -⟩
      · rw [k, hM]
      · rw [hM] at k; cases k
    have r2 : makeF (y ++ ja) = .ok (sortF (ja ++ jb)) := by
      rcases k2 with k | ⟨_, z, -, k, -, -⟩
      · rw [k, hM]
      · rw [hM] at k; cases k
    rw [r1, r2]
    exact ⟨rfl, .inl ⟨_, rfl⟩⟩
end Go.Proofs.YtnbdjficoficcaaDoor
namespace Go.Proofs.YtnbdjficoficcaaDoor
set_option linter.unusedVariables false
open Go.ChangeShapes Go.WideShapes Go.ChangeAt Go.RowKit
theorem inpS_one (w : World) (a b : List UInt8) : InpS (w.alloc (.cells #[.string (tx a), .string (tx b)] 47)) (fun y => y = w.heap.size) (.slice (some ⟨w.heap.size, 0, none⟩) 1 1) [(a, b)] w.heap.size 0 := by
  obtain ⟨h0, h1⟩ := var2 (heap_alloc_new w (.cells #[.string (tx a), .string (tx b)] 47))
  refine ⟨⟨_, 1, rfl, Nat.le_refl _, by decide, fun _ => ⟨rfl, rfl⟩⟩, fun i hi => ?_⟩
  match i, hi with
  | 0, _ => exact ⟨h0, h1⟩
theorem great1_no {f : FileL} (h : greatF [f] = false) : f.1.length ≤ 131072 ∧ f.2.length ≤ 131072 := (great_no h).2 f (by simp)
theorem great_sizes {l : List FileL} (h : greatF l = false) : l.length ≤ 1048576 ∧ ∀ x ∈ l, x.1.length ≤ 1048576 ∧ x.2.length ≤ 1048576 := by
  obtain ⟨h1, h2⟩ := great_no h
  exact ⟨by omega, fun x hx => by have := h2 x hx; omega⟩
theorem make_out {l : List FileL} : (outL (makeF l)).length ≤ 32 := by
  cases h : makeF l with
  | error y => exact Nat.zero_le _
  | ok d => exact (good_sizes (make_again h)).1
theorem put_out {t : List FileL} {f : FileL} : (outL (putF t f)).length ≤ 1048576 := by
  unfold putF
  split
  · have := make_out (l := delF (fun x => decide (x.1 = f.1)) t ++ [f]); omega
  · exact Nat.zero_le _
theorem drop_out {t : List FileL} {p : List UInt8} (h : t.length ≤ 1048576) : (outL (dropF t p)).length ≤ 1048576 := by
  unfold dropF
  split
  · split
    · exact Nat.zero_le _
    · have := del_len (dropP p) t; show (delF (dropP p) t).length ≤ _; omega
  · exact Nat.zero_le _
theorem cut_out {t : List FileL} {d : List UInt8} (h : t.length ≤ 1048576) : (outL (cutF t d)).length ≤ 1048576 := by
  unfold cutF
  split
  · split
    · have := cutL_len (d := d) t; show (cutL d t).length ≤ _; omega
    · exact Nat.zero_le _
  · exact Nat.zero_le _
theorem mount_out {t s : List FileL} {d : List UInt8} : (outL (mountF t d s)).length ≤ 1048576 := by
  unfold mountF
  split
  · split
    · split
      · exact Nat.zero_le _
      · rename_i l _; have := make_out (l := t ++ l); omega
    · exact Nat.zero_le _
  · exact Nat.zero_le _
theorem out_ok {r : Except Int (List FileL)} {d : List FileL} {y : Int} (h : r = .ok d) : outL r = d ∧ outE r = 0 := by subst h; exact ⟨rfl, rfl⟩
theorem tpgood_any (l : List UInt8) (w : World) (hl : l.length ≤ 1048576) (hm : Pth.Ml w) : Calls Tryd.prog 18 #[.string (tx l)] w (SayB (Pth.goodL l) w) := by
  have h := Pth.good_any (tx l) w (by rw [tx_size]; omega) hm
  rw [tx_list] at h
  exact h.mono fun e w' h => ⟨h.1, chg_of_below h.2⟩
theorem put_err {t : List FileL} {f : FileL} {y : Int} (h : putF t f = .error y) : y ≠ 0 := by
  unfold putF at h
  split at h
  · exact make_err h
  · cases h; decide
theorem mount_err {t s : List FileL} {d : List UInt8} {y : Int} (h : mountF t d s = .error y) : y ≠ 0 := by
  unfold mountF at h
  split at h
  · split at h
    · split at h
      · cases h; decide
      · exact make_err h
    · cases h; decide
  · cases h; decide
theorem put_zero {t : List FileL} {f : FileL} (h : outE (putF t f) = 0) : putF t f = .ok (outL (putF t f)) := by
  cases hc : putF t f with
  | error y => rw [hc] at h; exact absurd h (put_err hc)
  | ok d => rfl
theorem mount_zero {t s : List FileL} {d : List UInt8} (h : outE (mountF t d s) = 0) : mountF t d s = .ok (outL (mountF t d s)) := by
  cases hc : mountF t d s with
  | error y => rw [hc] at h; exact absurd h (mount_err hc)
  | ok d => rfl
end Go.Proofs.YtnbdjficoficcaaDoor
