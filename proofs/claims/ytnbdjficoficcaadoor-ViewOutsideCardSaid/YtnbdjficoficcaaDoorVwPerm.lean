/- What a view is, in lists: it does not hang on the order, each tree is cut out of it, nothing stands outside. No condition. -/
import Derived.Test.YtnbdjficoficcaaDoorVwBuilds
namespace Go.Proofs.YtnbdjficoficcaaDoor
set_option linter.unusedVariables false
open Go.ChangeShapes Go.WideShapes Go.ChangeAt Go.RowKit
theorem make_le {a b d : List FileL} (h : makeF (a ++ b) = .ok d) : ∃ c, makeF a = .ok c := by
  obtain ⟨h1, h2, h3, h4, -⟩ := make_parts h
  refine ⟨_, make_ok ?_ (badF_none.2 fun f hf => h2 f (List.mem_append_left _ hf)) ?_ ?_⟩
  · rw [List.length_append] at h1; omega
  · unfold keysL at h3 ⊢
    rw [List.map_append, List.nodup_append] at h3
    exact h3.1
  · rw [clash_no] at h4 ⊢
    exact fun f hf g hg => h4 f (List.mem_append_left _ hf) g (List.mem_append_left _ hg)
theorem make_eq {a b d : List FileL} (h : a.Perm b) (hm : makeF a = .ok d) : makeF b = .ok d := by
  rcases make_perm h with k | ⟨y, z, k, -, -, -⟩
  · rw [← k, hm]
  · rw [hm] at k; cases k
def joinsF : List MntL → Option (List FileL)
  | [] => some []
  | m :: r => if goodF m.2 = true ∧ Pth.placeL m.1 = true then (match joinF m.1 m.2 with
    | none => none
    | some a => (joinsF r).map (a ++ ·)) else none
theorem joins_cons {m : MntL} {r : List MntL} {js : List FileL} (h : joinsF (m :: r) = some js) : goodF m.2 = true ∧ Pth.placeL m.1 = true ∧ ∃ a b, joinF m.1 m.2 = some a ∧ joinsF r = some b ∧ js = a ++ b := by
  rw [joinsF] at h
  split at h
  · rename_i hg
    cases hj : joinF m.1 m.2 with
    | none => rw [hj] at h; cases h
    | some a =>
      rw [hj] at h
      cases hr : joinsF r with
      | none => rw [hr] at h; cases h
      | some b => rw [hr] at h; cases h; exact ⟨hg.1, hg.2, a, b, rfl, rfl, rfl⟩
  · cases h
theorem joins_mk {m : MntL} {r : List MntL} {a b : List FileL} (h1 : goodF m.2 = true) (h2 : Pth.placeL m.1 = true) (h3 : joinF m.1 m.2 = some a) (h4 : joinsF r = some b) : joinsF (m :: r) = some (a ++ b) := by
  rw [joinsF, if_pos ⟨h1, h2⟩, h3, h4]; rfl
theorem joins_app : ∀ {a b : List MntL} {js : List FileL}, joinsF (a ++ b) = some js → ∃ ja jb, joinsF a = some ja ∧ joinsF b = some jb ∧ js = ja ++ jb
  | [], b, js, h => ⟨[], js, rfl, h, rfl⟩
  | m :: r, b, js, h => by
    obtain ⟨h1, h2, x, y, h3, h4, rfl⟩ := joins_cons (r := r ++ b) h
    obtain ⟨ja, jb, h5, h6, rfl⟩ := joins_app h4
    exact ⟨x ++ ja, jb, joins_mk h1 h2 h3 h5, h6, by rw [List.append_assoc]⟩
theorem joins_join : ∀ {a b : List MntL} {ja jb : List FileL}, joinsF a = some ja → joinsF b = some jb → joinsF (a ++ b) = some (ja ++ jb)
  | [], b, ja, jb, h, g => by cases h; exact g
  | m :: r, b, ja, jb, h, g => by
    obtain ⟨h1, h2, x, y, h3, h4, rfl⟩ := joins_cons h
    rw [List.append_assoc]
    exact joins_mk (r := r ++ b) h1 h2 h3 (joins_join h4 g)
theorem mnts_iff : ∀ (l : List MntL) (t u : List FileL), goodF t = true → (mntsF t l = .ok u ↔ ∃ js, joinsF l = some js ∧ makeF (t ++ js) = .ok u)
  | [], t, u, ht => by
    constructor
    · intro h; cases h
      exact ⟨[], rfl, by rw [List.append_nil]; exact good_ok ht⟩
    · rintro ⟨js, h, g⟩
      cases h
      rw [List.append_nil, good_ok ht] at g
      cases g; rfl
  | m :: r, t, u, ht => by
    constructor
    · intro h
      rw [mntsF] at h
      cases hm : mountF t m.1 m.2 with
      | error e => rw [hm] at h; cases h
      | ok v =>
        rw [hm] at h
        obtain ⟨-, g2, g3, a, g4, g5⟩ := mount_ok hm
        obtain ⟨js, g6, g7⟩ := (mnts_iff r v u (mount_good hm)).1 h
        refine ⟨a ++ js, joins_mk g2 g3 g4 g6, ?_⟩
        rw [← List.append_assoc]
        exact make_eq ((make_len g5).2.append_right js) g7
    · rintro ⟨js, h, g⟩
      obtain ⟨g2, g3, a, b, g4, g6, rfl⟩ := joins_cons h
      rw [← List.append_assoc] at g
      obtain ⟨v, g5⟩ := make_le g
      have hm : mountF t m.1 m.2 = .ok v := by rw [mountF_yes ht g2 g3 g4, g5]
      rw [mntsF, hm]
      exact (mnts_iff r v u (mount_good hm)).2 ⟨b, g6, make_eq ((make_len g5).2.symm.append_right b) g⟩
theorem near_symm (m a : MntL) : nearM m a = nearM a m := by
  unfold nearM
  have e : decide (a.1 = m.1) = decide (m.1 = a.1) := by rw [Bool.eq_iff_iff]; simp [eq_comm]
  rw [e, Bool.or_comm (undL a.1 m.1).2]
theorem chk_iff : ∀ (l s : List MntL), chkF s l = none ↔ (∀ m ∈ l, Pth.goodL m.1 = true) ∧ l.Pairwise (fun a m => nearM m a = false) ∧ ∀ a ∈ s, ∀ m ∈ l, nearM m a = false
  | [], s => by simp [chkF]
  | m :: r, s => by
    rw [chkF]
    by_cases h1 : Pth.goodL m.1 = true
    · rw [if_pos h1]
      by_cases h2 : s.any (nearM m) = true
      · rw [if_pos h2]
        obtain ⟨a, ha, hn⟩ := List.any_eq_true.1 h2
        constructor
        · intro h; cases h
        · rintro ⟨-, -, h⟩
          have := h a ha m (List.mem_cons_self ..)
          rw [hn] at this; cases this
      · rw [if_neg h2, chk_iff r (s ++ [m])]
        have h2' : ∀ a ∈ s, nearM m a = false := fun a ha => by
          rw [Bool.eq_false_iff]; exact fun e => h2 (List.any_eq_true.2 ⟨a, ha, e⟩)
        rw [List.pairwise_cons]
        constructor
        · rintro ⟨g1, g2, g3⟩
          refine ⟨fun x hx => ?_, ⟨fun x hx => g3 m (by simp) x hx, g2⟩, fun a ha x hx => ?_⟩
          · rcases List.mem_cons.1 hx with rfl | hx
            · exact h1
            · exact g1 x hx
          · rcases List.mem_cons.1 hx with rfl | hx
            · exact h2' a ha
            · exact g3 a (by simp [ha]) x hx
        · rintro ⟨g1, ⟨g0, g2⟩, g3⟩
          refine ⟨fun x hx => g1 x (List.mem_cons_of_mem _ hx), g2, fun a ha x hx => ?_⟩
          rcases List.mem_append.1 ha with ha | ha
          · exact g3 a ha x (List.mem_cons_of_mem _ hx)
          · obtain rfl := List.mem_singleton.1 ha
            exact g0 x hx
    · rw [if_neg h1]
      constructor
      · intro h; cases h
      · rintro ⟨h, -⟩; exact absurd (h m (List.mem_cons_self ..)) h1
theorem build_iff {l : List MntL} {u : List FileL} : buildF l = .ok u ↔ chkF [] l = none ∧ ∃ js, joinsF l = some js ∧ makeF js = .ok u := by
  unfold buildF
  cases hc : chkF [] l with
  | some e => simp
  | none =>
    have := mnts_iff l [] u rfl
    simpa using this
theorem chk_rot {a b : List MntL} (h : chkF [] (a ++ b) = none) : chkF [] (b ++ a) = none := by
  rw [chk_iff] at h ⊢
  obtain ⟨h1, h2, -⟩ := h
  refine ⟨fun m hm => h1 m (by rw [List.mem_append] at hm ⊢; exact hm.symm), ?_, fun a ha => nomatch ha⟩
  rw [List.pairwise_append] at h2 ⊢
  exact ⟨h2.2.1, h2.1, fun x hx y hy => by rw [near_symm]; exact h2.2.2 y hy x hx⟩
theorem build_rot {a b : List MntL} {u : List FileL} (h : buildF (a ++ b) = .ok u) : buildF (b ++ a) = .ok u := by
  rw [build_iff] at h ⊢
  obtain ⟨h1, js, h2, h3⟩ := h
  obtain ⟨ja, jb, h4, h5, rfl⟩ := joins_app h2
  exact ⟨chk_rot h1, jb ++ ja, joins_join h5 h4, make_eq List.perm_append_comm h3⟩
theorem mnts_err : ∀ (l : List MntL) (t : List FileL) (y : Int), mntsF t l = .error y → y ≠ 0
  | [], t, y, h => by cases h
  | m :: r, t, y, h => by
    rw [mntsF] at h
    cases hm : mountF t m.1 m.2 with
    | error e => rw [hm] at h; cases h; exact mount_err hm
    | ok v => rw [hm] at h; exact mnts_err r v y h
theorem chk_err : ∀ (l s : List MntL) (y : Int), chkF s l = some y → y ≠ 0
  | [], s, y, h => by cases h
  | m :: r, s, y, h => by
    rw [chkF] at h
    split at h
    · split at h
      · cases h; decide
      · exact chk_err r _ y h
    · cases h; decide
theorem build_err {l : List MntL} {y : Int} (h : buildF l = .error y) : y ≠ 0 := by
  unfold buildF at h
  cases hc : chkF [] l with
  | some e => rw [hc] at h; cases h; exact chk_err _ _ _ hc
  | none => rw [hc] at h; exact mnts_err _ _ _ h
/- the answers of the two orders -/
theorem build_two (a b : List MntL) : outL (buildF (a ++ b)) = outL (buildF (b ++ a)) ∧ (decide (outE (buildF (a ++ b)) = 0) = decide (outE (buildF (b ++ a)) = 0)) := by
  cases h : buildF (a ++ b) with
  | ok u => rw [build_rot h]; exact ⟨rfl, rfl⟩
  | error y =>
    cases g : buildF (b ++ a) with
    | ok u => rw [build_rot g] at h; cases h
    | error z =>
      refine ⟨rfl, ?_⟩
      have e1 := build_err h
      have e2 := build_err g
      show decide (y = 0) = decide (z = 0)
      rw [decide_eq_false e1, decide_eq_false e2]
/- what was mounted is cut out; nothing stands outside; as many files -/
theorem cut_none {d : List UInt8} (hd : Pth.goodL d = true) : ∀ {l : List MntL} {js : List FileL}, (∀ m ∈ l, nearM (d, []) m = false) → joinsF l = some js → cutL d js = []
  | [], js, _, h => by cases h; rfl
  | m :: r, js, ha, h => by
    obtain ⟨h1, h2, x, y, h3, h4, rfl⟩ := joins_cons h
    rw [cutL_app, cut_none hd (fun a h => ha a (List.mem_cons_of_mem _ h)) h4, List.append_nil]
    have hn := ha m (List.mem_cons_self ..)
    unfold nearM at hn
    rw [Bool.or_eq_false_iff, Bool.or_eq_false_iff] at hn
    obtain ⟨n1, n2, n3⟩ := hn
    have n1 : m.1 ≠ d := of_decide_eq_false n1
    rw [undL_some] at n2 n3
    have n2 : Pth.underL m.1 d = none := by cases e : Pth.underL m.1 d with | none => rfl | some _ => rw [e] at n2; cases n2
    have n3 : Pth.underL d m.1 = none := by cases e : Pth.underL d m.1 with | none => rfl | some _ => rw [e] at n3; cases n3
    have hpl : Pth.placeL d = true := by unfold Pth.placeL; rw [hd]; simp
    obtain ⟨p0, q0, hno⟩ := apart_no (v := []) n1 h2 hpl n2 n3
    rw [cutL_map, List.filterMap_eq_nil_iff]
    intro f hf
    obtain ⟨s, -, hs, -⟩ := joinF_mem h3 f hf
    have e := jn_ne p0 hs
    cases hu : Pth.underL d f.1 with
    | none => rfl
    | some p =>
      have e2 := und_ne q0 hu
      exact (hno _ ⟨s.1, e.symm⟩ ⟨p, e2.symm⟩).elim
theorem good_ne {d : List UInt8} (hd : Pth.goodL d = true) : d ≠ [] := by rintro rfl; exact absurd hd (by decide)
theorem build_cut {l : List MntL} {u : List FileL} (h : buildF l = .ok u) {m : MntL} (hm : m ∈ l) : cutF u m.1 = .ok m.2 := by
  obtain ⟨h1, js, h2, h3⟩ := build_iff.1 h
  obtain ⟨g1, g2, -⟩ := (chk_iff _ _).1 h1
  obtain ⟨a, b, rfl⟩ := List.append_of_mem hm
  rw [List.pairwise_append, List.pairwise_cons] at g2
  obtain ⟨ja, jb', h4, h5, rfl⟩ := joins_app h2
  obtain ⟨k1, k2, jm, jb, h6, h7, rfl⟩ := joins_cons h5
  have hd := g1 m (by simp)
  rw [cutF_of (make_again h3) hd]
  have e1 : cutL m.1 ja = [] := cut_none hd (fun x hx => by have := g2.2.2 x hx m (List.mem_cons_self ..); exact this) h4
  have e2 : cutL m.1 jb = [] := cut_none hd (fun x hx => by have := g2.2.1.1 x hx; rw [near_symm] at this; exact this) h7
  have hp : (cutL m.1 u).Perm m.2 := by
    refine (cutL_perm (make_len h3).2).trans ?_
    rw [cutL_app, cutL_app, e1, e2, cutL_join h6, List.nil_append, List.append_nil]
  rw [asc_perm (cutL_asc (make_asc h3)) (good_asc k1) hp]
theorem joins_mem : ∀ {l : List MntL} {js : List FileL}, joinsF l = some js → ∀ x ∈ js, ∃ m ∈ l, (undL m.1 x.1).2 = true
  | [], js, h, x, hx => by cases h; cases hx
  | m :: r, js, h, x, hx => by
    obtain ⟨h1, h2, a, b, h3, h4, rfl⟩ := joins_cons h
    rcases List.mem_append.1 hx with hx | hx
    · obtain ⟨s, -, hs, -⟩ := joinF_mem h3 x hx
      exact ⟨m, List.mem_cons_self .., by rw [undL_some, jn_und hs]; rfl⟩
    · obtain ⟨m', hm', h5⟩ := joins_mem h4 x hx
      exact ⟨m', List.mem_cons_of_mem _ hm', h5⟩
def sumL (l : List MntL) : Nat := (l.map fun m => m.2.length).sum
theorem sumL_snoc (l : List MntL) (m : MntL) : sumL (l ++ [m]) = sumL l + m.2.length := by simp [sumL]
theorem joins_len : ∀ {l : List MntL} {js : List FileL}, joinsF l = some js → js.length = sumL l
  | [], js, h => by cases h; rfl
  | m :: r, js, h => by
    obtain ⟨h1, h2, a, b, h3, h4, rfl⟩ := joins_cons h
    rw [List.length_append, joins_len h4, joinF_len h3]
    simp [sumL]
theorem build_out {l : List MntL} {u : List FileL} (h : buildF l = .ok u) : (∀ x ∈ u, (l.any fun m => (undL m.1 x.1).2) = true) ∧ u.length = sumL l := by
  obtain ⟨h1, js, h2, h3⟩ := build_iff.1 h
  have hp := (make_len h3).2
  refine ⟨fun x hx => ?_, by rw [hp.length_eq, joins_len h2]⟩
  obtain ⟨m, hm, hu⟩ := joins_mem h2 x (hp.mem_iff.1 hx)
  exact List.any_eq_true.2 ⟨m, hm, hu⟩
/- one tree alone -/
theorem joinF_to {d : List UInt8} : ∀ {a l : List FileL}, joinF d a = some l → ∀ y ∈ a, ∃ x ∈ l, Pth.joinL d y.1 = some x.1 ∧ x.2 = y.2
  | [], l, h, y, hy => nomatch hy
  | z :: r, l, h, y, hy => by
    have h0 := h
    rw [joinF] at h
    split at h
    · rename_i h1
      cases hr : joinF d r with
      | none => rw [hr] at h; cases h
      | some l' =>
        rw [hr] at h
        cases h
        rcases List.mem_cons.1 hy with rfl | hy
        · obtain ⟨s, hs, g1, g2⟩ := joinF_mem h0 ((jnL d y.1).1, y.2) (List.mem_cons_self ..)
          refine ⟨((jnL d y.1).1, y.2), List.mem_cons_self .., ?_, rfl⟩
          unfold jnL at h1 ⊢
          cases hj : Pth.joinL d y.1 with
          | none => rw [hj] at h1; cases h1
          | some p => rfl
        · obtain ⟨x, hx, g⟩ := joinF_to hr y hy
          exact ⟨x, List.mem_cons_of_mem _ hx, g⟩
    · cases h
theorem getF_no {l : List FileL} {p : List UInt8} (h : ∀ x ∈ l, x.1 ≠ p) : getF l p = ([], false) := by
  unfold getF
  rw [List.find?_eq_none.2 (fun x hx => by simpa using h x hx)]
theorem build_one {m : MntL} {u : List FileL} (h : buildF [m] = .ok u) (p : List UInt8) : getF u (m.1 ++ (47 :: p)) = getF m.2 p ∧ getF u m.1 = ([], false) ∧ u.length = m.2.length := by
  obtain ⟨h1, js, h2, h3⟩ := build_iff.1 h
  obtain ⟨g1, -, -⟩ := (chk_iff _ _).1 h1
  have hd := good_ne (g1 m (List.mem_cons_self ..))
  obtain ⟨k1, k2, a, b, k3, k4, rfl⟩ := joins_cons h2
  cases k4
  rw [List.append_nil] at h3
  obtain ⟨hul, hup⟩ := make_len h3
  have hnd : (keysL u).Nodup := asc_nodup (make_asc h3)
  have hnm : (keysL m.2).Nodup := asc_nodup (good_asc k1)
  have hx : ∀ x ∈ u, ∃ y ∈ m.2, x.1 = m.1 ++ (47 :: y.1) ∧ x.2 = y.2 := fun x hx => by
    obtain ⟨y, hy, g2, g3⟩ := joinF_mem k3 x (hup.mem_iff.1 hx)
    exact ⟨y, hy, by rw [jn_ne hd g2, List.append_assoc]; rfl, g3⟩
  refine ⟨?_, getF_no fun x hx' e => ?_, by rw [hul, joinF_len k3]⟩
  · by_cases hp : ∃ y ∈ m.2, y.1 = p
    · obtain ⟨y, hy, rfl⟩ := hp
      obtain ⟨x, hx', g2, g3⟩ := joinF_to k3 y hy
      have e : x.1 = m.1 ++ (47 :: y.1) := by rw [jn_ne hd g2, List.append_assoc]; rfl
      rw [← e, getF_mem hnd (hup.mem_iff.2 hx'), getF_mem hnm hy, g3]
    · rw [getF_no (l := m.2) fun y hy e => hp ⟨y, hy, e⟩]
      refine getF_no fun x hx' e => ?_
      obtain ⟨y, hy, e2, -⟩ := hx x hx'
      rw [e2] at e
      have := List.append_cancel_left e
      exact hp ⟨y, hy, (List.cons.inj this).2⟩
  · obtain ⟨y, -, e2, -⟩ := hx x hx'
    rw [e2] at e
    have := congrArg List.length e
    simp at this
end Go.Proofs.YtnbdjficoficcaaDoor
