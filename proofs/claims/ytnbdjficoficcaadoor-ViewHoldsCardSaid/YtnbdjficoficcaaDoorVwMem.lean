/- A view, in lists; view.under. Condition: texts of at most 2^18 bytes; the library's own variable holds some number. -/
import Derived.Test.YtnbdjficoficcaaDoorTrMount
import Derived.Test.YtnbdjficoficcaaDoorShelf2
namespace Go.Proofs.YtnbdjficoficcaaDoor
set_option linter.unusedVariables false
open Go.ChangeShapes Go.WideShapes Go.ChangeAt Go.RowKit
abbrev MntL := List UInt8 × List FileL
def nearM (m a : MntL) : Bool := decide (a.1 = m.1) || ((undL a.1 m.1).2 || (undL m.1 a.1).2)
def chkF : List MntL → List MntL → Option Int
  | _, [] => none
  | s, m :: r => if Pth.goodL m.1 = true then (if s.any (nearM m) = true then some 12 else chkF (s ++ [m]) r) else some 10
def mntsF : List FileL → List MntL → Except Int (List FileL)
  | t, [] => .ok t
  | t, m :: r => match mountF t m.1 m.2 with
    | .ok u => mntsF u r
    | .error e => .error e
def buildF (l : List MntL) : Except Int (List FileL) := match chkF [] l with
  | some e => .error e
  | none => mntsF [] l
theorem mntsF_snoc {x : MntL} : ∀ (l : List MntL) (t u : List FileL), mntsF t l = .ok u → mntsF t (l ++ [x]) = mountF u x.1 x.2
  | [], t, u, h => by
    cases h
    rw [List.nil_append, mntsF]
    cases mountF t x.1 x.2 <;> rfl
  | m :: r, t, u, h => by
    rw [List.cons_append, mntsF]
    rw [mntsF] at h
    cases hm : mountF t m.1 m.2 with
    | error e => rw [hm] at h; cases h
    | ok v => rw [hm] at h; exact mntsF_snoc r v u h
theorem mntsF_stop {x : MntL} {e : Int} (r : List MntL) : ∀ (l : List MntL) (t u : List FileL), mntsF t l = .ok u → mountF u x.1 x.2 = .error e → mntsF t (l ++ x :: r) = .error e
  | [], t, u, h, hx => by
    cases h
    rw [List.nil_append, mntsF, hx]
  | m :: q, t, u, h, hx => by
    rw [List.cons_append, mntsF]
    rw [mntsF] at h
    cases hm : mountF t m.1 m.2 with
    | error e => rw [hm] at h; cases h
    | ok v => rw [hm] at h; exact mntsF_stop r q v u h hx
theorem chkF_from : ∀ (a s r : List MntL), chkF s a = none → chkF s (a ++ r) = chkF (s ++ a) r
  | [], s, r, _ => by rw [List.nil_append, List.append_nil]
  | m :: q, s, r, h => by
    rw [List.cons_append, chkF]
    rw [chkF] at h
    by_cases h1 : Pth.goodL m.1 = true
    · rw [if_pos h1] at h ⊢
      by_cases h2 : s.any (nearM m) = true
      · rw [if_pos h2] at h; cases h
      · rw [if_neg h2] at h ⊢
        rw [chkF_from q _ r h, List.append_assoc]; rfl
    · rw [if_neg h1] at h; cases h
theorem vunder_any (d s : List UInt8) (w : World) (hd : d.length ≤ 262144) (hs : s.length ≤ 262144) (hm : Pth.Ml w) : Calls Tryd.prog 20 #[.string (tx d), .string (tx s)] w (SayB (undL d s).2 w) := by
  have H := Lib.hid (tunder_any d s w hd hs hm)
  generalize (undL d s).2 = q at *
  generalize (undL d s).1 = p at *
  generalize tx d = a at *
  generalize tx s = b at *
  go_enter Tryd.func20, Tryd.ntmps20
  go_wp2_with fail
  refine H.out.mono ?_
  rintro e w1 ⟨g, rfl⟩
  go_wp2_with fail
  go_ret
  exact ⟨rfl, g⟩
end Go.Proofs.YtnbdjficoficcaaDoor
namespace Go.Proofs.YtnbdjficoficcaaDoor
set_option linter.unusedVariables false
open Go.ChangeShapes Go.WideShapes Go.ChangeAt Go.RowKit
theorem near_any (m a : MntL) (sv : Value) (mb : Nat) (w : World) (hm : Pth.Ml w) (hlm : m.1.length ≤ 262144) (hla : a.1.length ≤ 262144) (hd : w.cell? ⟨mb, 0, none⟩ = some (.string (tx m.1))) :
    Calls Tryd.prog 19 #[.agg #[.string (tx a.1), sv], .pointer (some ⟨mb, 0, none⟩)] w (SayB (nearM m a) w) := by
  obtain ⟨m1, m2⟩ := m
  obtain ⟨a1, a2⟩ := a
  change m1.length ≤ 262144 at hlm
  change a1.length ≤ 262144 at hla
  have hal := (Chg.refl NoB w).alloc (.cells #[.string (tx a1), sv] 35)
  have hb := heap_alloc_new w (.cells #[.string (tx a1), sv] 35)
  have hd2 := hal.keep hd
  have hu := fun w' (h : Chg NoB w w') => vunder_any a1 m1 w' hla hlm (ml_keep hm h)
  have hv := fun w' (h : Chg NoB w w') => vunder_any m1 a1 w' hlm hla (ml_keep hm h)
  have hr := tx_beq a1 m1
  obtain ⟨r, hrr⟩ : ∃ r, r = nearM (m1, m2) (a1, a2) := ⟨_, rfl⟩
  rw [← hrr]
  unfold nearM at hrr
  simp only at hrr
  generalize (undL a1 m1).2 = u at *
  generalize (undL m1 a1).2 = v at *
  generalize decide (a1 = m1) = b1 at *
  have Hal := Lib.hid hal
  have Hd2 := Lib.hid hd2
  have Hu := Lib.hid hu
  have Hv := Lib.hid hv
  have Hb := Lib.hid hb
  have Hrr := Lib.hid hrr
  obtain ⟨g0, g1⟩ := var2 hb
  clear hal hb hrr hd hu hv hm
  go_enter Tryd.func19, Tryd.ntmps19
  cases b1 with
  | true =>
    go_wp2_with fail
    go_ret
    refine ⟨congrArg (fun b => Ending.returned (Value.bool b)) ?_, Hal.out⟩
    rw [Hrr.out]; rfl
  | false =>
    go_wp2_with fail
    refine (Hu.out _ Hal.out).mono ?_
    rintro e w2 ⟨rfl, hc2⟩
    have Hc2 := Lib.hid (Hal.out.trans hc2)
    have hd2' := hc2.keep Hd2.out
    obtain ⟨h0, h1⟩ := var2 (row_kept hc2 Hb.out id)
    clear hc2 g0 g1 hd2
    cases u with
    | true =>
      go_wp2_with fail
      go_ret
      refine ⟨congrArg (fun b => Ending.returned (Value.bool b)) ?_, Hc2.out⟩
      rw [Hrr.out]; rfl
    | false =>
      go_wp2_with fail
      refine (Hv.out _ Hc2.out).mono ?_
      rintro e w3 ⟨rfl, hc3⟩
      go_wp2_with fail
      go_ret
      refine ⟨congrArg (fun b => Ending.returned (Value.bool b)) ?_, Hc2.out.trans hc3⟩
      rw [Hrr.out]; rfl
theorem mntInfo : (Tryd.prog.info? 35).map (fun i => (i.zero, i.size, i.bytes)) = some (some (.agg #[.string ⟨#[]⟩, .slice none 0 0]), 2, 40) := by kernel_rfl
end Go.Proofs.YtnbdjficoficcaaDoor
namespace Go.Proofs.YtnbdjficoficcaaDoor
set_option linter.unusedVariables false
open Go.ChangeShapes Go.WideShapes Go.ChangeAt Go.RowKit
abbrev MB := {f : List UInt8 × Value // f.1.length ≤ 262144}
instance : Inhabited MB := ⟨⟨([], .bool false), Nat.zero_le _⟩⟩
def encM (x : MB) : List Value := [.string (tx x.1.1), x.1.2]
theorem encM_len (x : MB) : (encM x).length = 2 := rfl
theorem isAggM (w : World) : (isAgg 35).run Tryd.prog w = .ok true w := by kernel_rfl
theorem sizeM (w : World) : (Go.sizeOf 35).run Tryd.prog w = .ok 2 w := by kernel_rfl
theorem aheadM_any (m : MntL) (rs : List (List UInt8 × Value)) (n c kb ko mb : Nat) (w : World) (hm : Pth.Ml w) (hlm : m.1.length ≤ 262144) (hw : ∀ x ∈ rs, x.1.length ≤ 262144) (hn : n ≤ rs.length) (hbig : rs.length ≤ 1048576) (hkb : kb < w.heap.size)
    (hat : ∀ i (hi : i < rs.length), w.cell? ⟨kb, ko + i * 2, none⟩ = some (.string (tx rs[i].1)) ∧ w.cell? ⟨kb, ko + i * 2 + 1, none⟩ = some rs[i].2) (hd : w.cell? ⟨mb, 0, none⟩ = some (.string (tx m.1))) :
    Calls Tryd.prog 21 #[.slice (some ⟨kb, ko, none⟩) n c, .func (.func 19) #[] #[.pointer (some ⟨mb, 0, none⟩)]] w (SayB ((rs.take n).any fun x => nearM m (x.1, [])) w) := by
  obtain ⟨zs, hzs⟩ : ∃ zs : List MB, zs.map (·.1) = rs := ⟨rs.pmap (fun x h => (⟨x, h⟩ : MB)) hw, by rw [List.map_pmap]; simp⟩
  have hzl : zs.length = rs.length := by rw [← hzs]; simp
  have hzi : ∀ j (hj : j < zs.length), zs[j].1 = rs[j]'(by omega) := fun j hj => by simp [← hzs]
  have h := Tryd.slices_ContainsFunc_mount 2 isAggM sizeM encM encM_len (fun x => nearM m (x.1.1, [])) 19 #[.pointer (some ⟨mb, 0, none⟩)] (enters_of Tryd.func19 (by kernel_rfl) rfl) kb ko n c zs w
    (fun W x hb => (near_any m (x.1.1, []) x.1.2 mb W (ml_keep hm (chg_of_below hb)) hlm x.2 ((chg_of_below hb).keep hd)).mono fun e w' h => ⟨h.1, ((chg_of_below hb).trans h.2).below⟩) (by omega) (by omega) hkb (fun j hj i u hu => by
      rw [getElem!_pos zs j hj] at hu
      unfold encM at hu
      rw [hzi j hj] at hu
      obtain ⟨c0, c1⟩ := hat j (by omega)
      match i, hu with
      | 0, hu => cases hu; simpa using c0
      | 1, hu => cases hu; exact c1)
  refine h.mono ?_
  rintro e w' ⟨rfl, hb⟩
  refine ⟨?_, chg_of_below hb⟩
  rw [← hzs, ← List.map_take, List.any_map]
  rfl
end Go.Proofs.YtnbdjficoficcaaDoor
namespace Go.Proofs.YtnbdjficoficcaaDoor
set_option linter.unusedVariables false
open Go.ChangeShapes Go.WideShapes Go.ChangeAt Go.RowKit
structure MntS (w : World) (S : Nat → Prop) (v : Value) (xs : List MntL) (kb ko : Nat) : Prop where
  sh : ∃ q c, v = .slice q xs.length c ∧ xs.length ≤ c ∧ c ≤ maxLen ∧ (xs ≠ [] → q = some ⟨kb, ko, none⟩ ∧ S kb)
  at' : ∀ i (hi : i < xs.length), w.cell? ⟨kb, ko + i * 2, none⟩ = some (.string (tx xs[i].1)) ∧ ∃ q n c jb jo, n = xs[i].2.length ∧ w.cell? ⟨kb, ko + i * 2 + 1, none⟩ = some (.slice q n c) ∧ InpS w S (.slice q n c) xs[i].2 jb jo
theorem MntS.keep {w w' : World} {S T : Nat → Prop} (hc : Chg T w w') (hST : ∀ k, S k → ¬ T k) {v : Value} {xs : List MntL} {kb ko : Nat} (h : MntS w S v xs kb ko) : MntS w' S v xs kb ko := by
  obtain ⟨hsh, hat⟩ := h
  refine ⟨hsh, fun i hi => ?_⟩
  obtain ⟨q, c, _, _, _, hq⟩ := hsh
  have hne : xs ≠ [] := by rintro rfl; simp at hi
  have hS := hST kb (hq hne).2
  obtain ⟨h1, q', n, c', jb, jo, hn, h2, h3⟩ := hat i hi
  exact ⟨hc.cell h1 hS, q', n, c', jb, jo, hn, hc.cell h2 hS, h3.keep hc hST⟩
theorem MntS.mono {w : World} {S T : Nat → Prop} (hST : ∀ k, S k → T k) {v : Value} {xs : List MntL} {kb ko : Nat} (h : MntS w S v xs kb ko) : MntS w T v xs kb ko := by
  obtain ⟨⟨q, c, h1, h2, h3, h4⟩, hat⟩ := h
  refine ⟨⟨q, c, h1, h2, h3, fun hn => ⟨(h4 hn).1, hST _ (h4 hn).2⟩⟩, fun i hi => ?_⟩
  obtain ⟨h1, q', n, c', jb, jo, hn, h2, h3⟩ := hat i hi
  exact ⟨h1, q', n, c', jb, jo, hn, h2, h3.mono hST⟩
theorem MntS.nil (w : World) (S : Nat → Prop) : MntS w S (.slice none 0 0) [] 0 0 := ⟨⟨none, 0, rfl, Nat.le_refl _, Nat.zero_le _, fun h => absurd rfl h⟩, fun i hi => by simp at hi⟩
theorem MntS.rows {w : World} {S : Nat → Prop} {v : Value} {kb ko : Nat} : ∀ {xs : List MntL}, MntS w S v xs kb ko → ∃ rs : List (List UInt8 × Value), rs.map (·.1) = xs.map (·.1) ∧ rs.length = xs.length ∧
    ∀ i (hi : i < rs.length), w.cell? ⟨kb, ko + i * 2, none⟩ = some (.string (tx rs[i].1)) ∧ w.cell? ⟨kb, ko + i * 2 + 1, none⟩ = some rs[i].2 := by
  intro xs h
  have hv : ∀ i : Fin xs.length, ∃ u : Value, w.cell? ⟨kb, ko + i * 2 + 1, none⟩ = some u := fun i => by
    obtain ⟨_, q', n, c', jb, jo, hn, h2, h3⟩ := h.at' i i.2
    exact ⟨_, h2⟩
  refine ⟨List.ofFn fun i : Fin xs.length => (xs[i].1, Classical.choose (hv i)), ?_, by simp, fun i hi => ?_⟩
  · apply List.ext_getElem
    · simp
    · intro i h1 h2; simp
  · have hi' : i < xs.length := by simpa using hi
    rw [List.getElem_ofFn]
    exact ⟨(h.at' i hi').1, Classical.choose_spec (hv ⟨i, hi'⟩)⟩
theorem near_map (m : MntL) (rs : List (List UInt8 × Value)) (xs : List MntL) (k : Nat) (h : rs.map (·.1) = xs.map (·.1)) : ((rs.take k).any fun x => nearM m (x.1, [])) = (xs.take k).any (nearM m) := by
  have e1 : ((rs.take k).any fun x => nearM m (x.1, [])) = (((rs.map (·.1)).take k).any fun s => nearM m (s, [])) := by rw [← List.map_take, List.any_map]; rfl
  have e2 : (xs.take k).any (nearM m) = (((xs.map (·.1)).take k).any fun s => nearM m (s, [])) := by rw [← List.map_take, List.any_map]; rfl
  rw [e1, e2, h]
theorem OutP.err {y : Int} {w w' : World} (h : Chg NoB w w') : OutP [] y w (.returned (.tuple #[.agg #[.slice none 0 0], .int .i64 y])) w' := ⟨h, none, 0, 0, 0, 0, rfl, rfl, InpS.nil _ _⟩
theorem take_at {α : Type} {l : List α} {k : Nat} (hk : k < l.length) : l.take (k + 1) = l.take k ++ [l[k]] := by rw [List.take_add_one, List.getElem?_eq_getElem hk]; rfl
theorem drop_at {α : Type} {l : List α} {k : Nat} (hk : k < l.length) : l = l.take k ++ l[k] :: l.drop (k + 1) := by
  rw [← List.drop_eq_getElem_cons hk, List.take_append_drop]
theorem chk_at {l : List MntL} {k : Nat} (hk : k < l.length) (h : chkF [] (l.take k) = none) : chkF [] l = if Pth.goodL l[k].1 = true then (if (l.take k).any (nearM l[k]) = true then some 12 else chkF (l.take (k + 1)) (l.drop (k + 1))) else some 10 := by
  have e : chkF [] l = chkF [] (l.take k ++ l[k] :: l.drop (k + 1)) := by rw [← drop_at hk]
  rw [e, chkF_from _ _ _ h, List.nil_append, chkF, take_at hk]
theorem chk_next {l : List MntL} {k : Nat} (hk : k < l.length) (h : chkF [] (l.take k) = none) (hg : Pth.goodL l[k].1 = true) (hn : (l.take k).any (nearM l[k]) = false) : chkF [] (l.take (k + 1)) = none := by
  rw [take_at hk, chkF_from _ _ _ h, List.nil_append, chkF, if_pos hg, if_neg (by rw [hn]; decide)]; rfl
theorem build_chk {l : List MntL} {y : Int} (h : chkF [] l = some y) : buildF l = .error y := by unfold buildF; rw [h]
theorem build_mnt {l : List MntL} (h : chkF [] l = none) : buildF l = mntsF [] l := by unfold buildF; rw [h]
theorem mnts_at {l : List MntL} {k : Nat} (hk : k < l.length) {t : List FileL} (h : mntsF [] (l.take k) = .ok t) {y : Int} (hm : mountF t l[k].1 l[k].2 = .error y) : mntsF [] l = .error y := by
  have e : mntsF [] l = mntsF [] (l.take k ++ l[k] :: l.drop (k + 1)) := by rw [← drop_at hk]
  rw [e]; exact mntsF_stop _ _ _ _ h hm
theorem mnts_next {l : List MntL} {k : Nat} (hk : k < l.length) {t u : List FileL} (h : mntsF [] (l.take k) = .ok t) (hm : mountF t l[k].1 l[k].2 = .ok u) : mntsF [] (l.take (k + 1)) = .ok u := by
  rw [take_at hk, mntsF_snoc _ _ _ h, hm]
end Go.Proofs.YtnbdjficoficcaaDoor
