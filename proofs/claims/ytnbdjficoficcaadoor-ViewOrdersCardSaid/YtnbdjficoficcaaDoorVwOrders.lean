/- Proved: the statement ViewOrders holds for every list of mounts and every place in it. Conditions: the listed package variables read as the program's text lays them (the card ties them); nothing else. -/
import Derived.Test.YtnbdjficoficcaaDoorVwPerm
import Derived.IntWalk

namespace Go.Proofs.YtnbdjficoficcaaDoor
set_option linter.unusedVariables false
open Go.ChangeShapes Go.WideShapes Go.ChangeAt Go.RowKit
open Go.ChangeMaps (open_string shut_string)
/- rows of mounts by their cells: pairs of a text and a slice value -/
def flatR : List (List UInt8 × Value) → List Value
  | [] => []
  | x :: r => .string (tx x.1) :: x.2 :: flatR r
theorem flatR_len : ∀ l : List (List UInt8 × Value), (flatR l).length = l.length * 2
  | [] => rfl
  | x :: r => by rw [flatR, List.length_cons, List.length_cons, flatR_len r, List.length_cons]; omega
theorem flatR_app (a b : List (List UInt8 × Value)) : flatR (a ++ b) = flatR a ++ flatR b := by
  induction a with
  | nil => rfl
  | cons x r ih => simp [flatR, ih]
theorem flatR_at : ∀ (a : List (List UInt8 × Value)) (i : Nat) (hi : i < a.length), (flatR a)[i * 2]? = some (.string (tx a[i].1)) ∧ (flatR a)[i * 2 + 1]? = some a[i].2
  | x :: r, 0, _ => ⟨rfl, rfl⟩
  | x :: r, i + 1, hi => by
    obtain ⟨h1, h2⟩ := flatR_at r i (by simpa using hi)
    have e : (i + 1) * 2 = i * 2 + 2 := by omega
    refine ⟨?_, ?_⟩
    · rw [e]; simpa [flatR] using h1
    · rw [e]; simpa [flatR] using h2
theorem flatR_take : ∀ (xs : List (List UInt8 × Value)) (p : Nat), flatR (xs.take p) = (flatR xs).take (p * 2)
  | [], p => by simp [flatR]
  | x :: r, 0 => by simp [flatR]
  | x :: r, p + 1 => by
    have e : (p + 1) * 2 = p * 2 + 1 + 1 := by omega
    rw [List.take_succ_cons, flatR, flatR_take r p, flatR, e, List.take_succ_cons, List.take_succ_cons]
theorem flatR_drop : ∀ (xs : List (List UInt8 × Value)) (p : Nat), flatR (xs.drop p) = (flatR xs).drop (p * 2)
  | [], p => by simp [flatR]
  | x :: r, 0 => by simp
  | x :: r, p + 1 => by
    have e : (p + 1) * 2 = p * 2 + 1 + 1 := by omega
    rw [List.drop_succ_cons, flatR_drop r p, flatR, e, List.drop_succ_cons, List.drop_succ_cons]
/- what a row of mounts reads as: texts, slices, each slice files that lie elsewhere -/
def PairS (w : World) (S : Nat → Prop) (x : List UInt8 × Value) (m : MntL) : Prop := x.1 = m.1 ∧ ∃ q n c jb jo, n = m.2.length ∧ x.2 = .slice q n c ∧ InpS w S (.slice q n c) m.2 jb jo
def PairsS (w : World) (S : Nat → Prop) (rs : List (List UInt8 × Value)) (ms : List MntL) : Prop := rs.length = ms.length ∧ ∀ i (h1 : i < rs.length) (h2 : i < ms.length), PairS w S rs[i] ms[i]
theorem PairsS.app {w : World} {S : Nat → Prop} {a b : List (List UInt8 × Value)} {x y : List MntL} (h : PairsS w S a x) (g : PairsS w S b y) : PairsS w S (a ++ b) (x ++ y) := by
  refine ⟨by rw [List.length_append, List.length_append, h.1, g.1], fun i h1 h2 => ?_⟩
  have e := h.1
  by_cases hi : i < a.length
  · rw [List.getElem_append_left hi, List.getElem_append_left (by omega)]
    exact h.2 i hi (by omega)
  · have k1 : i < (x ++ y).length := h2
    rw [List.getElem_append_right (by omega), List.getElem_append_right (by omega)]
    have := g.2 (i - a.length) (by rw [List.length_append] at h1; omega) (by rw [List.length_append] at h2; omega)
    simpa only [e] using this
theorem PairsS.take {w : World} {S : Nat → Prop} {a : List (List UInt8 × Value)} {x : List MntL} (h : PairsS w S a x) (n : Nat) : PairsS w S (a.take n) (x.take n) :=
  ⟨by rw [List.length_take, List.length_take, h.1], fun i h1 h2 => by
    rw [List.getElem_take, List.getElem_take]
    exact h.2 i _ _⟩
theorem PairsS.drop {w : World} {S : Nat → Prop} {a : List (List UInt8 × Value)} {x : List MntL} (h : PairsS w S a x) (n : Nat) : PairsS w S (a.drop n) (x.drop n) :=
  ⟨by rw [List.length_drop, List.length_drop, h.1], fun i h1 h2 => by
    rw [List.getElem_drop, List.getElem_drop]
    exact h.2 _ _ _⟩
theorem PairsS.keep {w w' : World} {S T : Nat → Prop} (hc : Chg T w w') (hST : ∀ k, S k → ¬ T k) {a : List (List UInt8 × Value)} {x : List MntL} (h : PairsS w S a x) : PairsS w' S a x :=
  ⟨h.1, fun i h1 h2 => by
    obtain ⟨e, q, n, c, jb, jo, hn, e2, hs⟩ := h.2 i h1 h2
    exact ⟨e, q, n, c, jb, jo, hn, e2, hs.keep hc hST⟩⟩
theorem flatR_ones : ∀ {rs : List (List UInt8 × Value)}, (∀ x ∈ rs, x.2.oneCell' = true) → ∀ u ∈ flatR rs, u.oneCell' = true
  | [], _, u, hu => nomatch hu
  | x :: r, h, u, hu => by
    rw [flatR] at hu
    rcases List.mem_cons.1 hu with rfl | hu
    · rfl
    · rcases List.mem_cons.1 hu with rfl | hu
      · exact h x (List.mem_cons_self ..)
      · exact flatR_ones (fun y hy => h y (List.mem_cons_of_mem _ hy)) u hu
theorem PairsS.one {w : World} {S : Nat → Prop} {rs : List (List UInt8 × Value)} {ms : List MntL} (h : PairsS w S rs ms) : ∀ u ∈ flatR rs, u.oneCell' = true := flatR_ones fun x hx => by
  obtain ⟨i, hi, rfl⟩ := List.getElem_of_mem hx
  obtain ⟨-, q, n, c, jb, jo, -, e, -⟩ := h.2 i hi (by rw [← h.1]; exact hi)
  rw [e]; rfl
theorem MntS.pairs {w : World} {S : Nat → Prop} {v : Value} {kb ko : Nat} {xs : List MntL} (h : MntS w S v xs kb ko) : ∃ rs : List (List UInt8 × Value), PairsS w S rs xs ∧
    ∀ i (hi : i < rs.length), w.cell? ⟨kb, ko + i * 2, none⟩ = some (.string (tx rs[i].1)) ∧ w.cell? ⟨kb, ko + i * 2 + 1, none⟩ = some rs[i].2 := by
  have hv : ∀ i : Fin xs.length, ∃ u : Value, w.cell? ⟨kb, ko + i * 2 + 1, none⟩ = some u ∧ PairS w S (xs[i].1, u) xs[i] := fun i => by
    obtain ⟨_, q', n, c', jb, jo, hn, h2, h3⟩ := h.at' i i.2
    exact ⟨_, h2, rfl, q', n, c', jb, jo, hn, rfl, h3⟩
  refine ⟨List.ofFn fun i : Fin xs.length => (xs[i].1, Classical.choose (hv i)), ⟨by simp, fun i h1 h2 => ?_⟩, fun i hi => ?_⟩
  · rw [List.getElem_ofFn]
    exact (Classical.choose_spec (hv ⟨i, h2⟩)).2
  · have hi' : i < xs.length := by simpa using hi
    rw [List.getElem_ofFn]
    exact ⟨(h.at' i hi').1, (Classical.choose_spec (hv ⟨i, hi'⟩)).1⟩
theorem MntS.of_row {w : World} {lo : Nat} {S T : Nat → Prop} {v : Value} {rs : List (List UInt8 × Value)} {ms : List MntL} {n : Nat} (h : w.ownsRow lo 35 2 v n (flatR rs)) (hn : n = rs.length) (hp : PairsS w S rs ms) (hST : ∀ k, S k → T k) (hlo : ∀ k, lo ≤ k → T k) : ∃ kb, MntS w T v ms kb 0 := by
  subst hn
  have hl := hp.1
  have hcl := fun g hg => World.ownsRow.cells (g := g) h hg
  rcases h.2 with ⟨rfl, h0⟩ | ⟨g, cap, cur, rfl, hb, hh, h3, h4, _⟩
  · have : ms = [] := List.eq_nil_of_length_eq_zero (by omega)
    subst this
    exact ⟨0, ⟨⟨none, 0, rfl, Nat.le_refl _, Nat.zero_le _, fun h => absurd rfl h⟩, fun i hi => by simp at hi⟩⟩
  · refine ⟨g, ⟨⟨_, cap, by rw [hl], by omega, h4, fun _ => ⟨rfl, hlo g hb⟩⟩, fun i hi => ?_⟩⟩
    have hi' : i < rs.length := by omega
    obtain ⟨e, q, k, c, jb, jo, hk, e2, hs⟩ := hp.2 i hi' hi
    obtain ⟨g0, g1⟩ := flatR_at rs i hi'
    have c0 := hcl g rfl _ _ g0
    have c1 := hcl g rfl _ _ g1
    rw [add_zero_off] at c0 c1
    rw [Nat.zero_add, ← e]
    exact ⟨c0, q, k, c, jb, jo, hk, by rw [c1, e2], hs.mono hST⟩
theorem rest_any (T e : TypeId) (s : Nat) (hT : Tryd.prog.underlying T = some (.slice e)) (hs : ∀ w, (Go.sizeOf e).run Tryd.prog w = .ok s w) (q : Option Addr) (n c p : Nat) (hp : p ≤ n) (hn : n ≤ c) :
    ∃ (q1 : Option Addr) (c1 : Nat), (∀ w, (Instr.sliceAt T (.slice q n c) (some (.int .i64 p)) none none).run Tryd.prog w = .ok (.slice q1 (n - p) c1) w) ∧ (p < n → ∀ a, q = some a → q1 = some (a.add (p * s))) ∧ (q = none → q1 = none) := by
  have he : Tryd.prog.elem T = e := by unfold Program.elem; rw [hT]
  have hT' : Tryd.prog.underlying T = some (.slice (Tryd.prog.elem T)) := by rw [he]; exact hT
  have hv : ∀ w, (Instr.sliceAt T (.slice q n c) (some (.int .i64 p)) none none).run Tryd.prog w = .ok (.slice (if c = p then q else q.map (·.add (p * s))) (n - p) (c - p)) w := fun w => by
    rw [run_sliceAt_slice (h := hT'), run_slice_l (ht := hT') (h0 := by omega) (h1 := by omega), he, hs]
    simp [Result.andThen, sliced]
  refine ⟨_, _, hv, fun hlt a ha => ?_, fun hq => ?_⟩
  · rw [if_neg (by omega), ha]; rfl
  · subst hq; split <;> rfl
theorem step_append_inp {P : Program} {ops : Array Oper} {o : Oper} {a : Act} {K : Act → World → Prop} {Q : Exit → Act → World → Prop} {E : Prop} (hgd : o.guard = none) (w : World) (s x : Operand) (t : TypeId)
    (ho : o.op = .call { callee := .builtin .append, args := #[s, x], argTypes := #[t, t] })
    (base : Nat) (e : TypeId) (i : TypeInfo) (z : Value) (size bytes : Nat) (ht : P.underlying t = some (.slice e)) (hi : P.info? e = some i) (hz : i.zero = some z)
    (hsize : i.size = size) (hby : i.bytes = bytes) (hzs : z.cells.size = size) (hsz : 0 < size)
    (v : Value) (n : Nat) (xs : List Value) (hs : a.eval s = v) (hown : w.ownsRow base e size v n xs)
    (q : Option Addr) (m c : Nat) (news : List Value) (hx : a.eval x = .slice q m c) (hq : (∃ ad, q = some ad ∧ ∀ j u, news[j]? = some u → w.cell? (ad.add j) = some u) ∨ (q = none ∧ m = 0 ∧ news = [])) (hl : news.length = m * size) (h1 : ∀ u ∈ news, u.oneCell' = true)
    (h63 : n + m ≤ maxLen) (hbytes : (n + m) * bytes ≤ 140737488355328) (hbase : base ≤ w.heap.size)
    (h : ∀ v' w', w'.ownsRow base e size v' (n + m) (xs ++ news) → w.grownBy w' v.ownBlock → K (a.put o.dst v') w') :
    if Region.wanted o (yielded ops a.tmps) = true then Oper.wp P o a w K Q else E := by
  rcases hq with ⟨ad, rfl, hnews⟩ | ⟨rfl, rfl, rfl⟩
  · exact step_append_at hgd w s x t ho base e i z size bytes ht hi hz hsize hby hzs hsz v n xs hs hown ad m c news hx hl hnews h1 h63 hbytes hbase fun v' w' h2 h3 _ => h v' w' h2 h3
  · have hw : Region.wanted o (yielded ops a.tmps) = true := by simp [Region.wanted, hgd]
    rw [if_pos hw]
    have hrun := run_append_none (P := P) (w := w) base t o.type e i size c ht hi v n xs hown
    unfold Oper.wp
    simp [execOp, ho, resolve, invoke, builtin, hs, hx, hrun, Result.andThen]
    exact h v w (by rw [List.append_nil]; exact hown) (World.grownBy.refl _ _)
theorem mntNews {w : World} {S : Nat → Prop} {q : Option Addr} {n c kb ko : Nat} {l : List MntL} (hs : MntS w S (.slice q n c) l kb ko) {rs : List (List UInt8 × Value)} (hl : rs.length = l.length)
    (hc : ∀ i (hi : i < rs.length), w.cell? ⟨kb, ko + i * 2, none⟩ = some (.string (tx rs[i].1)) ∧ w.cell? ⟨kb, ko + i * 2 + 1, none⟩ = some rs[i].2) {a : Addr} (ha : q = some a) (p j : Nat) (u : Value) (hj : (flatR rs)[p * 2 + j]? = some u) : w.cell? ((a.add (p * 2)).add j) = some u := by
  have hlt : p * 2 + j < (flatR rs).length := (List.getElem?_eq_some_iff.1 hj).1
  rw [flatR_len] at hlt
  have hne : l ≠ [] := by rintro rfl; simp at hl; subst hl; simp at hlt
  obtain ⟨q', c', e, -, -, h3⟩ := hs.sh
  cases e
  obtain ⟨h4, -⟩ := h3 hne
  rw [h4] at ha
  cases ha
  have hd : (p * 2 + j) / 2 < rs.length := by omega
  obtain ⟨g0, g1⟩ := flatR_at rs _ hd
  obtain ⟨c0, c1⟩ := hc _ hd
  rw [Go.WideShapes.add_plain, Go.WideShapes.add_plain, Nat.add_assoc]
  rcases Nat.mod_two_eq_zero_or_one (p * 2 + j) with hm | hm
  · have e : (p * 2 + j) / 2 * 2 = p * 2 + j := by omega
    rw [e] at g0 c0
    rw [g0] at hj
    cases hj
    exact c0
  · have e : (p * 2 + j) / 2 * 2 + 1 = p * 2 + j := by omega
    rw [e] at g1
    rw [Nat.add_assoc, e] at c1
    rw [g1] at hj
    cases hj
    exact c1
set_option maxHeartbeats 4000000 in
set_option maxRecDepth 20000 in
theorem viewOrders_all (l : List MntL) (v : Value) (kb ko : Nat) (x : Int) (W : World) (hs : MntS W (OldB W) v l kb ko) (hr : ReachM l) (wx : (Lit.int .i64 x).wf = true) (hml : Pth.Ml W) :
    Calls Tryd.prog 5 #[v, .int .i64 x] W fun e w' => e = .returned (.bool true) ∧ Chg NoB W w' := by
  have Hs := Lib.hid hs
  obtain ⟨⟨q, c, rfl, h1, h2, h3⟩, hat⟩ := hs
  obtain ⟨n, hn⟩ : ∃ n, n = l.length := ⟨_, rfl⟩
  rw [← hn] at Hs h1 ⊢
  have Hn := Lib.hid hn
  have Hr := Lib.hid hr
  have Hml := Lib.hid hml
  have H3 := Lib.hid h3
  have hnr : n ≤ 140737488351232 := by rw [hn]; exact hr.1
  unfold maxLen at h2
  clear hn hr hml h3 hat wx
  go_enter Tryd.func5, Tryd.ntmps5
  go_wp2_with fail
  refine (valive_any W Hml.out).mono ?_
  rintro e w1 ⟨rfl, hc1⟩
  have Hc1 := Lib.hid hc1
  have Hgr := Lib.hid (vgreat_any l Hr.out _ _ kb ko w1 (Hs.out.keep hc1 fun _ _ => id))
  obtain ⟨g, hg⟩ : ∃ g, g = greatM l := ⟨_, rfl⟩
  rw [← hg] at Hgr
  have Hg := Lib.hid hg
  clear hc1 hg
  go_wp2_with fail
  refine Hgr.out.mono ?_
  rintro e w2 ⟨rfl, hc2⟩
  have Hc2 := Lib.hid (Hc1.out.trans hc2)
  clear hc2 Hgr
  cases g with
  | true =>
    go_wp2_with fail
    go_ret
    exact ⟨rfl, Hc2.out⟩
  | false =>
  by_cases hx0 : x < 0
  · go_wp2_with fail
    go_ret
    exact ⟨rfl, Hc2.out⟩
  by_cases hxn : (n : Int) < x
  · go_wp2_with fail
    go_ret
    exact ⟨rfl, Hc2.out⟩
  obtain ⟨p, rfl⟩ := Int.eq_ofNat_of_zero_le (show 0 ≤ x by omega)
  have hat1 : p ≤ n := by omega
  have hsm := small_w Hg.out.symm
  have hn40 : n ≤ 1048576 := by rw [Hn.out]; exact hsm.1
  have hlt : (p : Int) ≤ (n : Int) := by omega
  have hlc : (n : Int) ≤ (c : Int) := by omega
  have hac : (p : Int) ≤ (c : Int) := by omega
  have hxx : ¬ (p : Int) < 0 := by omega
  have hyy : ¬ (n : Int) < (p : Int) := by omega
  obtain ⟨rs, hrp, hrc⟩ := Hs.out.pairs
  obtain ⟨q1, c1, hsl, hq1, hq0⟩ := rest_any 22 35 2 Tryd.underlying22 (fun w => sizeM w) q n c p hat1 h1
  have Hsl := Lib.hid hsl
  obtain ⟨i0, hi, hz0, hz1, hz2⟩ := info_parts mntInfo
  have Hi := Lib.hid hi
  have Hz0 := Lib.hid hz0
  have Hzb1 := Lib.hid hz1
  have Hzb2 := Lib.hid hz2
  have hrl : rs.length = n := by rw [hrp.1, Hn.out]
  have Hlen1 : Hid ((flatR (rs.drop p)).length = (n - p) * 2) := Lib.hid (by rw [flatR_len, List.length_drop, hrl])
  have Hlen2 : Hid ((flatR (rs.take p)).length = p * 2) := Lib.hid (by rw [flatR_len, List.length_take, hrl]; omega)
  have H1a := Lib.hid (hrp.drop p).one
  have H1b := Lib.hid (hrp.take p).one
  have M1 := Lib.hid (show 0 + (n - p) ≤ maxLen by unfold maxLen; omega)
  have M2 := Lib.hid (show (0 + (n - p)) * 40 ≤ 140737488355328 by omega)
  have M3 := Lib.hid (show (0 + (n - p)) + p ≤ maxLen by unfold maxLen; omega)
  have M4 := Lib.hid (show ((0 + (n - p)) + p) * 40 ≤ 140737488355328 by omega)
  have Hq1 : Hid (∀ w' : World, Chg NoB W w' → (∃ ad, q1 = some ad ∧ ∀ j u, (flatR (rs.drop p))[j]? = some u → w'.cell? (ad.add j) = some u) ∨ (q1 = none ∧ n - p = 0 ∧ flatR (rs.drop p) = [])) := Lib.hid fun w' hc => by
    by_cases hpn : p < n
    · cases q with
      | none =>
        obtain ⟨h, -⟩ := H3.out (by intro e; have := Hn.out; rw [e] at this; simp at this; omega)
        cases h
      | some a =>
        refine .inl ⟨_, hq1 hpn a rfl, fun j u hj => hc.keep (mntNews Hs.out hrp.1 hrc rfl p j u ?_)⟩
        rw [flatR_drop, List.getElem?_drop] at hj
        exact hj
    · have e : rs.drop p = [] := List.drop_eq_nil_of_le (by omega)
      have e0 : flatR (rs.drop p) = [] := by rw [e]; rfl
      cases q with
      | none => exact .inr ⟨hq0 rfl, by omega, e0⟩
      | some a =>
        cases q1 with
        | none => exact .inr ⟨rfl, by omega, e0⟩
        | some b => exact .inl ⟨b, rfl, fun j u hj => by rw [e0] at hj; cases hj⟩
  have Hq2 : Hid (∀ w' : World, Chg NoB W w' → (∃ ad, q = some ad ∧ ∀ j u, (flatR (rs.take p))[j]? = some u → w'.cell? (ad.add j) = some u) ∨ (q = none ∧ p = 0 ∧ flatR (rs.take p) = [])) := Lib.hid fun w' hc => by
    cases q with
    | none =>
      have hl0 : l = [] := by
        by_cases h : l = []
        · exact h
        · obtain ⟨h, -⟩ := H3.out h; cases h
      have hr0 : rs = [] := List.eq_nil_of_length_eq_zero (by rw [hrp.1, hl0]; rfl)
      exact .inr ⟨rfl, by rw [hr0] at hrl; simp at hrl; omega, by rw [hr0, List.take_nil]; rfl⟩
    | some a =>
      refine .inl ⟨a, rfl, fun j u hj => hc.keep ?_⟩
      have h := mntNews Hs.out hrp.1 hrc rfl 0 j u (by
        rw [flatR_take] at hj
        have hlt : j < p * 2 := by have := (List.getElem?_eq_some_iff.1 hj).1; rw [List.length_take] at this; omega
        rw [List.getElem?_take_of_lt hlt] at hj
        rw [Nat.zero_mul, Nat.zero_add]; exact hj)
      rwa [Nat.zero_mul, show a.add 0 = a by unfold Addr.add; simp] at h
  have Hrp : Hid (PairsS W (OldB W) (rs.drop p ++ rs.take p) (l.drop p ++ l.take p)) := Lib.hid ((hrp.drop p).app (hrp.take p))
  have Hrl : Hid ((rs.drop p ++ rs.take p).length = n) := Lib.hid (by rw [List.length_append, List.length_drop, List.length_take, hrl]; omega)
  have hal := (Chg.refl NoB w2).alloc (.cells #[] 35)
  have hb := heap_alloc_new w2 (.cells #[] 35)
  have hw3 : ∀ w', Chg NoB (w2.alloc (.cells #[] 35)) w' → w'.ownsRow w2.heap.size 35 2 (.slice (some ⟨w2.heap.size, 0, none⟩) 0 0) 0 [] := fun w' h => ⟨rfl, .inr ⟨_, 0, #[], rfl, Nat.le_refl _, row_kept h hb id, Nat.le_refl _, Nat.zero_le _, rfl, rfl⟩⟩
  have Hcd := Lib.hid (Hc2.out.trans hal.drew)
  have HE := Lib.hid (hw3 _ (Chg.refl NoB _).drew)
  have HN := Lib.hid (Hq1.out _ Hcd.out)
  have HB := Lib.hid (show w2.heap.size ≤ (w2.alloc (.cells #[] 35)).drew.heap.size from hal.size)
  have Hwl := Lib.hid Hc2.out.size
  have Hgr := Lib.hid (fun (w3 : World) (g : (w2.alloc (.cells #[] 35)).drew.grownBy w3 (Value.slice (some ⟨w2.heap.size, 0, none⟩) 0 0).ownBlock) => (Hcd.out.grown g fun j hj => .inr (by cases hj; exact Hwl.out) : Chg NoB W w3))
  clear hal hb hw3 hi hz0 hz1 hz2 hq1 hq0 hrp hrc hrl
  go_upto_region 5 with fail
  have hsl := Hsl.out
  go_region_law (first
    | (refine step_append_inp (by rfl) _ (.tmp 24) (.tmp 27) 22 (by rfl) w2.heap.size 35 i0 (.agg #[.string ⟨#[]⟩, .slice none 0 0]) 2 40 Tryd.underlying22 Hi.out Hz0.out Hzb1.out Hzb2.out rfl (by decide) _ 0 [] (by rfl) HE.out q1 (n - p) c1 (flatR (rs.drop p)) (by rfl) HN.out Hlen1.out H1a.out M1.out M2.out HB.out ?_; intro v3 w3 hown3 hgr3; have Hgr3 := Lib.hid hgr3; have Hown3 := Lib.hid hown3; clear hown3 hgr3)
    | (refine step_append_inp (by rfl) _ (.tmp 28) (.tmp 31) 22 (by rfl) w2.heap.size 35 i0 (.agg #[.string ⟨#[]⟩, .slice none 0 0]) 2 40 Tryd.underlying22 Hi.out Hz0.out Hzb1.out Hzb2.out rfl (by decide) _ (0 + (n - p)) _ (by rfl) Hown3.out q p c (flatR (rs.take p)) (by rfl) (Hq2.out _ (Hgr.out _ Hgr3.out)) Hlen2.out H1b.out M3.out M4.out (Nat.le_trans HB.out Hgr3.out.size) ?_; intro v4 w4 hown4 hgr4; have Hgr4 := Lib.hid hgr4; have Hown4 := Lib.hid hown4; clear hown4 hgr4))
  have hown := Hown4.out
  have e1 : 0 + (n - p) + p = n := by omega
  rw [e1, List.nil_append, ← flatR_app] at hown
  obtain ⟨vq, vc, rfl, -, -⟩ := row_shape hown
  have hc4 : Chg NoB W w4 := (Hgr.out _ Hgr3.out).grown Hgr4.out fun j hj => .inr (by have h1 := (World.ownsRow.lt Hown3.out j hj).1; have := Hwl.out; omega)
  have Hc4 := Lib.hid hc4
  have hT : ∀ k, OldB W k → (fun k => OldB W k ∨ w2.heap.size ≤ k) k := fun k h => .inl h
  obtain ⟨mb, hms⟩ := MntS.of_row hown Hrl.out.symm (Hrp.out.keep hc4 fun _ _ => id) (T := fun k => OldB W k ∨ w2.heap.size ≤ k) hT (fun k h => .inr h)
  have hrot : ∀ m ∈ l.drop p ++ l.take p, m ∈ l := fun m hm => by
    rcases List.mem_append.1 hm with h | h
    · exact List.mem_of_mem_drop h
    · exact List.mem_of_mem_take h
  have htwo := build_two (l.take p) (l.drop p)
  rw [List.take_append_drop] at htwo
  have HA := Lib.hid (fun w' (h : Chg NoB W w') => vbuild_any l hsm.1 hsm.2 _ _ kb ko w' (ml_keep Hml.out h) (Hs.out.keep h fun _ _ => id))
  have HB2 := Lib.hid (fun w' (h : Chg NoB w4 w') => vbuild_any (l.drop p ++ l.take p) (by rw [List.length_append, List.length_drop, List.length_take]; have := hsm.1; omega) (fun m hm => hsm.2 m (hrot m hm)) _ _ mb 0 w' (ml_keep Hml.out (hc4.trans h)) (hms.keep h fun _ _ => id))
  have hg1 := build_good l
  have hg2 := build_good (l.drop p ++ l.take p)
  generalize outL (buildF (l.drop p ++ l.take p)) = d2 at *
  generalize outE (buildF (l.drop p ++ l.take p)) = y2 at *
  generalize outL (buildF l) = d1 at *
  generalize outE (buildF l) = y1 at *
  obtain ⟨rfl, hy⟩ := htwo
  have Hgw := Lib.hid (good_w hg1)
  have Hy := Lib.hid hy
  clear hown e1 hc4 hT hms hrot hg1 hg2 hy hsm
  go_wp2_with fail
  refine (HA.out _ Hc4.out).mono ?_
  rintro e w5 ⟨hc5, q5, n5, c5, kb5, ko5, hn5, rfl, hs5⟩
  have Hs5 := Lib.hid hs5
  have Hc5 := Lib.hid hc5
  clear hn5 hs5 hc5
  have hal_ := (Chg.refl NoB w5).alloc (.cells #[.slice q5 n5 c5] 27)
  have hb_ := heap_alloc_new w5 (.cells #[.slice q5 n5 c5] 27)
  obtain ⟨b6, hxb_⟩ : ∃ b, b = w5.heap.size := ⟨_, rfl⟩
  obtain ⟨w6, hw_⟩ : ∃ w_, w5.alloc (.cells #[.slice q5 n5 c5] 27) = w_ := ⟨_, rfl⟩
  have hz_ : w6.heap.size = b6 + 1 := by rw [← hw_, hxb_]; exact alloc_size _ _
  rw [hw_] at hal_ hb_
  rw [← hxb_] at hb_
  have Hw6 := Lib.hid hw_
  have Hx6 := Lib.hid hxb_
  have Ha6 := Lib.hid hal_
  have Hb6 := Lib.hid hb_
  have Hz6 := Lib.hid hz_
  clear hal_ hb_ hxb_ hw_ hz_
  have Hc6 := Lib.hid (Hc5.out.trans Ha6.out)
  go_upto_region 7 with fail
  rw [Hw6.out, ← Hx6.out]
  go_wp2_with fail
  refine (HB2.out _ Hc6.out).mono ?_
  rintro e w7 ⟨hc7, q7, n7, c7, kb7, ko7, hn7, rfl, hs7⟩
  have Hs7 := Lib.hid hs7
  have Hc7 := Lib.hid hc7
  have Hb67 := Lib.hid (row_kept hc7 Hb6.out id)
  clear hn7 hs7 hc7
  have hal_ := (Chg.refl NoB w7).alloc (.cells #[.slice q7 n7 c7] 27)
  have hb_ := heap_alloc_new w7 (.cells #[.slice q7 n7 c7] 27)
  obtain ⟨b8, hxb_⟩ : ∃ b, b = w7.heap.size := ⟨_, rfl⟩
  obtain ⟨w8, hw_⟩ : ∃ w_, w7.alloc (.cells #[.slice q7 n7 c7] 27) = w_ := ⟨_, rfl⟩
  have hz_ : w8.heap.size = b8 + 1 := by rw [← hw_, hxb_]; exact alloc_size _ _
  rw [hw_] at hal_ hb_
  rw [← hxb_] at hb_
  have Hw8 := Lib.hid hw_
  have Hx8 := Lib.hid hxb_
  have Ha8 := Lib.hid hal_
  have Hb8 := Lib.hid hb_
  have Hz8 := Lib.hid hz_
  clear hal_ hb_ hxb_ hw_ hz_
  have Hc8 := Lib.hid (Hc4.out.trans (Hc6.out.trans (Hc7.out.trans Ha8.out)))
  have t0 := var1 (row_kept Ha8.out Hb67.out id)
  have u0 := var1 Hb8.out
  have HS := Lib.hid (rsame_any d1 d1 _ _ _ _ _ _ _ _ w8 Hgw.out.1 Hgw.out.1 (Hs5.out.keep (Ha6.out.trans (Hc7.out.trans Ha8.out)) fun _ _ => id) (Hs7.out.keep Ha8.out fun _ _ => id))
  rw [decide_eq_true rfl] at HS
  have hyy2 : ((y1 == 0) == (y2 == 0)) = true := by
    have := Hy.out
    rw [beq_iff_eq, Bool.eq_iff_iff, beq_iff_eq, beq_iff_eq]
    rw [Bool.eq_iff_iff] at this
    simpa using this
  go_upto_region 8 with fail
  rw [Hw8.out, ← Hx8.out]
  go_wp2_with fail
  refine HS.out.mono ?_
  rintro e w9 ⟨rfl, hc9⟩
  have Hc9 := Lib.hid (Hc8.out.trans hc9)
  clear hc9
  go_wp2_with fail
  go_ret
  exact ⟨rfl, Hc9.out⟩
/-FRAME-/
set_option maxRecDepth 100000 in
theorem viewOrders_lifted (os : Os) (started : os.Started) (H : Type) (enc : TypeId × Value → H) :
    ReturnsInHanded {} Tryd.checked os 5 .any (fun w args => (Rows.viewOrdersSpec.pre enc Tryd.prog Tryd.f5 [] false w args ∧ laidMetH Tryd.prog Rows.viewOrdersRow.laid w) ∧ sizedMet enc Tryd.prog Tryd.f5 (OpenSpec.ofChange Rows.viewOrdersSpec) false w args)
      (Rows.viewOrdersSpec.post enc Tryd.prog Tryd.f5 false true false false) := by
  refine returns_both (C := Tryd.checked) (X := fun w _ => laidMetH Tryd.prog Rows.viewOrdersRow.laid w) (fun _ _ _ hh h => h.of_heap hh) Tryd.own started (by kernel_rfl) Tryd.func5
    (ChangeSpec.witness_shaped (enc := enc) (C := Tryd.checked) (os := os) (X := fun w _ => laidMetH Tryd.prog Rows.viewOrdersRow.laid w) false (World.laidAll Tryd.prog os Rows.viewOrdersRow.laid) #[.slice none 0 0, .int .i64 0] 8 (World.laidAll_os _ _ _)
      (World.shaped_of_ZipB (by kernel_rfl) (by kernel_rfl)) (by kernel_rfl) (by kernel_rfl) (by kernel_rfl)
      (by rw [MakeChecks.laidMetH_plain _ _ _ (by kernel_rfl)]; exact laidMet_laidAll _ (by kernel_rfl) (by kernel_rfl))) ?_
  intro W base args ds gs before hval0 hW _ hsz hL hsh _
  have hval : ∀ (j : Nat) t v, Tryd.f5.params[j]? = some t → args[j]? = some v → Value.okWide Tryd.prog W .any base t v := hval0
  have hW' := hW
  obtain ⟨p, q, hA0, hV, rfl, _, _⟩ := hW
  have hA : DataW.TrodAll enc Tryd.prog W 0 (fun _ => true) true Tryd.f5.params.toList args.toList ds p := hA0
  have hsz1 : (DataW.weightsEach Tryd.prog (Tryd.f5.params.toList ++ Rows.viewOrdersSpec.plain.varTypes Tryd.prog) (ds ++ gs)).all (· ≤ reachBytes) = true := hsz
  rw [Tryd.params5] at hA hval hsz1
  obtain ⟨v0, v1, d0, d1, p0, p1, rfl, rfl, rfl, h0, h1⟩ := trodAll_two hA
  obtain ⟨rfl, rfl⟩ := trodVars_none hV
  obtain ⟨l0, kb0, ko0, hn0, hr0⟩ := open_mounts (hval 0 22 v0 rfl rfl) h0 (fun m hm => of_decide_eq_true (List.all_eq_true.1 hsz1 m (DataW.weights_mem_each (j := 0) (t := 22) (d := d0) rfl rfl m hm)))
  obtain ⟨x1, rfl, rfl, rfl, wx1⟩ := open_int Tryd.underlying3 (hval 1 3 v1 rfl rfl) h1
  simp only [List.append_nil] at hW'
  rw [MakeChecks.laidMetH_plain _ _ _ (by kernel_rfl)] at hL
  have hml : Pth.Ml W := wml_of hsh
  clear hA0 hval0
  refine (viewOrders_all l0 _ kb0 ko0 x1 W hn0 hr0 wx1 hml).mono fun e W' ⟨he, hb⟩ => ?_
  subst he
  exact ⟨_, rfl, _, _, _, [], _, [], hW', trodAll_mk1 (shut_bool Tryd.underlying4 _), (trodAll_cons_mk (mounts_stay h0 hb.below) (trodAll_cons_mk (shut_int Tryd.underlying3 wx1) trodAll_mk0)), rfl, hb.below.frame _, fun h => by cases h⟩
theorem viewOrders_holds : Rows.ViewOrdersSaid :=
  OpenClaim.holds_of_wide 5 Tryd.f5 rfl rfl rfl rfl rfl rfl rfl ⟨rfl, rfl, rfl, rfl, rfl⟩ rfl rfl rfl rfl rfl (by kernel_rfl) Tryd.func5 (by kernel_rfl)
    (of_decide_eq_true (by kernel_rfl)) (by unfold Func.isWrapper; first | (rw [if_pos (by decide +kernel)]; kernel_rfl) | (rw [if_neg (by decide +kernel)]; exact ⟨rfl, rfl⟩))
    (fun os started H enc _ => viewOrders_lifted os started H enc)
theorem viewOrders_card : Rows.ViewOrdersCardSaid :=
  Claim7.holds_tied_plain_at .later [] [.data, .pinned] true (true, "86869f4e0d2b7613ef962574d9f579f063d7be76b275564b7df8f38d61515bd3") false viewOrders_holds (fun _ h => by cases h) (by kernel_rfl) (fun _ h => by cases h) viewOrders_row_tie rfl ⟨rfl, rfl⟩ (by kernel_rfl) rfl
    (fun f fn hf hfn => by
      obtain rfl : f = 5 := Option.some.inj ((show Tryd.prog.funcNamed "sapling/saplinglaw11.ViewOrders" = some 5 by kernel_rfl).symm.trans hf) |>.symm
      obtain rfl : fn = Tryd.f5 := (Option.some.inj (Tryd.func5.symm.trans hfn)).symm
      exact ⟨by kernel_rfl, fun j t ht => by
        rw [Tryd.params5] at ht
        have hm : t ∈ [22, 3] := by simpa using Array.mem_of_getElem? ht
        have hall : ([22, 3].all fun u => !Tryd.prog.wantsStandIn u) = true := by kernel_rfl
        exact (show Tryd.prog.wantsStandIn t = false by simpa using List.all_eq_true.1 hall t hm)⟩)
    (by kernel_rfl)
#print axioms viewOrders_card
end Go.Proofs.YtnbdjficoficcaaDoor
