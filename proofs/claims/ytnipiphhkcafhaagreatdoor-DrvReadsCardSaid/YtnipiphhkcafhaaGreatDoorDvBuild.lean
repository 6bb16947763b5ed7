/- The contract of build: a build out of a node. Conditions: the library's variables read as the program's text lays them; a node of at most 2^16 bytes. -/
import Derived.Test.YtnipiphhkcafhaaGreatDoorDvRow
import Derived.Test.YtnipiphhkcafhaaGreatDoorDvLeaf
import Derived.Test.YtnipiphhkcafhaaGreatDoorVerTop
namespace Go.Proofs.YtnipiphhkcafhaaGreatDoor
set_option linter.unusedVariables false
open Go.ChangeShapes Go.WideShapes Go.ChangeAt Go.RowKit
theorem nl_dec (ks : List Nd) : decide (0 ≤ nlI (nlF ks)) = (nlF ks).isSome := by
  cases nlF ks with
  | none => rfl
  | some k => simp [nlI]
theorem nl_all (ks : List Nd) : (!decide (0 ≤ nlI (nlF ks))) = ks.all (·.leaf) := by
  rw [nl_dec]
  unfold nlF
  rw [List.findIdx?_isSome]
  simp [List.not_any_eq_all_not]
set_option maxHeartbeats 1000000 in
theorem atoms_any (ks : List Nd) (S : Nat → Prop) (v : Value) (kb ko : Nat) (w : World) (hl : ks.length ≤ 1048576) (hs : NdS w S v ks kb ko) : Calls Tryz.prog 22 #[v] w (SayV (.bool (ks.all (·.leaf))) w) := by
  have Hi := Lib.hid (contains_any ks S v kb ko w hl hs)
  rw [← nl_all]
  obtain ⟨⟨a, cap, rfl, -, -, -⟩, -⟩ := hs
  obtain ⟨pl, hpl⟩ : ∃ pl, pl = ks.length := ⟨_, rfl⟩
  rw [← hpl] at Hi ⊢
  clear hpl
  generalize decide (0 ≤ nlI (nlF ks)) = r at *
  go_enter Tryz.func22, Tryz.ntmps22
  go_wp2_with fail
  refine Hi.out.mono ?_
  rintro e w1 ⟨rfl, hc⟩
  go_wp2_with fail
  go_ret
  exact ⟨rfl, hc⟩
theorem vparse_any (l : List UInt8) (base : Nat) (w : World) (h : Lb base w) (hl : l.length ≤ 65536) : Calls Tryz.prog 23 #[.string (tx l)] w (fun e w' => Chg NoB w w' ∧ match Ver.verL l with
    | some (a, b, c) => e = .returned (.tuple #[.agg #[.int .i64 a, .int .i64 b, .int .i64 c], .int .i64 0])
    | none => e = .returned (.tuple #[.agg #[.int .i64 0, .int .i64 0, .int .i64 0], .int .i64 20])) := by
  obtain ⟨h1, h2, ⟨tp, p, h3⟩, -, ⟨m, h5⟩⟩ := h
  have hb : Below base w w := Below.refl _ _
  have hp := Ver.parse_any m (tx l) w (h5 w hb) ⟨tp, p, h3 w hb⟩ h2.here (by rw [tx_size]; exact hl)
  rw [tx_list] at hp
  refine hp.mono fun e w' h => ?_
  unfold Ver.ParseO at h
  cases hv : Ver.verL l with
  | none =>
    rw [hv] at h
    exact ⟨chg_of_below h.2, h.1⟩
  | some x =>
    obtain ⟨a, b, c⟩ := x
    rw [hv] at h
    exact ⟨chg_of_below h.2, h.1⟩
theorem len5 {α : Type} (l : List α) (h : l.length = 5) : ∃ a b c d e, l = [a, b, c, d, e] := by
  match l, h with
  | [a, b, c, d, e], _ => exact ⟨a, b, c, d, e, rfl⟩
def zD6 : Array Value := #[.string ⟨#[]⟩, .int .i64 0, .int .i64 0, .int .i64 0, .string ⟨#[]⟩, .slice none 0 0]
def BuildP (r : Option DrvL) (w : World) (e : Ending) (w' : World) : Prop := Chg NoB w w' ∧ match r with
  | none => e = .returned (.tuple #[.agg zD6, .bool false])
  | some d => ∃ v, e = .returned (.tuple #[v, .bool true]) ∧ DrvV w' (NewB w w') v d
theorem build_no5 {l : Bool} {a : ByteArray} {ks : List Nd} (h : ks.length ≠ 5) : buildF (.mk l a ks) = none := by
  unfold buildF
  match ks, h with
  | [], _ => rfl
  | [_], _ => rfl
  | [_, _], _ => rfl
  | [_, _, _], _ => rfl
  | [_, _, _, _], _ => rfl
  | [_, _, _, _, _], h => exact absurd rfl h
  | _ :: _ :: _ :: _ :: _ :: _ :: _, _ => rfl
theorem inputOf_two {x p q : Nd} (hk : x.kids = [p, q]) : inputOf x = if p.leaf = true ∧ q.leaf = true then some (atL p, atL q) else none := by
  unfold inputOf
  rw [hk]
theorem inputOf_no {x : Nd} (h : x.kids.length ≠ 2) : inputOf x = none := by
  unfold inputOf
  split
  · rename_i h'
    rw [h'] at h
    exact absurd rfl h
  · rfl
theorem len2 {α : Type} (l : List α) (h : l.length = 2) : ∃ a b, l = [a, b] := by
  match l, h with
  | [a, b], _ => exact ⟨a, b, rfl⟩
set_option maxHeartbeats 8000000 in
set_option maxRecDepth 20000 in
theorem dbuild_any (n : Nd) (hn : n.count ≤ 65536) (S : Nat → Prop) (v : Value) (base : Nat) (w : World) (hl : Lb base w) (hv : NdV w S v n) : Calls Tryz.prog 10 #[v] w (BuildP (buildF n) w) := by
  obtain ⟨nl, na, ks⟩ := n
  obtain ⟨ha, s, kb, ko, rfl, hs⟩ := hv
  have hcn := (cnt_parts (.mk nl na ks)).2
  simp only [Nd.leaf, Nd.atom, Nd.kids] at *
  have hcn : Nd.counts ks ≤ 65536 := by omega
  have hs0 := hs
  obtain ⟨⟨q, c, rfl, h1, h2, h3⟩, hat⟩ := hs
  obtain ⟨len, hlen⟩ : ∃ l, l = ks.length := ⟨_, rfl⟩
  rw [← hlen] at h1 hs0 ⊢
  have Hlen := Lib.hid hlen
  have Hs0 := Lib.hid hs0
  have Hl := Lib.hid hl
  have H3 := Lib.hid h3
  have Hat := Lib.hid hat
  have Hcn := Lib.hid hcn
  unfold maxLen at h2
  clear hlen hs0 hl h3 hat hcn hn ha
  have hal := (Chg.refl NoB w).alloc (.cells #[.bool nl, .string na, .slice q len c] 39)
  have hb := heap_alloc_new w (.cells #[.bool nl, .string na, .slice q len c] 39)
  obtain ⟨vb, hvb⟩ : ∃ b, b = w.heap.size := ⟨_, rfl⟩
  obtain ⟨w1, hw1⟩ : ∃ w1, w.alloc (.cells #[.bool nl, .string na, .slice q len c] 39) = w1 := ⟨_, rfl⟩
  rw [hw1] at hal hb
  rw [← hvb] at hb
  have hs1 : w1.heap.size = vb + 1 := by rw [← hw1, hvb]; exact alloc_size _ _
  have hal2 := (Chg.refl NoB w1).alloc (.cells #[.string ⟨#[]⟩, .int .i64 0, .int .i64 0, .int .i64 0, .string ⟨#[]⟩, .slice none 0 0] 29)
  have hb2 := heap_alloc_new w1 (.cells #[.string ⟨#[]⟩, .int .i64 0, .int .i64 0, .int .i64 0, .string ⟨#[]⟩, .slice none 0 0] 29)
  obtain ⟨w2, hw2⟩ : ∃ w2, w1.alloc (.cells #[.string ⟨#[]⟩, .int .i64 0, .int .i64 0, .int .i64 0, .string ⟨#[]⟩, .slice none 0 0] 29) = w2 := ⟨_, rfl⟩
  obtain ⟨rb, hrb⟩ : ∃ b, b = vb + 1 := ⟨_, rfl⟩
  rw [hw2] at hal2 hb2
  rw [hs1, ← hrb] at hb2
  have Hw1 := Lib.hid hw1
  have Hw2 := Lib.hid hw2
  have Hvb := Lib.hid hvb
  have Hs1 := Lib.hid hs1
  have Hrb := Lib.hid hrb
  have Hc2 := Lib.hid (hal.trans hal2)
  have Hv2 := Lib.hid (row_kept hal2 hb id)
  have Hr2 := Lib.hid hb2
  have Hwr := Lib.hid (show w.heap.size ≤ rb by omega)
  clear hal hb hvb hw1 hs1 hal2 hb2 hw2 hrb
  go_enter Tryz.func10, Tryz.ntmps10
  go_upto_region 1 with fail
  rw [Hw1.out, Hw2.out, ← Hvb.out, ← Hrb.out]
  obtain ⟨f0, f1, f2⟩ := var3 Hv2.out
  obtain ⟨r0, r1, r2, r3, r4, r5⟩ := var6 Hr2.out
  have rf := row_free Hr2.out
  by_cases h5 : ks.length = 5
  · obtain ⟨k0, k1, k2, k3, k4, rfl⟩ := len5 ks h5
    obtain rfl : len = 5 := Hlen.out
    obtain rfl := H3.out (by simp)
    have hm : ∀ k ∈ [k0, k1, k2, k3, k4], k.count ≤ 65536 := fun k hk => by have := cnt_mem hk; have := Hcn.out; omega
    have Hm := Lib.hid hm
    have Ha4 := Lib.hid (fun w' (h : Chg NoB w w') => atoms_any _ S _ kb ko w' (by simp) ((Hs0.out.take 4 (by simp)).keep h fun _ _ => id))
    simp only [List.take_succ_cons, List.take_zero, List.all_cons, List.all_nil, Bool.and_true] at Ha4
    obtain ⟨b4, hb4⟩ : ∃ b, b = (k0.leaf && (k1.leaf && (k2.leaf && k3.leaf))) := ⟨_, rfl⟩
    rw [← hb4] at Ha4
    have Hb4 := Lib.hid hb4
    clear hm hb4
    go_wp2_with fail
    refine (Ha4.out _ Hc2.out).mono ?_
    rintro e w3 ⟨rfl, hc3⟩
    have Hc3 := Lib.hid (Hc2.out.trans hc3)
    have Hv3 := Lib.hid (row_kept hc3 Hv2.out id)
    have Hr3 := Lib.hid (row_kept hc3 Hr2.out id)
    clear f0 f1 f2 r0 r1 r2 r3 r4 r5 rf hc3 Hv2 Hr2
    obtain ⟨f0, f1, f2⟩ := var3 Hv3.out
    obtain ⟨r0, r1, r2, r3, r4, r5⟩ := var6 Hr3.out
    have rf := row_free Hr3.out
    cases b4 with
    | false =>
      have Hres : Hid (buildF (.mk nl na [k0, k1, k2, k3, k4]) = none) := Lib.hid (by
        unfold buildF
        simp only [Nd.kids]
        rw [if_neg]
        rintro ⟨g0, g1, g2, g3, -⟩
        have := Hb4.out
        rw [g0, g1, g2, g3] at this
        simp at this)
      go_wp2_with fail
      obtain ⟨e0, e1, e2, e3, e4, e5⟩ := var6 (box6 Hr3.out (.string ⟨#[]⟩) (.int .i64 0) (.int .i64 0) (.int .i64 0) (.string ⟨#[]⟩) (.slice none 0 0))
      have hfin := box6_chg (b := rb) Hc3.out (.inr Hwr.out) (.string ⟨#[]⟩) (.int .i64 0) (.int .i64 0) (.int .i64 0) (.string ⟨#[]⟩) (.slice none 0 0)
      generalize ((((((w3.setCell ⟨rb, 0, none⟩ (.string ⟨#[]⟩)).setCell ⟨rb, 1, none⟩ (.int .i64 0)).setCell ⟨rb, 2, none⟩ (.int .i64 0)).setCell ⟨rb, 3, none⟩ (.int .i64 0)).setCell ⟨rb, 4, none⟩ (.string ⟨#[]⟩)).setCell ⟨rb, 5, none⟩ (.slice none 0 0)) = wf at *
      refine bodyPost_ret (v := .tuple #[.agg zD6, .bool false]) (by simp [results, Tryz.results10, go_sem, e0, e1, e2, e3, e4, e5, zD6]) rfl ⟨hfin, ?_⟩
      rw [Hres.out]
    | true =>
      have hb4 := Hb4.out.symm
      simp only [Bool.and_eq_true] at hb4
      obtain ⟨g0, g1, g2, g3⟩ := hb4
      obtain ⟨-, ha0, s0, kb0, ko0, -, p0, -, -⟩ := ((Hat.out 0 (by simp)).keep Hc3.out fun _ _ => id).cells
      obtain ⟨-, ha4, s4, kb4, ko4, q0, -, q2, hs4⟩ := ((Hat.out 4 (by simp)).keep Hc3.out fun _ _ => id).cells
      have Hs4 := Lib.hid hs4
      obtain ⟨q4, c4, e4, i1, i2, i3⟩ := hs4.sh
      obtain ⟨len4, hl4⟩ : ∃ l, l = k4.kids.length := ⟨_, rfl⟩
      change s4 = .slice q4 k4.kids.length c4 at e4
      rw [← hl4] at e4
      subst e4
      simp only [List.getElem_cons_zero, List.getElem_cons_succ, Nat.zero_mul, Nat.add_zero] at p0 q0 q2 i1 i3
      have Hl4 := Lib.hid hl4
      have I1 := Lib.hid i1
      have I2 := Lib.hid i2
      have I3 := Lib.hid i3
      have G := Lib.hid (And.intro g0 (And.intro g1 (And.intro g2 g3)))
      obtain ⟨a0, ha0e⟩ : ∃ a, a = atL k0 := ⟨_, rfl⟩
      rw [← atL_tx k0, ← ha0e] at p0
      have htl0 : (tx a0).toList = a0 := by rw [Lib.toList_data, tx_list]
      have hbq : ((tx a0).toList == [100, 114, 118]) = (a0 == drvB) := by rw [htl0]; rfl
      have Ha0 := Lib.hid ha0e
      obtain ⟨lf4, hlf4⟩ : ∃ b, b = k4.leaf := ⟨_, rfl⟩
      rw [← hlf4] at q0
      have Hlf4 := Lib.hid hlf4
      clear hs4 hl4 i1 i2 i3 g0 g1 g2 g3 ha0 ha4 Hb4 htl0 ha0e hlf4
      cases lf4 with
      | true =>
        have Hres : Hid (buildF (.mk nl na [k0, k1, k2, k3, k4]) = none) := Lib.hid (by
          unfold buildF
          simp only [Nd.kids]
          rw [if_neg]
          rintro ⟨-, -, -, -, g4, -⟩
          rw [← Hlf4.out] at g4
          cases g4)
        clear hbq
        go_wp2_with fail
        obtain ⟨e0, e1, e2, e3, e4, e5⟩ := var6 (box6 Hr3.out (.string ⟨#[]⟩) (.int .i64 0) (.int .i64 0) (.int .i64 0) (.string ⟨#[]⟩) (.slice none 0 0))
        have hfin := box6_chg (b := rb) Hc3.out (.inr Hwr.out) (.string ⟨#[]⟩) (.int .i64 0) (.int .i64 0) (.int .i64 0) (.string ⟨#[]⟩) (.slice none 0 0)
        generalize ((((((w3.setCell ⟨rb, 0, none⟩ (.string ⟨#[]⟩)).setCell ⟨rb, 1, none⟩ (.int .i64 0)).setCell ⟨rb, 2, none⟩ (.int .i64 0)).setCell ⟨rb, 3, none⟩ (.int .i64 0)).setCell ⟨rb, 4, none⟩ (.string ⟨#[]⟩)).setCell ⟨rb, 5, none⟩ (.slice none 0 0)) = wf at *
        refine bodyPost_ret (v := .tuple #[.agg zD6, .bool false]) (by simp [results, Tryz.results10, go_sem, e0, e1, e2, e3, e4, e5, zD6]) rfl ⟨hfin, ?_⟩
        rw [Hres.out]
      | false =>
        obtain ⟨db, hdb⟩ : ∃ b, b = (a0 == drvB) := ⟨_, rfl⟩
        rw [← hdb] at hbq
        have Hdb := Lib.hid hdb
        clear hdb
        cases db with
        | false =>
          have Hres : Hid (buildF (.mk nl na [k0, k1, k2, k3, k4]) = none) := Lib.hid (by
            unfold buildF
            simp only [Nd.kids]
            rw [if_neg]
            rintro ⟨-, -, -, -, -, g5⟩
            have := Hdb.out
            rw [Ha0.out, g5] at this
            simp at this)
          go_wp2_with fail
          obtain ⟨e0, e1, e2, e3, e4, e5⟩ := var6 (box6 Hr3.out (.string ⟨#[]⟩) (.int .i64 0) (.int .i64 0) (.int .i64 0) (.string ⟨#[]⟩) (.slice none 0 0))
          have hfin := box6_chg (b := rb) Hc3.out (.inr Hwr.out) (.string ⟨#[]⟩) (.int .i64 0) (.int .i64 0) (.int .i64 0) (.string ⟨#[]⟩) (.slice none 0 0)
          generalize ((((((w3.setCell ⟨rb, 0, none⟩ (.string ⟨#[]⟩)).setCell ⟨rb, 1, none⟩ (.int .i64 0)).setCell ⟨rb, 2, none⟩ (.int .i64 0)).setCell ⟨rb, 3, none⟩ (.int .i64 0)).setCell ⟨rb, 4, none⟩ (.string ⟨#[]⟩)).setCell ⟨rb, 5, none⟩ (.slice none 0 0)) = wf at *
          refine bodyPost_ret (v := .tuple #[.agg zD6, .bool false]) (by simp [results, Tryz.results10, go_sem, e0, e1, e2, e3, e4, e5, zD6]) rfl ⟨hfin, ?_⟩
          rw [Hres.out]
        | true =>
          obtain ⟨-, -, s2, kb2, ko2, -, p2, -, -⟩ := ((Hat.out 2 (by simp)).keep Hc3.out fun _ _ => id).cells
          simp only [List.getElem_cons_zero, List.getElem_cons_succ] at p2
          have Hbf : Hid (buildF (.mk nl na [k0, k1, k2, k3, k4]) = match Ver.verL (atL k2) with
              | none => none
              | some (a, b, c) => match inputsOf k4.kids with
                | none => none
                | some l => some ⟨atL k1, a, b, c, atL k3, l⟩) := Lib.hid (by
            unfold buildF
            simp only [Nd.kids]
            have h5 : atL k0 = drvB := by have := Hdb.out.symm; rw [Ha0.out] at this; exact eq_of_beq this
            rw [if_pos ⟨G.out.1, G.out.2.1, G.out.2.2.1, G.out.2.2.2, Hlf4.out.symm, h5⟩]
            rcases Ver.verL (atL k2) with _ | ⟨a, b, c⟩
            · rfl
            · simp only
              cases inputsOf k4.kids <;> rfl)
          have Hvp := Lib.hid (fun w' (h : Chg NoB w w') => vparse_any (atL k2) base w' (Hl.out.keep h) (by rw [atL_len]; have := (cnt_parts k2).1; have := Hm.out k2 (by simp); omega))
          rw [← atL_tx k2] at p2
          generalize buildF (.mk nl na [k0, k1, k2, k3, k4]) = bf at *
          clear Hdb Hlf4 G Ha0 Ha4
          cases hv : Ver.verL (atL k2) with
          | none =>
            simp only [hv] at Hvp Hbf
            generalize tx (atL k2) = t2 at *
            clear hv
            go_wp2_with fail
            clear f0 f1 f2 r0 r1 r2 r3 r4 r5 rf p0 p2 q0 q2 hbq
            refine (Hvp.out _ Hc3.out).mono ?_
            rintro e w4 ⟨hc4, rfl⟩
            have Hc4 := Lib.hid (Hc3.out.trans hc4)
            have Hr4 := Lib.hid (row_kept hc4 Hr3.out id)
            clear hc4
            go_upto_region 4 with fail
            have hal5 := (Chg.refl NoB w4).alloc (.cells #[.int .i64 0, .int .i64 0, .int .i64 0] 24)
            have Hc5 := Lib.hid (Hc4.out.trans hal5)
            have Hr5 := Lib.hid (row_kept hal5 Hr4.out id)
            obtain ⟨r0, r1, r2, r3, r4, r5⟩ := var6 Hr5.out
            have rf := row_free Hr5.out
            clear hal5
            generalize w4.alloc (.cells #[.int .i64 0, .int .i64 0, .int .i64 0] 24) = w5 at *
            go_wp2_with fail
            obtain ⟨e0, e1, e2, e3, e4, e5⟩ := var6 (box6 Hr5.out (.string ⟨#[]⟩) (.int .i64 0) (.int .i64 0) (.int .i64 0) (.string ⟨#[]⟩) (.slice none 0 0))
            have hfin := box6_chg (b := rb) Hc5.out (.inr Hwr.out) (.string ⟨#[]⟩) (.int .i64 0) (.int .i64 0) (.int .i64 0) (.string ⟨#[]⟩) (.slice none 0 0)
            generalize ((((((w5.setCell ⟨rb, 0, none⟩ (.string ⟨#[]⟩)).setCell ⟨rb, 1, none⟩ (.int .i64 0)).setCell ⟨rb, 2, none⟩ (.int .i64 0)).setCell ⟨rb, 3, none⟩ (.int .i64 0)).setCell ⟨rb, 4, none⟩ (.string ⟨#[]⟩)).setCell ⟨rb, 5, none⟩ (.slice none 0 0)) = wf at *
            refine bodyPost_ret (v := .tuple #[.agg zD6, .bool false]) (by simp [results, Tryz.results10, go_sem, e0, e1, e2, e3, e4, e5, zD6]) rfl ⟨hfin, ?_⟩
            rw [Hbf.out]
          | some x =>
            obtain ⟨ma, mb, mc⟩ := x
            simp only [hv] at Hvp Hbf
            generalize tx (atL k2) = t2 at *
            obtain ⟨-, -, s1, kb1, ko1, -, p1, -, -⟩ := ((Hat.out 1 (by simp)).keep Hc3.out fun _ _ => id).cells
            obtain ⟨-, -, s3, kb3, ko3, -, p3, -, -⟩ := ((Hat.out 3 (by simp)).keep Hc3.out fun _ _ => id).cells
            simp only [List.getElem_cons_zero, List.getElem_cons_succ] at p1 p3
            rw [← atL_tx k1] at p1
            rw [← atL_tx k3] at p3
            obtain ⟨a1, ha1⟩ : ∃ a, a = atL k1 := ⟨_, rfl⟩
            obtain ⟨a3, ha3⟩ : ∃ a, a = atL k3 := ⟨_, rfl⟩
            rw [← ha1, ← ha3] at Hbf
            rw [← ha1] at p1
            rw [← ha3] at p3
            have P1 := Lib.hid p1
            have P3 := Lib.hid p3
            clear hv ha1 ha3 p1 p3
            go_wp2_with fail
            clear f0 f1 f2 r0 r1 r2 r3 r4 r5 rf p0 p2 q0 hbq
            have Q2 := Lib.hid q2
            clear q2
            refine (Hvp.out _ Hc3.out).mono ?_
            rintro e w4 ⟨hc4, rfl⟩
            have Hc4 := Lib.hid hc4
            have hal5 := (Chg.refl NoB w4).alloc (.cells #[.int .i64 ma, .int .i64 mb, .int .i64 mc] 24)
            have hb5 := heap_alloc_new w4 (.cells #[.int .i64 ma, .int .i64 mb, .int .i64 mc] 24)
            have hs5 := alloc_size w4 (.cells #[.int .i64 ma, .int .i64 mb, .int .i64 mc] 24)
            obtain ⟨gb, hgb⟩ : ∃ g, g = w4.heap.size := ⟨_, rfl⟩
            obtain ⟨w5, hw5⟩ : ∃ w5, w4.alloc (.cells #[.int .i64 ma, .int .i64 mb, .int .i64 mc] 24) = w5 := ⟨_, rfl⟩
            rw [hw5] at hal5 hb5 hs5
            rw [← hgb] at hb5 hs5
            have Hgb := Lib.hid hgb
            have Hw5 := Lib.hid hw5
            have Hs5 := Lib.hid hs5
            have Hc35 := Lib.hid (hc4.trans hal5)
            have Hb5 := Lib.hid hb5
            clear hc4 hal5 hb5 hs5 hgb hw5 Hc4
            go_upto_region 6 with fail
            rw [Hw5.out, ← Hgb.out]
            have hdr : Chg NoB w5 w5.drew := (Chg.refl NoB w5).drew
            obtain ⟨g0, g1, g2⟩ := var3 Hb5.out
            have f2 := Hc35.out.keep (var3 Hv3.out).2.2
            have p1 := Hc35.out.keep P1.out
            have p3 := Hc35.out.keep P3.out
            have hS : ∀ w', Chg NoB w5 w' → (w'.cell? ⟨vb, 2, none⟩ = some (.slice (some ⟨kb, ko, none⟩) 5 c) ∧ w'.cell? ⟨kb, ko + 1 * 3 + 1, none⟩ = some (.string (tx a1)) ∧ w'.cell? ⟨kb, ko + 3 * 3 + 1, none⟩ = some (.string (tx a3)) ∧ w'.cell? ⟨gb, 0, none⟩ = some (.int .i64 ma) ∧ w'.cell? ⟨gb, 1, none⟩ = some (.int .i64 mb) ∧ w'.cell? ⟨gb, 2, none⟩ = some (.int .i64 mc)) := fun w' h => ⟨h.keep f2, h.keep p1, h.keep p3, h.keep g0, h.keep g1, h.keep g2⟩
            have hal6 := ((Chg.refl NoB w5).alloc (.cells #[.string ⟨#[]⟩, .int .i64 0, .int .i64 0, .int .i64 0, .string ⟨#[]⟩, .slice none 0 0] 29)).drew
            have hb6 := row_kept ((Chg.refl NoB (w5.alloc (.cells #[.string ⟨#[]⟩, .int .i64 0, .int .i64 0, .int .i64 0, .string ⟨#[]⟩, .slice none 0 0] 29))).drew) (heap_alloc_new w5 (.cells #[.string ⟨#[]⟩, .int .i64 0, .int .i64 0, .int .i64 0, .string ⟨#[]⟩, .slice none 0 0] 29)) id
            have hcx := ((Chg.refl NoB w5).alloc (.cells #[.string (tx a1), .int .i64 ma, .int .i64 mb, .int .i64 mc, .string (tx a3), .slice none 0 0] 29)).drew
            have hbx := row_kept ((Chg.refl NoB (w5.alloc (.cells #[.string (tx a1), .int .i64 ma, .int .i64 mb, .int .i64 mc, .string (tx a3), .slice none 0 0] 29))).drew) (heap_alloc_new w5 (.cells #[.string (tx a1), .int .i64 ma, .int .i64 mb, .int .i64 mc, .string (tx a3), .slice none 0 0] 29)) id
            obtain ⟨t0, t1, t2', t3, t4, t5⟩ := var6 hb6
            have tf := row_free hb6
            have hA := hS _ (Chg.refl _ _)
            have hA2 := hS _ hdr
            have hA3 := hS _ hal6
            have hA4 := hS _ hcx
            have Hbx := Lib.hid hbx
            have Hcx := Lib.hid hcx
            clear hS f2 p1 p3 g0 g1 g2 hdr hal6 hb6 hbx hcx
            simp only [Nat.reduceMul, Nat.add_assoc, Nat.reduceAdd] at hA hA2 hA3 hA4
            go_region_held3 (fun w' => w'.cell? ⟨vb, 2, none⟩ = some (.slice (some ⟨kb, ko, none⟩) 5 c) ∧ w'.cell? ⟨kb, ko + 4, none⟩ = some (.string (tx a1)) ∧ w'.cell? ⟨kb, ko + 10, none⟩ = some (.string (tx a3)) ∧ w'.cell? ⟨gb, 0, none⟩ = some (.int .i64 ma) ∧ w'.cell? ⟨gb, 1, none⟩ = some (.int .i64 mb) ∧ w'.cell? ⟨gb, 2, none⟩ = some (.int .i64 mc))
              (first | with_reducible exact hA | with_reducible exact hA2 | with_reducible exact hA3 | with_reducible exact hA4)
              (first | fail)
            all_goals
              clear hA hA2 hA3 hA4 t0 t1 t2' t3 t4 t5 tf
              try clear hHeld
              generalize (w5.alloc (.cells #[.string (tx a1), .int .i64 ma, .int .i64 mb, .int .i64 mc, .string (tx a3), .slice none 0 0] 29)).drew = w6 at *
              obtain ⟨db, hdb⟩ : ∃ d, d = w5.heap.size := ⟨_, rfl⟩
              rw [← hdb] at Hbx ⊢
              have hz35 := Hc35.out.size
              have hrl := lt_of_block Hr3.out
              have hdl := lt_of_block Hbx.out
              have Hc36 := Lib.hid (Hc35.out.trans Hcx.out)
              have Hr6 := Lib.hid (row_kept Hc36.out Hr3.out id)
              have f2 := (var3 (row_kept Hc36.out Hv3.out id)).2.2
              have q2 := Hc36.out.keep Q2.out
              obtain ⟨lo, hlo⟩ : ∃ l, l = w6.heap.size := ⟨_, rfl⟩
              have Hord := Lib.hid (show w.heap.size ≤ rb ∧ rb < db ∧ db < lo ∧ w3.heap.size ≤ db by have := Hwr.out; omega)
              have Hlo := Lib.hid hlo
              have hs4 : NdS w3 S (.slice q4 len4 c4) k4.kids kb4 ko4 := Hs4.out
              have Hn4 := Lib.hid hs4
              have Hkc := Lib.hid (show Nd.counts k4.kids ≤ 65536 by have := (cnt_parts k4).2; have := Hm.out k4 (by simp); omega)
              obtain ⟨i0, hi, hz0, hz1, hz2⟩ := info_parts inpInfo
              have Hi := Lib.hid hi
              have Hz0 := Lib.hid hz0
              have Hz1 := Lib.hid hz1
              have Hz2 := Lib.hid hz2
              clear hi hz0 hz1 hz2 hdb hz35 hrl hdl hlo hs4 Hs4 Hs0 Hat Hcn Hm Hw1 Hw2 Hvb Hs1 Hrb Hgb Hw5 Hs5 Hb5 Hvp hcn h5 h1 Hlen H3 P1 P3 Hc2 Hc35 Hcx
              go_wp2_with fail
              clear f2 q2
              go_loopw [67] (fun i wr => ∃ (k : Nat) (lv : Value) (acc : List InL), k ≤ len4 ∧ i = .int .i64 k ∧ inputsOf (k4.kids.take k) = some acc ∧ wr.heap[db]? = some (.cells #[.string (tx a1), .int .i64 ma, .int .i64 mb, .int .i64 mc, .string (tx a3), lv] 29 (0, 0)) ∧ wr.ownsRow lo 48 2 lv k (flatP acc) ∧ Chg (fun y => y = db) w6 wr) (fun i _ => len4 - (intOf i).toNat)
              case atStart => exact ⟨0, _, [], Nat.zero_le _, rfl, rfl, Hbx.out, World.ownsRow_nil _ _ _ _, Chg.refl _ _⟩
              case round =>
                obtain ⟨k, lv, acc, hk, rfl, hin, hob, hrow, hch⟩ := hrel
                obtain ⟨lq, lc, rfl, hnc, hcm⟩ := row_shape hrow
                have hc3r : Chg NoB w3 wr := Hc36.out.above hch fun y hy => by have h : y = db := hy; have := Hord.out; omega
                have Hcw := Lib.hid (Hc3.out.trans hc3r)
                have Hc3r := Lib.hid hc3r
                have Hch := Lib.hid hch
                have Hob := Lib.hid hob
                have Hrow := Lib.hid hrow
                have Hin := Lib.hid hin
                have Hrr := Lib.hid (row_kept Hch.out Hr6.out (by have := Hord.out; omega))
                clear hin hob hrow hch hc3r hcm
                by_cases hlt : k < len4
                · have hlt' : k < k4.kids.length := by rw [← Hl4.out]; exact hlt
                  obtain rfl := I3.out (by intro e; rw [e] at hlt'; simp at hlt')
                  obtain ⟨-, hxa, s5, kb5, ko5, c0, c1, c2, hs5⟩ := ((Hn4.out.at' k hlt').keep Hc3r.out fun _ _ => id).cells
                  have Htk : Hid (k4.kids.take (k + 1) = k4.kids.take k ++ [k4.kids[k]]) := Lib.hid (by rw [List.take_add_one, List.getElem?_eq_getElem hlt']; rfl)
                  have Hbad : Hid (inputOf k4.kids[k] = none → bf = none) := Lib.hid fun h => by
                    rw [Hbf.out, inputsOf_bad (List.getElem_mem hlt') h]
                  have Hxl : Hid (k4.kids[k].kids.length ≤ 65536) := Lib.hid (by
                    have h1 := Nd.counts_get k4.kids k hlt'
                    have h2 := (cnt_parts k4.kids[k]).2
                    have h3 := cnt_len k4.kids[k].kids
                    have := Hkc.out
                    omega)
                  generalize k4.kids[k] = x at *
                  obtain ⟨q5, cap5, e5, j1, j2, j3⟩ := hs5.sh
                  obtain ⟨len5, hl5⟩ : ∃ l, l = x.kids.length := ⟨_, rfl⟩
                  rw [← hl5] at e5 j1
                  subst e5
                  obtain ⟨xl, xa, xk⟩ := x
                  simp only [Nd.leaf, Nd.atom] at c0 c1 c2 hxa
                  change NdS wr S _ xk kb5 ko5 at hs5
                  change xk ≠ [] → _ at j3
                  change len5 = xk.length at hl5
                  change Hid (xk.length ≤ 65536) at Hxl
                  have Hs5 := Lib.hid hs5
                  have Hl5 := Lib.hid hl5
                  have J1 := Lib.hid j1
                  have J2 := Lib.hid j2
                  have J3 := Lib.hid j3
                  have hal7 := (Chg.refl NoB wr).alloc (.cells #[.bool xl, .string xa, .slice q5 len5 cap5] 39)
                  have hb7 := heap_alloc_new wr (.cells #[.bool xl, .string xa, .slice q5 len5 cap5] 39)
                  obtain ⟨pb, hpb⟩ : ∃ b, b = wr.heap.size := ⟨_, rfl⟩
                  obtain ⟨w7, hw7⟩ : ∃ w7, wr.alloc (.cells #[.bool xl, .string xa, .slice q5 len5 cap5] 39) = w7 := ⟨_, rfl⟩
                  rw [hw7] at hal7 hb7
                  rw [← hpb] at hb7
                  have Hw7 := Lib.hid hw7
                  have Hpb := Lib.hid hpb
                  have Hal7 := Lib.hid hal7
                  have Hb7 := Lib.hid hb7
                  clear hl5 j1 j2 j3 hal7 hpb hw7 hxa hs5
                  go_upto_region 10 with fail
                  rw [Hw7.out, ← Hpb.out]
                  clear c0 c1 c2
                  obtain ⟨g0, g1, g2⟩ := var3 hb7
                  clear hb7
                  have hr7 := row_kept Hal7.out Hrr.out id
                  obtain ⟨r0, r1, r2, r3, r4, r5⟩ := var6 hr7
                  have rf := row_free hr7
                  have Hr7 := Lib.hid hr7
                  have Hc7 := Lib.hid (Hcw.out.trans Hal7.out)
                  clear hr7
                  by_cases h2k : len5 = 2
                  · subst h2k
                    obtain ⟨p, q, rfl⟩ := len2 xk Hl5.out.symm
                    obtain rfl := J3.out (by simp)
                    have Ha2 := Lib.hid (atoms_any [p, q] S _ kb5 ko5 w7 (by simp) (Hs5.out.keep Hal7.out fun _ _ => id))
                    simp only [List.all_cons, List.all_nil, Bool.and_true] at Ha2
                    obtain ⟨b2, hb2⟩ : ∃ b, b = (p.leaf && q.leaf) := ⟨_, rfl⟩
                    rw [← hb2] at Ha2
                    have Hb2 := Lib.hid hb2
                    have Hio := Lib.hid (inputOf_two (x := .mk xl xa [p, q]) rfl)
                    clear hb2
                    go_wp2_with fail
                    refine Ha2.out.mono ?_
                    rintro e w8 ⟨rfl, hc8⟩
                    have Hc8 := Lib.hid (Hc7.out.trans hc8)
                    have Hr8 := Lib.hid (row_kept hc8 Hr7.out id)
                    have Hc78 := Lib.hid (Hal7.out.trans hc8)
                    have Hg8 := Lib.hid (row_kept hc8 Hb7.out id)
                    clear g0 g1 g2 r0 r1 r2 r3 r4 r5 rf hc8 Ha2
                    cases b2 with
                    | false =>
                      obtain ⟨r0, r1, r2, r3, r4, r5⟩ := var6 Hr8.out
                      have rf := row_free Hr8.out
                      have Hres := Lib.hid (Hbad.out (by
                        rw [Hio.out, if_neg]
                        rintro ⟨h1, h2⟩
                        have := Hb2.out
                        rw [h1, h2] at this
                        cases this))
                      go_wp2_with fail
                      obtain ⟨e0, e1, e2, e3, e4, e5⟩ := var6 (box6 Hr8.out (.string ⟨#[]⟩) (.int .i64 0) (.int .i64 0) (.int .i64 0) (.string ⟨#[]⟩) (.slice none 0 0))
                      have hfin := box6_chg (b := rb) Hc8.out (.inr Hwr.out) (.string ⟨#[]⟩) (.int .i64 0) (.int .i64 0) (.int .i64 0) (.string ⟨#[]⟩) (.slice none 0 0)
                      generalize ((((((w8.setCell ⟨rb, 0, none⟩ (.string ⟨#[]⟩)).setCell ⟨rb, 1, none⟩ (.int .i64 0)).setCell ⟨rb, 2, none⟩ (.int .i64 0)).setCell ⟨rb, 3, none⟩ (.int .i64 0)).setCell ⟨rb, 4, none⟩ (.string ⟨#[]⟩)).setCell ⟨rb, 5, none⟩ (.slice none 0 0)) = wf at *
                      refine bodyPost_ret (v := .tuple #[.agg zD6, .bool false]) (by simp [results, Tryz.results10, go_sem, e0, e1, e2, e3, e4, e5, zD6]) rfl ⟨hfin, ?_⟩
                      rw [Hres.out]
                    | true =>
                      obtain ⟨hl1, hl2⟩ : p.leaf = true ∧ q.leaf = true := by have := Hb2.out.symm; simpa using this
                      rw [if_pos ⟨hl1, hl2⟩] at Hio
                      obtain ⟨-, -, s6, kb6, ko6, -, u1, -, -⟩ := ((Hs5.out.at' 0 (by simp)).keep Hc78.out fun _ _ => id).cells
                      obtain ⟨-, -, s7, kb7, ko7, -, y1, -, -⟩ := ((Hs5.out.at' 1 (by simp)).keep Hc78.out fun _ _ => id).cells
                      simp only [List.getElem_cons_zero, List.getElem_cons_succ] at u1 y1
                      rw [← atL_tx p] at u1
                      rw [← atL_tx q] at y1
                      obtain ⟨ap, hap⟩ : ∃ a, a = atL p := ⟨_, rfl⟩
                      obtain ⟨aq, haq⟩ : ∃ a, a = atL q := ⟨_, rfl⟩
                      rw [← hap, ← haq] at Hio
                      rw [← hap] at u1
                      rw [← haq] at y1
                      have g2 := (var3 Hg8.out).2.2
                      have hob8 := row_kept Hc78.out Hob.out id
                      have o5 := (var6 hob8).2.2.2.2.2
                      have Hob8 := Lib.hid hob8
                      have HL := Lib.hid (show ∀ j, (Value.slice lq k lc).ownBlock = some j → lo ≤ j from fun j hj => (World.ownsRow.lt Hrow.out j hj).1)
                      have hownK : ∀ w', Chg NoB w8 w' → Hid (w'.ownsRow lo 48 2 (.slice lq k lc) k (flatP acc)) := fun w' h => Lib.hid (ownsRow_chg Hrow.out (Hc78.out.trans h) fun _ _ => id)
                      have hstep : ∀ (wz : World), Chg NoB w8 wz → ∀ (v9 : Value) (w9 : World), w9.ownsRow lo 48 2 v9 (k + 1) (flatP acc ++ [.string (tx ap), .string (tx aq)]) → wz.grownBy w9 (Value.slice lq k lc).ownBlock →
                          Hid (w9.ownsRow lo 48 2 v9 (k + 1) (flatP (acc ++ [(ap, aq)]))) ∧ Hid (Chg (fun y => y = db) w6 w9) ∧ Hid (w9.heap[db]? = some (.cells #[.string (tx a1), .int .i64 ma, .int .i64 mb, .int .i64 mc, .string (tx a3), .slice lq k lc] 29 (0, 0))) ∧ ∃ r9 s9 t9, v9 = .slice r9 s9 t9 := fun wz hcz v9 w9 hown9 hgr9 => by
                        have hgc9 : Chg (fun j => (Value.slice lq k lc).ownBlock = some j) wz w9 := (Chg.refl _ _).grown hgr9 fun j hj => .inl hj
                        have h69 : Chg (fun j => (Value.slice lq k lc).ownBlock = some j) w8 w9 := (hcz.mono fun _ _ x => x.elim).trans hgc9
                        have hch9 : Chg (fun y => y = db) w6 w9 := by
                          have h1 : Chg (fun y => y = db) w6 w8 := Hch.out.trans (Hc78.out.mono fun _ _ => False.elim)
                          refine ⟨h69.os.trans h1.os, h69.tape.trans h1.tape, h69.output.trans h1.output, Nat.le_trans h1.size h69.size, fun y hy hne => ?_⟩
                          rw [h69.block y (Nat.lt_of_lt_of_le hy h1.size) fun e => by have := HL.out y e; have := Hlo.out; omega]
                          exact h1.block y hy hne
                        obtain ⟨r9, s9, e9, -, -⟩ := row_shape hown9
                        exact ⟨Lib.hid (by rw [flatP_app]; exact hown9), Lib.hid hch9, Lib.hid (row_kept h69 Hob8.out fun e => by have := HL.out db e; have := Hord.out; omega), r9, k + 1, s9, e9⟩
                      have Hstep := Lib.hid hstep
                      have hkl : k4.kids.length ≤ 65536 := by have := cnt_len k4.kids; have := Hkc.out; omega
                      have M1 := Lib.hid (show k + 1 ≤ maxLen by unfold maxLen; omega)
                      have M2 := Lib.hid (show (k + 1) * 32 ≤ 140737488355328 by omega)
                      have hdr : Chg NoB w8 w8.drew := (Chg.refl NoB w8).drew
                      have hal9 := hdr.alloc (.cells #[.string (tx ap), .string (tx aq)] 48)
                      have Hlo8 : Hid (lo ≤ (w8.drew.alloc (.cells #[.string (tx ap), .string (tx aq)] 48)).heap.size) := Lib.hid (by have h1 := Hlo.out; have h2 := Hch.out.size; have h3 := Hc78.out.size; have h4 := hal9.size; omega)
                      have Hal9 := Lib.hid hal9
                      have Hown9 := hownK _ hal9
                      have d5 := hdr.keep o5
                      have d2 := hdr.keep g2
                      have du := hdr.keep u1
                      have dy := hdr.keep y1
                      have z5 := hal9.keep o5
                      have z2 := hal9.keep g2
                      have zu := hal9.keep u1
                      have zy := hal9.keep y1
                      have halA := (Chg.refl NoB w8).alloc (.cells #[.string (tx ap), .string (tx aq)] 48)
                      have halB := halA.drew
                      have HlitB := Lib.hid (show ∀ (j : Nat) (u : Value), [Value.string (tx ap), .string (tx aq)][j]? = some u → (w8.alloc (.cells #[.string (tx ap), .string (tx aq)] 48)).drew.cell? ((⟨w8.heap.size, 0, none⟩ : Addr).add j) = some u from fun j u h => (Chg.refl NoB (w8.alloc (.cells #[.string (tx ap), .string (tx aq)] 48))).drew.keep (lit2 w8 _ _ _ j u h))
                      have HalB := Lib.hid halB
                      have HownB := hownK _ halB
                      have HloB : Hid (lo ≤ (w8.alloc (.cells #[.string (tx ap), .string (tx aq)] 48)).drew.heap.size) := Lib.hid (by have h1 := Hlo.out; have h2 := Hch.out.size; have h3 := Hc78.out.size; have h4 := halB.size; omega)
                      have a5 := halA.keep o5
                      have a2 := halA.keep g2
                      have au := halA.keep u1
                      have ay := halA.keep y1
                      have b5 := halB.keep o5
                      have b2' := halB.keep g2
                      have bu := halB.keep u1
                      have by' := halB.keep y1
                      clear halA halB
                      clear hl1 hl2 hap haq hob8 hownK hstep hdr hal9 Hbad Hxl
                      go_upto_region 12 with fail
                      go_region_law (first
                        | (refine step_append_at (by rfl) _ (.tmp 83) (.tmp 95) 27 (by rfl) lo 48 i0 (.agg #[.string ⟨#[]⟩, .string ⟨#[]⟩]) 2 32 Tryz.underlying27 Hi.out Hz0.out Hz1.out Hz2.out rfl (by decide) _ k _ (by rfl) HownB.out ⟨w8.heap.size, 0, none⟩ 1 1 [.string (tx ap), .string (tx aq)] (by rfl) rfl HlitB.out (one2 _ _) M1.out M2.out HloB.out ?_; intro v11 w11 hown11 hgr11 hpl11; obtain ⟨Hrow11, Hch11, Hob11, r11, s11, t11, e11⟩ := Hstep.out _ HalB.out v11 w11 hown11 hgr11; subst e11; obtain ⟨p0, p1, p2, p3, p4, p5⟩ := var6 Hob11.out; have pf := row_free Hob11.out; clear hown11 hgr11 hpl11)
                        | (refine step_append_at (by rfl) _ (.tmp 83) (.tmp 95) 27 (by rfl) lo 48 i0 (.agg #[.string ⟨#[]⟩, .string ⟨#[]⟩]) 2 32 Tryz.underlying27 Hi.out Hz0.out Hz1.out Hz2.out rfl (by decide) _ k _ (by rfl) Hown9.out ⟨w8.drew.heap.size, 0, none⟩ 1 1 [.string (tx ap), .string (tx aq)] (by rfl) rfl (lit2 w8.drew _ _ _) (one2 _ _) M1.out M2.out Hlo8.out ?_; intro v11 w11 hown11 hgr11 hpl11; obtain ⟨Hrow11, Hch11, Hob11, r11, s11, t11, e11⟩ := Hstep.out _ Hal9.out v11 w11 hown11 hgr11; subst e11; obtain ⟨p0, p1, p2, p3, p4, p5⟩ := var6 Hob11.out; have pf := row_free Hob11.out; clear hown11 hgr11 hpl11))
                      all_goals
                        clear o5 g2 u1 y1 d5 d2 du dy z5 z2 zu zy a5 a2 au ay b5 b2' bu by' p0 p1 p2 p3 p4 p5 pf
                        go_wp2_with fail
                        go_roundw
                        case rel =>
                          have hsc : Chg (fun y => y = db) w11 (w11.setCell ⟨db, 5, none⟩ (.slice r11 s11 t11)) := (Chg.refl (fun y => y = db) w11).setCell (p := ⟨db, 5, none⟩) (.inl rfl) (.slice r11 s11 t11)
                          exact ⟨k + 1, .slice r11 s11 t11, acc ++ [(ap, aq)], by omega, by go_num, by rw [Htk.out]; exact inputsOf_snoc Hin.out Hio.out, heap_set Hob11.out (i := 5) (.slice r11 s11 t11), ownsRow_chg Hrow11.out hsc fun j hj e => by have h1 := (World.ownsRow.lt Hrow11.out j hj).1; have h2 : j = db := e; have := Hord.out; omega, Hch11.out.trans hsc⟩
                        case measure => simp [intOf]; omega
                  · have hlb : ((len5 : Int) != 2) = true := by
                      rw [bne_iff_ne]
                      omega
                    have Hres := Lib.hid (Hbad.out (inputOf_no (x := .mk xl xa xk) (by show xk.length ≠ 2; have := Hl5.out; omega)))
                    clear h2k
                    go_wp2_with fail
                    obtain ⟨e0, e1, e2, e3, e4, e5⟩ := var6 (box6 Hr7.out (.string ⟨#[]⟩) (.int .i64 0) (.int .i64 0) (.int .i64 0) (.string ⟨#[]⟩) (.slice none 0 0))
                    have hfin := box6_chg (b := rb) Hc7.out (.inr Hwr.out) (.string ⟨#[]⟩) (.int .i64 0) (.int .i64 0) (.int .i64 0) (.string ⟨#[]⟩) (.slice none 0 0)
                    generalize ((((((w7.setCell ⟨rb, 0, none⟩ (.string ⟨#[]⟩)).setCell ⟨rb, 1, none⟩ (.int .i64 0)).setCell ⟨rb, 2, none⟩ (.int .i64 0)).setCell ⟨rb, 3, none⟩ (.int .i64 0)).setCell ⟨rb, 4, none⟩ (.string ⟨#[]⟩)).setCell ⟨rb, 5, none⟩ (.slice none 0 0)) = wf at *
                    refine bodyPost_ret (v := .tuple #[.agg zD6, .bool false]) (by simp [results, Tryz.results10, go_sem, e0, e1, e2, e3, e4, e5, zD6]) rfl ⟨hfin, ?_⟩
                    rw [Hres.out]
                · obtain rfl : k = len4 := by omega
                  have htk : k4.kids.take k = k4.kids := by rw [Hl4.out]; exact List.take_of_length_le (Nat.le_refl _)
                  have hin := Hin.out
                  rw [htk] at hin
                  have hres : bf = some ⟨a1, ma, mb, mc, a3, acc⟩ := by rw [Hbf.out, hin]
                  have Hres := Lib.hid hres
                  have hal : acc.length = k := by rw [(inputsOf_len hin).1, Hl4.out]
                  have hrw := Hrow.out
                  rw [← hal] at hrw
                  obtain ⟨nb, hns⟩ := InpS.of_row hrw
                  rw [hal] at hns
                  have Hns := Lib.hid hns
                  have hr := Hrr.out
                  obtain ⟨o0, o1, o2, o3, o4, o5⟩ := var6 Hob.out
                  obtain ⟨r0, r1, r2, r3, r4, r5⟩ := var6 hr
                  have rf := row_free hr
                  have Hal := Lib.hid hal
                  clear htk hin hres hrw hns hr hal
                  go_wp2_with fail
                  obtain ⟨e0, e1, e2, e3, e4, e5⟩ := var6 (box6 Hrr.out (.string (tx a1)) (.int .i64 ma) (.int .i64 mb) (.int .i64 mc) (.string (tx a3)) (.slice lq k lc))
                  have hfin := box6_chg (b := rb) Hcw.out (.inr Hwr.out) (.string (tx a1)) (.int .i64 ma) (.int .i64 mb) (.int .i64 mc) (.string (tx a3)) (.slice lq k lc)
                  have hst := box6_chg (b := rb) (Chg.refl (fun y => y = rb) wr) (.inl rfl) (.string (tx a1)) (.int .i64 ma) (.int .i64 mb) (.int .i64 mc) (.string (tx a3)) (.slice lq k lc)
                  generalize ((((((wr.setCell ⟨rb, 0, none⟩ (.string (tx a1))).setCell ⟨rb, 1, none⟩ (.int .i64 ma)).setCell ⟨rb, 2, none⟩ (.int .i64 mb)).setCell ⟨rb, 3, none⟩ (.int .i64 mc)).setCell ⟨rb, 4, none⟩ (.string (tx a3))).setCell ⟨rb, 5, none⟩ (.slice lq k lc)) = wf at *
                  refine bodyPost_ret (v := .tuple #[.agg #[.string (tx a1), .int .i64 ma, .int .i64 mb, .int .i64 mc, .string (tx a3), .slice lq k lc], .bool true]) (by simp [results, Tryz.results10, go_sem, e0, e1, e2, e3, e4, e5]) rfl ⟨hfin, ?_⟩
                  rw [Hres.out]
                  have hz := hst.size
                  have ho := Hord.out
                  have hzw : w.heap.size ≤ lo := by omega
                  refine ⟨_, rfl, _, nb, 0, rfl, (Hns.out.keep hst fun y hy e => ?_).mono fun y hy => ?_⟩
                  · have h1 := hy.1
                    have h2 : y = rb := e
                    omega
                  · have h1 := hy.1
                    have h2 := hy.2
                    exact (show w.heap.size ≤ y ∧ y < wf.heap.size by omega)
  · have hlb : ((len : Int) != 5) = true := by
      rw [bne_iff_ne]
      have := Hlen.out
      omega
    have Hres := Lib.hid (build_no5 (l := nl) (a := na) h5)
    clear h5
    go_wp2_with fail
    obtain ⟨e0, e1, e2, e3, e4, e5⟩ := var6 (box6 Hr2.out (.string ⟨#[]⟩) (.int .i64 0) (.int .i64 0) (.int .i64 0) (.string ⟨#[]⟩) (.slice none 0 0))
    have hfin := box6_chg (b := rb) Hc2.out (.inr Hwr.out) (.string ⟨#[]⟩) (.int .i64 0) (.int .i64 0) (.int .i64 0) (.string ⟨#[]⟩) (.slice none 0 0)
    generalize ((((((w2.setCell ⟨rb, 0, none⟩ (.string ⟨#[]⟩)).setCell ⟨rb, 1, none⟩ (.int .i64 0)).setCell ⟨rb, 2, none⟩ (.int .i64 0)).setCell ⟨rb, 3, none⟩ (.int .i64 0)).setCell ⟨rb, 4, none⟩ (.string ⟨#[]⟩)).setCell ⟨rb, 5, none⟩ (.slice none 0 0)) = wf at *
    refine bodyPost_ret (v := .tuple #[.agg zD6, .bool false]) (by simp [results, Tryz.results10, go_sem, e0, e1, e2, e3, e4, e5, zD6]) rfl ⟨hfin, ?_⟩
    rw [Hres.out]
end Go.Proofs.YtnipiphhkcafhaaGreatDoor
