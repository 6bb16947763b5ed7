/- The contract of the document's Decode of a build. Condition: at most 2^20 bytes; the library's variables read as the program's text lays them. -/
import Derived.Test.YtnipiphhkcafhaaGreatDoorDvReadMath
import Derived.Test.YtnipiphhkcafhaaGreatDoorDvDecode
import Derived.Test.YtnipiphhkcafhaaGreatDoorDvNode
import Derived.Test.YtnipiphhkcafhaaGreatDoorDvSame
import Derived.Test.YtnipiphhkcafhaaGreatDoorVerTop
import Derived.Test.YtnipiphhkcafhaaGreatDoorSxDecT
import Derived.Test.YtnipiphhkcafhaaGreatDoorSxSameN
import Derived.Deep.QuietTactic
import Derived.BigQuiet
namespace Go.Proofs.YtnipiphhkcafhaaGreatDoor
set_option linter.unusedVariables false
open Go.ChangeShapes Go.WideShapes Go.ChangeAt Go.RowKit
theorem rawIns_len {ks : List Nd} : ∀ {l : List InL}, rawIns ks = some l → l.length = ks.length ∧ ∀ x ∈ l, x.1.length ≤ Nd.counts ks ∧ x.2.length ≤ Nd.counts ks := by
  induction ks with
  | nil => intro l h; cases h; exact ⟨rfl, fun x hx => by cases hx⟩
  | cons k r ih =>
    intro l h
    rw [rawIns] at h
    split at h
    · cases h
    · rename_i x hx
      cases hr : rawIns r with
      | none => rw [hr] at h; cases h
      | some l' =>
        rw [hr] at h
        cases h
        obtain ⟨h1, h2⟩ := ih hr
        refine ⟨by rw [List.length_cons, h1, List.length_cons], fun y hy => ?_⟩
        rw [Nd.counts]
        rcases List.mem_cons.1 hy with rfl | hy
        · unfold rawIn at hx
          split at hx
          · rename_i p q hpq
            cases hx
            have c0 := (cnt_parts k).2
            have c1 := cnt_mem (ks := k.kids) (k := p) (by rw [hpq]; simp)
            have c2 := cnt_mem (ks := k.kids) (k := q) (by rw [hpq]; simp)
            have d1 := (cnt_parts p).1
            have d2 := (cnt_parts q).1
            rw [atL_len, atL_len]
            omega
          · cases hx
        · have := h2 y hy
          omega
theorem rawV_lt (l : List UInt8) : (rawV l).1 < 1000 ∧ (rawV l).2.1 < 1000 ∧ (rawV l).2.2 < 1000 := by
  unfold rawV
  cases hv : Ver.verL l with
  | none => exact ⟨by decide, by decide, by decide⟩
  | some x =>
    obtain ⟨a, b, c⟩ := x
    obtain ⟨_, h⟩ := Ver.verL_text hv
    show a < 1000 ∧ b < 1000 ∧ c < 1000
    obtain ⟨_, _, _⟩ := h
    omega
theorem raw_wf {n : Nd} {d : DrvL} (hn : n.count ≤ 65536) (h : rawD n = some d) : d.wf := by
  unfold rawD at h
  split at h
  · rename_i k0 k1 k2 k3 k4 hk
    cases hi : rawIns k4.kids with
    | none => rw [hi] at h; cases h
    | some l =>
      rw [hi] at h
      cases h
      have c0 := (cnt_parts n).2
      have hm : ∀ k ∈ [k0, k1, k2, k3, k4], k.count ≤ 65536 := fun k hk' => by have := cnt_mem (ks := n.kids) (k := k) (by rw [hk]; exact hk'); omega
      have c1 := hm k1 (by simp)
      have c3 := hm k3 (by simp)
      have c4 := hm k4 (by simp)
      have d1 := (cnt_parts k1).1
      have d3 := (cnt_parts k3).1
      have d4 := (cnt_parts k4).2
      obtain ⟨e1, e2⟩ := rawIns_len hi
      have e4 := cnt_len k4.kids
      obtain ⟨v1, v2, v3⟩ := rawV_lt (atL k2)
      refine ⟨by show (atL k1).length ≤ _; rw [atL_len]; omega, by show (atL k3).length ≤ _; rw [atL_len]; omega, ?_, ?_, ?_, by show l.length ≤ _; omega, fun i hi => ?_⟩
      · show _ ≤ ((rawV (atL k2)).1 : Int) ∧ ((rawV (atL k2)).1 : Int) ≤ _; omega
      · show _ ≤ ((rawV (atL k2)).2.1 : Int) ∧ ((rawV (atL k2)).2.1 : Int) ≤ _; omega
      · show _ ≤ ((rawV (atL k2)).2.2 : Int) ∧ ((rawV (atL k2)).2.2 : Int) ≤ _; omega
      · have := e2 l[i] (List.getElem_mem hi)
        exact ⟨by show l[i].1.length ≤ _; omega, by show l[i].2.length ≤ _; omega⟩
  · cases h
theorem rvparse_any (l : List UInt8) (w : World) (hl : l.length ≤ 65536) : Calls Tryz.prog 13 #[.string (tx l)] w fun e w' => Chg NoB w w' ∧ ∃ y : Int, e = .returned (.tuple #[.agg #[.int .i64 (rawV l).1, .int .i64 (rawV l).2.1, .int .i64 (rawV l).2.2], .int .i64 y]) := by
  have hp := Ver.parseR_any (tx l) w (by rw [tx_size]; exact hl)
  rw [tx_list] at hp
  refine hp.mono fun e w' h => ?_
  unfold Ver.ParseO at h
  unfold rawV
  cases hv : Ver.verL l with
  | none =>
    rw [hv] at h
    exact ⟨chg_of_below h.2, 20, h.1⟩
  | some x =>
    obtain ⟨a, b, c⟩ := x
    rw [hv] at h
    exact ⟨chg_of_below h.2, 0, h.1⟩
theorem rawIn_two {x p q : Nd} (hk : x.kids = [p, q]) : rawIn x = some (atL p, atL q) := by
  unfold rawIn
  rw [hk]
theorem rawIn_no {x : Nd} (h : x.kids.length ≠ 2) : rawIn x = none := by
  unfold rawIn
  split
  · rename_i h'
    rw [h'] at h
    exact absurd rfl h
  · rfl
theorem box13 {w : World} {b : Nat} {x0 x1 x2 x3 x4 x5 : Value} {t : TypeId} (h : w.heap[b]? = some (.cells #[x0, x1, x2, x3, x4, x5] t (0, 0))) (u1 u2 u3 : Value) :
    (((w.setCell ⟨b, 1, none⟩ u1).setCell ⟨b, 2, none⟩ u2).setCell ⟨b, 3, none⟩ u3).heap[b]? = some (.cells #[x0, u1, u2, u3, x4, x5] t (0, 0)) :=
  heap_set (heap_set (heap_set h (i := 1) u1) (i := 2) u2) (i := 3) u3
set_option maxHeartbeats 8000000 in
set_option maxRecDepth 20000 in
theorem rddec_any (s : List UInt8) (base : Nat) (w : World) (hl : Lb base w) (hs : s.length ≤ 1048576) : Calls Tryz.prog 6 #[.string (tx s)] w (DDecP (decD s) w) := by
  have hal := (Chg.refl NoB w).alloc (.cells #[.string ⟨#[]⟩, .int .i64 0, .int .i64 0, .int .i64 0, .string ⟨#[]⟩, .slice none 0 0] 29)
  have hb := heap_alloc_new w (.cells #[.string ⟨#[]⟩, .int .i64 0, .int .i64 0, .int .i64 0, .string ⟨#[]⟩, .slice none 0 0] 29)
  obtain ⟨rb, hrb⟩ : ∃ b, b = w.heap.size := ⟨_, rfl⟩
  obtain ⟨w1, hw1⟩ : ∃ w1, w.alloc (.cells #[.string ⟨#[]⟩, .int .i64 0, .int .i64 0, .int .i64 0, .string ⟨#[]⟩, .slice none 0 0] 29) = w1 := ⟨_, rfl⟩
  rw [hw1] at hal hb
  rw [← hrb] at hb
  have Hw1 := Lib.hid hw1
  have Hrb := Lib.hid hrb
  have Hwr := Lib.hid (show w.heap.size ≤ rb by omega)
  have Hc1 := Lib.hid hal
  have Hr1 := Lib.hid hb
  have hd0 := decT_any (tx s) w1 (by rw [tx_size]; exact hs)
  rw [tx_list] at hd0
  have Hd := Lib.hid hd0
  have Hl := Lib.hid hl
  obtain ⟨res, hres⟩ : ∃ r, r = decD s := ⟨_, rfl⟩
  rw [← hres]
  have Hres0 := Lib.hid hres
  clear hal hb hrb hw1 hl hs hres hd0
  go_enter Tryz.func6, Tryz.ntmps6
  go_upto_region 1 with fail
  rw [Hw1.out, ← Hrb.out]
  cases hdec : decR s with
  | error y =>
    obtain ⟨y0, y1⟩ := decR_err hdec
    have hyb : (y != 0) = true := by rw [bne_iff_ne]; omega
    have Hres : Hid (res = .error y) := Lib.hid (by rw [Hres0.out]; unfold decD; rw [hdec])
    rw [hdec] at Hd
    clear hdec
    unfold DecP nodeZ at Hd
    go_wp2_with fail
    refine Hd.out.mono ?_
    rintro e w3 ⟨hc3, rfl⟩
    have hc3' := hc3.alloc (.cells #[.bool false, .string ⟨#[]⟩, .slice none 0 0] 39)
    have Hc3 := Lib.hid (Hc1.out.trans hc3')
    have Hr3 := Lib.hid (row_kept hc3' Hr1.out id)
    clear hc3 hc3'
    go_upto_region 2 with fail
    generalize w3.alloc (.cells #[.bool false, .string ⟨#[]⟩, .slice none 0 0] 39) = w4 at *
    obtain ⟨r0, r1, r2, r3, r4, r5⟩ := var6 Hr3.out
    have rf := row_free Hr3.out
    go_wp2_with fail
    obtain ⟨e0, e1, e2, e3, e4, e5⟩ := var6 (box6 Hr3.out (.string ⟨#[]⟩) (.int .i64 0) (.int .i64 0) (.int .i64 0) (.string ⟨#[]⟩) (.slice none 0 0))
    have hfin := box6_chg (b := rb) Hc3.out (.inr Hwr.out) (.string ⟨#[]⟩) (.int .i64 0) (.int .i64 0) (.int .i64 0) (.string ⟨#[]⟩) (.slice none 0 0)
    generalize ((((((w4.setCell ⟨rb, 0, none⟩ (.string ⟨#[]⟩)).setCell ⟨rb, 1, none⟩ (.int .i64 0)).setCell ⟨rb, 2, none⟩ (.int .i64 0)).setCell ⟨rb, 3, none⟩ (.int .i64 0)).setCell ⟨rb, 4, none⟩ (.string ⟨#[]⟩)).setCell ⟨rb, 5, none⟩ (.slice none 0 0)) = wf at *
    refine bodyPost_ret (v := .tuple #[.agg zD6, .int .i64 y]) (by simp [results, Tryz.results6, go_sem, e0, e1, e2, e3, e4, e5, zD6]) rfl ⟨hfin, ?_⟩
    rw [Hres.out]
  | ok n =>
    have Hcnt := Lib.hid (dec_count hdec)
    have Hdec := Lib.hid hdec
    rw [hdec] at Hd
    clear hdec
    go_wp2_with fail
    refine Hd.out.mono ?_
    rintro e w3 ⟨hc3, v3, rfl, hv3⟩
    obtain ⟨ha3, q, len, c, kb, ko, rfl, hs3⟩ := hv3.shape
    have hal4 := (Chg.refl NoB w3).alloc (.cells #[.bool n.leaf, .string n.atom, .slice q len c] 39)
    have hb4 := heap_alloc_new w3 (.cells #[.bool n.leaf, .string n.atom, .slice q len c] 39)
    obtain ⟨w2, hw4⟩ : ∃ w4, w3.alloc (.cells #[.bool n.leaf, .string n.atom, .slice q len c] 39) = w4 := ⟨_, rfl⟩
    obtain ⟨vb, hnb⟩ : ∃ nb, nb = w3.heap.size := ⟨_, rfl⟩
    rw [hw4] at hal4 hb4
    rw [← hnb] at hb4
    have Hnb := Lib.hid hnb
    have Hw4 := Lib.hid hw4
    have Hc2 := Lib.hid (Hc1.out.trans (hc3.trans hal4))
    have Hr2 := Lib.hid (row_kept (hc3.trans hal4) Hr1.out id)
    have Hv2 := Lib.hid hb4
    have hs4 := hs3.keep (T := NoB) hal4 fun _ _ => id
    obtain ⟨S, hS0⟩ : ∃ S : Nat → Prop, S = NewZ w1 w3 := ⟨_, rfl⟩
    have Hs0 : Hid (NdS w2 S (.slice q len c) n.kids kb ko) := Lib.hid (by rw [hS0]; exact hs4)
    have Hat := Lib.hid ha3
    obtain ⟨q', c', e', h1, h2, h3⟩ := hs4.sh
    simp only [Value.slice.injEq] at e'
    obtain ⟨rfl, hlk, rfl⟩ := e'
    have Hlen := Lib.hid hlk
    have H3 := Lib.hid h3
    have Hord0 := Lib.hid (show rb < vb by have := lt_of_block Hr1.out; have := hc3.size; omega)
    unfold maxLen at h2
    have hlc : len ≤ c := by omega
    clear hc3 hal4 hb4 hw4 hnb hv3 hs3 ha3 Hd hs4 hS0 h1 h3 hlk
    go_upto_region 2 with fail
    rw [Hw4.out, ← Hnb.out]
    obtain ⟨f0, f1, f2⟩ := var3 Hv2.out
    obtain ⟨r0, r1, r2, r3, r4, r5⟩ := var6 Hr2.out
    have rf := row_free Hr2.out
    by_cases h5 : len = 5
    · subst h5
      obtain ⟨k0, k1, k2, k3, k4, hkk⟩ := len5 n.kids Hlen.out.symm
      obtain ⟨rfl, -⟩ := H3.out (by rw [hkk]; simp)
      have hm : ∀ k ∈ [k0, k1, k2, k3, k4], k.count ≤ 65536 := fun k hk => by have := cnt_mem (ks := n.kids) (k := k) (by rw [hkk]; exact hk); have := (cnt_parts n).2; have := Hcnt.out; omega
      have Hm := Lib.hid hm
      have Hkk := Lib.hid hkk
      have Hs0k := Hs0
      rw [hkk] at Hs0k
      have hat := Hs0k.out.at'
      obtain ⟨-, -, s1, kb1, ko1, -, p1, -, -⟩ := (hat 1 (by simp)).cells
      obtain ⟨-, -, s2, kb2, ko2, -, p2, -, -⟩ := (hat 2 (by simp)).cells
      obtain ⟨-, -, s3, kb3, ko3, -, p3, -, -⟩ := (hat 3 (by simp)).cells
      obtain ⟨-, -, s4, kb4, ko4, -, -, q2, hs4⟩ := (hat 4 (by simp)).cells
      simp only [List.getElem_cons_zero, List.getElem_cons_succ] at p1 p2 p3 q2 hs4
      have Hs4 := Lib.hid hs4
      obtain ⟨q4, c4, e4, i1, i2, i3⟩ := hs4.sh
      obtain ⟨len4, hl4⟩ : ∃ l, l = k4.kids.length := ⟨_, rfl⟩
      rw [← hl4] at e4
      subst e4
      rw [← hl4] at i1
      have Hl4 := Lib.hid hl4
      have I1 := Lib.hid i1
      have I2 := Lib.hid i2
      have I3 := Lib.hid i3
      rw [← atL_tx k1] at p1
      rw [← atL_tx k2] at p2
      rw [← atL_tx k3] at p3
      obtain ⟨ma, hma⟩ : ∃ m : Int, m = ((rawV (atL k2)).1 : Int) := ⟨_, rfl⟩
      obtain ⟨mb, hmb⟩ : ∃ m : Int, m = ((rawV (atL k2)).2.1 : Int) := ⟨_, rfl⟩
      obtain ⟨mc, hmc⟩ : ∃ m : Int, m = ((rawV (atL k2)).2.2 : Int) := ⟨_, rfl⟩
      have Hraw : Hid (rawD n = (rawIns k4.kids).map fun l => ⟨atL k1, ma, mb, mc, atL k3, l⟩) := Lib.hid (by
        unfold rawD
        rw [hkk, hma, hmb, hmc])
      have Hvp := Lib.hid (fun w' => rvparse_any (atL k2) w' (by rw [atL_len]; have := (cnt_parts k2).1; have := Hm.out k2 (by simp); omega))
      rw [← hma, ← hmb, ← hmc] at Hvp
      obtain ⟨a1, ha1⟩ : ∃ a, a = atL k1 := ⟨_, rfl⟩
      obtain ⟨a2, ha2⟩ : ∃ a, a = atL k2 := ⟨_, rfl⟩
      obtain ⟨a3, ha3⟩ : ∃ a, a = atL k3 := ⟨_, rfl⟩
      rw [← ha1, ← ha3] at Hraw
      rw [← ha1] at p1
      rw [← ha2] at p2 Hvp
      rw [← ha3] at p3
      have P1 := Lib.hid p1
      have P2 := Lib.hid p2
      have P3 := Lib.hid p3
      have Q2 := Lib.hid q2
      clear hs4 hl4 i1 i2 i3 hm hkk hat ha1 ha2 ha3 hma hmb hmc p1 p2 p3 q2 Hs0k
      go_wp2_with fail
      have hdr : Chg NoB w2 w2.drew := (Chg.refl NoB w2).drew
      clear f0 f1 f2 r0 r1 r2 r3 r4 r5 rf
      have f2 := (var3 Hv2.out).2.2
      have p1 := P1.out
      have p3 := P3.out
      have hS : ∀ w', Chg NoB w2 w' → (w'.cell? ⟨vb, 2, none⟩ = some (.slice (some ⟨kb, ko, none⟩) 5 c) ∧ w'.cell? ⟨kb, ko + 1 * 3 + 1, none⟩ = some (.string (tx a1)) ∧ w'.cell? ⟨kb, ko + 3 * 3 + 1, none⟩ = some (.string (tx a3))) := fun w' h => ⟨h.keep f2, h.keep p1, h.keep p3⟩
      have hal6 := ((Chg.refl NoB w2).alloc (.cells #[.string ⟨#[]⟩, .int .i64 0, .int .i64 0, .int .i64 0, .string ⟨#[]⟩, .slice none 0 0] 29)).drew
      have hb6 := row_kept ((Chg.refl NoB (w2.alloc (.cells #[.string ⟨#[]⟩, .int .i64 0, .int .i64 0, .int .i64 0, .string ⟨#[]⟩, .slice none 0 0] 29))).drew) (heap_alloc_new w2 (.cells #[.string ⟨#[]⟩, .int .i64 0, .int .i64 0, .int .i64 0, .string ⟨#[]⟩, .slice none 0 0] 29)) id
      have hcx := ((Chg.refl NoB w2).alloc (.cells #[.string (tx a1), .int .i64 0, .int .i64 0, .int .i64 0, .string (tx a3), .slice none 0 0] 29)).drew
      have hbx := row_kept ((Chg.refl NoB (w2.alloc (.cells #[.string (tx a1), .int .i64 0, .int .i64 0, .int .i64 0, .string (tx a3), .slice none 0 0] 29))).drew) (heap_alloc_new w2 (.cells #[.string (tx a1), .int .i64 0, .int .i64 0, .int .i64 0, .string (tx a3), .slice none 0 0] 29)) id
      obtain ⟨t0, t1, t2', t3, t4, t5⟩ := var6 hb6
      have tf := row_free hb6
      have hA := hS _ (Chg.refl _ _)
      have hA2 := hS _ hdr
      have hA3 := hS _ hal6
      have hA4 := hS _ hcx
      have Hbx := Lib.hid hbx
      have Hcx := Lib.hid hcx
      clear hS f2 p1 p3 hdr hal6 hb6 hbx hcx
      simp only [Nat.reduceMul, Nat.add_assoc, Nat.reduceAdd] at hA hA2 hA3 hA4
      go_region_held3 (fun w' => w'.cell? ⟨vb, 2, none⟩ = some (.slice (some ⟨kb, ko, none⟩) 5 c) ∧ w'.cell? ⟨kb, ko + 4, none⟩ = some (.string (tx a1)) ∧ w'.cell? ⟨kb, ko + 10, none⟩ = some (.string (tx a3)))
        (first | with_reducible exact hA | with_reducible exact hA2 | with_reducible exact hA3 | with_reducible exact hA4)
        (first | fail)
      all_goals
        clear hA hA2 hA3 hA4 t0 t1 t2' t3 t4 t5 tf
        try clear hHeld
        generalize (w2.alloc (.cells #[.string (tx a1), .int .i64 0, .int .i64 0, .int .i64 0, .string (tx a3), .slice none 0 0] 29)).drew = w5 at *
        obtain ⟨db, hdb⟩ : ∃ d, d = w2.heap.size := ⟨_, rfl⟩
        rw [← hdb] at Hbx ⊢
        have hvl := lt_of_block Hv2.out
        have hdl := lt_of_block Hbx.out
        have Hord1 := Lib.hid (show rb < db ∧ vb < db by have := Hord0.out; omega)
        have Hdb := Lib.hid hdb
        have f2 := Hcx.out.keep (var3 Hv2.out).2.2
        have p2 := Hcx.out.keep P2.out
        simp only [Nat.reduceMul, Nat.add_assoc, Nat.reduceAdd] at p2
        clear hvl hdl hdb
        go_wp2_with fail
        refine (Hvp.out w5).mono ?_
        rintro e w51 ⟨hc51, ye, rfl⟩
        have hbx51 := row_kept hc51 Hbx.out id
        have hb6 := box13 hbx51 (.int .i64 ma) (.int .i64 mb) (.int .i64 mc)
        have hst : Chg (fun y => y = db) w51 (((w51.setCell ⟨db, 1, none⟩ (.int .i64 ma)).setCell ⟨db, 2, none⟩ (.int .i64 mb)).setCell ⟨db, 3, none⟩ (.int .i64 mc)) := (((Chg.refl (fun y => y = db) w51).setCell (p := ⟨db, 1, none⟩) (.inl rfl) (.int .i64 ma)).setCell (p := ⟨db, 2, none⟩) (.inl rfl) (.int .i64 mb)).setCell (p := ⟨db, 3, none⟩) (.inl rfl) (.int .i64 mc)
        have hc26 : Chg NoB w2 (((w51.setCell ⟨db, 1, none⟩ (.int .i64 ma)).setCell ⟨db, 2, none⟩ (.int .i64 mb)).setCell ⟨db, 3, none⟩ (.int .i64 mc)) := (Hcx.out.trans hc51).above hst fun y hy => by have h : y = db := hy; have := Hdb.out; omega
        obtain ⟨b0, b1, b2, b3, b4, b5⟩ := var6 hbx51
        have bf := row_free hbx51
        have Hb6 := Lib.hid hb6
        have Hc26 := Lib.hid hc26
        clear f2 p2 hc51 hbx51 hb6 hst hc26 Hvp
        go_upto_region 8 with fail
        clear b0 b1 b2 b3 b4 b5 bf
        generalize (((w51.setCell ⟨db, 1, none⟩ (.int .i64 ma)).setCell ⟨db, 2, none⟩ (.int .i64 mb)).setCell ⟨db, 3, none⟩ (.int .i64 mc)) = w6 at *
        have Hr6 := Lib.hid (row_kept Hc26.out Hr2.out id)
        have f2 := Hc26.out.keep (var3 Hv2.out).2.2
        have q2 := Hc26.out.keep Q2.out
        simp only [Nat.reduceMul, Nat.add_assoc, Nat.reduceAdd] at q2
        obtain ⟨lo, hlo⟩ : ∃ l, l = w6.heap.size := ⟨_, rfl⟩
        have hdl := lt_of_block Hb6.out
        have Hord := Lib.hid (show w.heap.size ≤ rb ∧ rb < db ∧ db < lo ∧ vb < db by have := Hwr.out; have := Hord1.out; omega)
        have Hlo := Lib.hid hlo
        have Hn4 := Hs4
        have Hkc := Lib.hid (show Nd.counts k4.kids ≤ 65536 by have := (cnt_parts k4).2; have := Hm.out k4 (by simp); omega)
        have hkl4 : len4 ≤ 65536 := by have := cnt_len k4.kids; have := Hkc.out; have := Hl4.out; omega
        have hc4l : len4 ≤ c4 := I1.out
        have hc4m : c4 ≤ 9223372036854775807 := by have := I2.out; unfold maxLen at this; omega
        obtain ⟨i0, hi, hz0, hz1, hz2⟩ := info_parts inpInfo
        have Hi := Lib.hid hi
        have Hz0 := Lib.hid hz0
        have Hz1 := Lib.hid hz1
        have Hz2 := Lib.hid hz2
        clear hdl hlo hi hz0 hz1 hz2
        go_wp2_with fail
        clear f2 q2
        go_loopw [52] (fun i wr => ∃ (k : Nat) (lv : Value) (acc : List InL), k ≤ len4 ∧ i = .int .i64 k ∧ rawIns (k4.kids.take k) = some acc ∧ wr.heap[db]? = some (.cells #[.string (tx a1), .int .i64 ma, .int .i64 mb, .int .i64 mc, .string (tx a3), lv] 29 (0, 0)) ∧ wr.ownsRow lo 48 2 lv k (flatP acc) ∧ Chg (fun y => y = db) w6 wr) (fun i _ => len4 - (intOf i).toNat)
        case atStart => exact ⟨0, _, [], Nat.zero_le _, rfl, rfl, Hb6.out, World.ownsRow_nil _ _ _ _, Chg.refl _ _⟩
        case round =>
          obtain ⟨k, lv, acc, hk, rfl, hin, hob, hrow, hch⟩ := hrel
          obtain ⟨lq, lc, rfl, hnc, hcm⟩ := row_shape hrow
          have hc2r : Chg NoB w2 wr := Hc26.out.above hch fun y hy => by have h : y = db := hy; have := Hdb.out; omega
          have Hcw := Lib.hid (Hc2.out.trans hc2r)
          have Hc2r := Lib.hid hc2r
          have Hch := Lib.hid hch
          have Hob := Lib.hid hob
          have Hrow := Lib.hid hrow
          have Hin := Lib.hid hin
          have Hrr := Lib.hid (row_kept Hch.out Hr6.out (by have := Hord.out; omega))
          unfold maxLen at hcm
          clear hin hob hrow hch hc2r
          by_cases hlt : k < len4
          · have hlt' : k < k4.kids.length := by rw [← Hl4.out]; exact hlt
            obtain ⟨rfl, -⟩ := I3.out (by intro e; rw [e] at hlt'; simp at hlt')
            obtain ⟨-, hxa, s5, kb5, ko5, c0, c1, c2, hs5⟩ := ((Hn4.out.at' k hlt').keep Hc2r.out fun _ _ => id).cells
            have Htk : Hid (k4.kids.take (k + 1) = k4.kids.take k ++ [k4.kids[k]]) := Lib.hid (by rw [List.take_add_one, List.getElem?_eq_getElem hlt']; rfl)
            have Hbad : Hid (rawIn k4.kids[k] = none → res = .error 5) := Lib.hid fun h => by
              rw [Hres0.out]
              exact decD_raw_none Hdec.out (by rw [Hraw.out, rawIns_bad (List.getElem_mem hlt') h]; rfl)
            have Hxl : Hid (k4.kids[k].kids.length ≤ 65536) := Lib.hid (by
              have h1 := Nd.counts_get k4.kids k hlt'
              have h2 := (cnt_parts k4.kids[k]).2
              have h3 := cnt_len k4.kids[k].kids
              have := Hkc.out
              omega)
            generalize k4.kids[k] = x at *
            obtain ⟨q5, cap5, e5, j1, j2, j3⟩ := hs5.sh
            obtain ⟨len5, hl5⟩ : ∃ l, l = x.kids.length := ⟨_, rfl⟩
            rw [← hl5] at e5 j1
            subst e5
            obtain ⟨xl, xa, xk⟩ := x
            simp only [Nd.leaf, Nd.atom] at c0 c1 c2 hxa
            change NdS wr S _ xk kb5 ko5 at hs5
            change xk ≠ [] → _ at j3
            change len5 = xk.length at hl5
            change Hid (xk.length ≤ 65536) at Hxl
            have hxl5 : len5 ≤ 65536 := by have := Hxl.out; omega
            unfold maxLen at j2
            have Hs5 := Lib.hid hs5
            have Hl5 := Lib.hid hl5
            have J3 := Lib.hid j3
            have hal7 := (Chg.refl NoB wr).alloc (.cells #[.bool xl, .string xa, .slice q5 len5 cap5] 39)
            have hb7 := heap_alloc_new wr (.cells #[.bool xl, .string xa, .slice q5 len5 cap5] 39)
            obtain ⟨pb, hpb⟩ : ∃ b, b = wr.heap.size := ⟨_, rfl⟩
            obtain ⟨w7, hw7⟩ : ∃ w7, wr.alloc (.cells #[.bool xl, .string xa, .slice q5 len5 cap5] 39) = w7 := ⟨_, rfl⟩
            rw [hw7] at hal7 hb7
            rw [← hpb] at hb7
            have Hw7 := Lib.hid hw7
            have Hpb := Lib.hid hpb
            have Hal7 := Lib.hid hal7
            have Hb7 := Lib.hid hb7
            clear hs5 hl5 j3 hal7 hw7 hpb hb7 hlt' hxa
            go_upto_region 11 with fail
            rw [Hw7.out, ← Hpb.out]
            clear c0 c1 c2
            obtain ⟨g0, g1, g2⟩ := var3 Hb7.out
            have hr7 := row_kept Hal7.out Hrr.out id
            obtain ⟨r0, r1, r2, r3, r4, r5⟩ := var6 hr7
            have rf := row_free hr7
            have Hr7 := Lib.hid hr7
            have Hc7 := Lib.hid (Hcw.out.trans Hal7.out)
            clear hr7
            by_cases h2k : len5 = 2
            · subst h2k
              obtain ⟨p, q, rfl⟩ := len2 xk Hl5.out.symm
              obtain ⟨rfl, -⟩ := J3.out (by simp)
              have Hio := Lib.hid (rawIn_two (x := .mk xl xa [p, q]) rfl)
              obtain ⟨-, -, s6, kb6, ko6, -, u1, -, -⟩ := ((Hs5.out.at' 0 (by simp)).keep Hal7.out fun _ _ => id).cells
              obtain ⟨-, -, s7, kb7, ko7, -, y1, -, -⟩ := ((Hs5.out.at' 1 (by simp)).keep Hal7.out fun _ _ => id).cells
              simp only [List.getElem_cons_zero, List.getElem_cons_succ] at u1 y1
              rw [← atL_tx p] at u1
              rw [← atL_tx q] at y1
              obtain ⟨ap, hap⟩ : ∃ a, a = atL p := ⟨_, rfl⟩
              obtain ⟨aq, haq⟩ : ∃ a, a = atL q := ⟨_, rfl⟩
              rw [← hap, ← haq] at Hio
              rw [← hap] at u1
              rw [← haq] at y1
              have hob8 := row_kept Hal7.out Hob.out id
              have o5 := (var6 hob8).2.2.2.2.2
              have Hob8 := Lib.hid hob8
              have HL := Lib.hid (show ∀ j, (Value.slice lq k lc).ownBlock = some j → lo ≤ j from fun j hj => (World.ownsRow.lt Hrow.out j hj).1)
              have hownK : ∀ w', Chg NoB w7 w' → Hid (w'.ownsRow lo 48 2 (.slice lq k lc) k (flatP acc)) := fun w' h => Lib.hid (ownsRow_chg Hrow.out (Hal7.out.trans h) fun _ _ => id)
              have hstep : ∀ (wz : World), Chg NoB w7 wz → ∀ (v9 : Value) (w9 : World), w9.ownsRow lo 48 2 v9 (k + 1) (flatP acc ++ [.string (tx ap), .string (tx aq)]) → wz.grownBy w9 (Value.slice lq k lc).ownBlock →
                  Hid (w9.ownsRow lo 48 2 v9 (k + 1) (flatP (acc ++ [(ap, aq)]))) ∧ Hid (Chg (fun y => y = db) w6 w9) ∧ Hid (w9.heap[db]? = some (.cells #[.string (tx a1), .int .i64 ma, .int .i64 mb, .int .i64 mc, .string (tx a3), .slice lq k lc] 29 (0, 0))) ∧ ∃ r9 s9 t9, v9 = .slice r9 s9 t9 := fun wz hcz v9 w9 hown9 hgr9 => by
                have hgc9 : Chg (fun j => (Value.slice lq k lc).ownBlock = some j) wz w9 := (Chg.refl _ _).grown hgr9 fun j hj => .inl hj
                have h69 : Chg (fun j => (Value.slice lq k lc).ownBlock = some j) w7 w9 := (hcz.mono fun _ _ x => x.elim).trans hgc9
                have hch9 : Chg (fun y => y = db) w6 w9 := by
                  have h1 : Chg (fun y => y = db) w6 w7 := Hch.out.trans (Hal7.out.mono fun _ _ => False.elim)
                  refine ⟨h69.os.trans h1.os, h69.tape.trans h1.tape, h69.output.trans h1.output, Nat.le_trans h1.size h69.size, fun y hy hne => ?_⟩
                  rw [h69.block y (Nat.lt_of_lt_of_le hy h1.size) fun e => by have := HL.out y e; have := Hlo.out; omega]
                  exact h1.block y hy hne
                obtain ⟨r9, s9, e9, -, -⟩ := row_shape hown9
                exact ⟨Lib.hid (by rw [flatP_app]; exact hown9), Lib.hid hch9, Lib.hid (row_kept h69 Hob8.out fun e => by have := HL.out db e; have := Hord.out; omega), r9, k + 1, s9, e9⟩
              have Hstep := Lib.hid hstep
              have M1 := Lib.hid (show k + 1 ≤ maxLen by unfold maxLen; omega)
              have M2 := Lib.hid (show (k + 1) * 32 ≤ 140737488355328 by omega)
              have hdr : Chg NoB w7 w7.drew := (Chg.refl NoB w7).drew
              have hal9 := hdr.alloc (.cells #[.string (tx ap), .string (tx aq)] 48)
              have Hlo8 : Hid (lo ≤ (w7.drew.alloc (.cells #[.string (tx ap), .string (tx aq)] 48)).heap.size) := Lib.hid (by have h1 := Hlo.out; have h2 := Hch.out.size; have h3 := Hal7.out.size; have h4 := hal9.size; omega)
              have Hal9 := Lib.hid hal9
              have Hown9 := hownK _ hal9
              have d5 := hdr.keep o5
              have d2 := hdr.keep g2
              have du := hdr.keep u1
              have dy := hdr.keep y1
              have z5 := hal9.keep o5
              have z2 := hal9.keep g2
              have zu := hal9.keep u1
              have zy := hal9.keep y1
              have halA := (Chg.refl NoB w7).alloc (.cells #[.string (tx ap), .string (tx aq)] 48)
              have halB := halA.drew
              have HlitB := Lib.hid (show ∀ (j : Nat) (u : Value), [Value.string (tx ap), .string (tx aq)][j]? = some u → (w7.alloc (.cells #[.string (tx ap), .string (tx aq)] 48)).drew.cell? ((⟨w7.heap.size, 0, none⟩ : Addr).add j) = some u from fun j u h => (Chg.refl NoB (w7.alloc (.cells #[.string (tx ap), .string (tx aq)] 48))).drew.keep (lit2 w7 _ _ _ j u h))
              have HalB := Lib.hid halB
              have HownB := hownK _ halB
              have HloB : Hid (lo ≤ (w7.alloc (.cells #[.string (tx ap), .string (tx aq)] 48)).drew.heap.size) := Lib.hid (by have h1 := Hlo.out; have h2 := Hch.out.size; have h3 := Hal7.out.size; have h4 := halB.size; omega)
              have a5 := halA.keep o5
              have a2' := halA.keep g2
              have au := halA.keep u1
              have ay := halA.keep y1
              have b5 := halB.keep o5
              have b2' := halB.keep g2
              have bu := halB.keep u1
              have by' := halB.keep y1
              clear halA halB
              clear hap haq hob8 hownK hstep hdr hal9 Hbad Hxl r0 r1 r2 r3 r4 r5 rf
              go_upto_region 13 with fail
              go_region_law (first
                | (refine step_append_at (by rfl) _ (.tmp 62) (.tmp 74) 27 (by rfl) lo 48 i0 (.agg #[.string ⟨#[]⟩, .string ⟨#[]⟩]) 2 32 Tryz.underlying27 Hi.out Hz0.out Hz1.out Hz2.out rfl (by decide) _ k _ (by rfl) HownB.out ⟨w7.heap.size, 0, none⟩ 1 1 [.string (tx ap), .string (tx aq)] (by rfl) rfl HlitB.out (one2 _ _) M1.out M2.out HloB.out ?_; intro v11 w11 hown11 hgr11 hpl11; obtain ⟨Hrow11, Hch11, Hob11, r11, s11, t11, e11⟩ := Hstep.out _ HalB.out v11 w11 hown11 hgr11; subst e11; obtain ⟨p0, p1, p2, p3, p4, p5⟩ := var6 Hob11.out; have pf := row_free Hob11.out; clear hown11 hgr11 hpl11)
                | (refine step_append_at (by rfl) _ (.tmp 62) (.tmp 74) 27 (by rfl) lo 48 i0 (.agg #[.string ⟨#[]⟩, .string ⟨#[]⟩]) 2 32 Tryz.underlying27 Hi.out Hz0.out Hz1.out Hz2.out rfl (by decide) _ k _ (by rfl) Hown9.out ⟨w7.drew.heap.size, 0, none⟩ 1 1 [.string (tx ap), .string (tx aq)] (by rfl) rfl (lit2 w7.drew _ _ _) (one2 _ _) M1.out M2.out Hlo8.out ?_; intro v11 w11 hown11 hgr11 hpl11; obtain ⟨Hrow11, Hch11, Hob11, r11, s11, t11, e11⟩ := Hstep.out _ Hal9.out v11 w11 hown11 hgr11; subst e11; obtain ⟨p0, p1, p2, p3, p4, p5⟩ := var6 Hob11.out; have pf := row_free Hob11.out; clear hown11 hgr11 hpl11))
              all_goals
                clear o5 g2 u1 y1 d5 d2 du dy z5 z2 zu zy a5 a2' au ay b5 b2' bu by' p0 p1 p2 p3 p4 p5 pf
                go_wp2_with fail
                go_roundw
                case rel =>
                  have hsc : Chg (fun y => y = db) w11 (w11.setCell ⟨db, 5, none⟩ (.slice r11 s11 t11)) := (Chg.refl (fun y => y = db) w11).setCell (p := ⟨db, 5, none⟩) (.inl rfl) (.slice r11 s11 t11)
                  exact ⟨k + 1, .slice r11 s11 t11, acc ++ [(ap, aq)], by omega, by go_num, by rw [Htk.out]; exact rawIns_snoc Hin.out Hio.out, heap_set Hob11.out (i := 5) (.slice r11 s11 t11), ownsRow_chg Hrow11.out hsc fun j hj e => by have h1 := (World.ownsRow.lt Hrow11.out j hj).1; have h2 : j = db := e; have := Hord.out; omega, Hch11.out.trans hsc⟩
                case measure => simp [intOf]; omega
            · have hlb : ((len5 : Int) != 2) = true := by
                rw [bne_iff_ne]
                omega
              have Hres := Lib.hid (Hbad.out (rawIn_no (x := .mk xl xa xk) (by show xk.length ≠ 2; have := Hl5.out; omega)))
              clear h2k
              go_wp2_with fail
              obtain ⟨e0, e1, e2, e3, e4, e5⟩ := var6 (box6 Hr7.out (.string ⟨#[]⟩) (.int .i64 0) (.int .i64 0) (.int .i64 0) (.string ⟨#[]⟩) (.slice none 0 0))
              have hfin := box6_chg (b := rb) Hc7.out (.inr Hwr.out) (.string ⟨#[]⟩) (.int .i64 0) (.int .i64 0) (.int .i64 0) (.string ⟨#[]⟩) (.slice none 0 0)
              generalize ((((((w7.setCell ⟨rb, 0, none⟩ (.string ⟨#[]⟩)).setCell ⟨rb, 1, none⟩ (.int .i64 0)).setCell ⟨rb, 2, none⟩ (.int .i64 0)).setCell ⟨rb, 3, none⟩ (.int .i64 0)).setCell ⟨rb, 4, none⟩ (.string ⟨#[]⟩)).setCell ⟨rb, 5, none⟩ (.slice none 0 0)) = wf at *
              refine bodyPost_ret (v := .tuple #[.agg zD6, .int .i64 5]) (by simp [results, Tryz.results6, go_sem, e0, e1, e2, e3, e4, e5, zD6]) rfl ⟨hfin, ?_⟩
              rw [Hres.out]
          · obtain rfl : k = len4 := by omega
            have htk : k4.kids.take k = k4.kids := by rw [Hl4.out]; exact List.take_of_length_le (Nat.le_refl _)
            have hin := Hin.out
            rw [htk] at hin
            obtain ⟨d, hd⟩ : ∃ d : DrvL, d = ⟨a1, ma, mb, mc, a3, acc⟩ := ⟨_, rfl⟩
            have hraw : rawD n = some d := by rw [Hraw.out, hin, hd]; rfl
            have Hwf := Lib.hid (raw_wf Hcnt.out hraw)
            have Hrawd := Lib.hid hraw
            have hal : acc.length = k := by rw [(rawIns_len hin).1, Hl4.out]
            have hrw := Hrow.out
            rw [← hal] at hrw
            obtain ⟨nb, hns⟩ := InpS.of_row hrw
            rw [hal] at hns
            have Hns := Lib.hid hns
            have hdv : ∀ w', Chg NoB wr w' → DrvV w' (fun y => lo ≤ y ∧ y < wr.heap.size) (.agg #[.string (tx a1), .int .i64 ma, .int .i64 mb, .int .i64 mc, .string (tx a3), .slice lq k lc]) d := fun w' h => ⟨.slice lq k lc, nb, 0, by rw [hd]; rfl, by rw [hd]; exact Hns.out.keep h fun _ _ => id⟩
            have Hdv := Lib.hid hdv
            have Hgd := Lib.hid (fun w' (h : Chg NoB wr w') => refGood_any d Hwf.out _ _ w' (hdv w' h))
            have hvr := row_kept Hc2r.out Hv2.out id
            obtain ⟨n0, n1, n2⟩ := var3 hvr
            obtain ⟨o0, o1, o2, o3, o4, o5⟩ := var6 Hob.out
            have hS : ∀ w', Chg NoB wr w' → ((w'.cell? ⟨vb, 0, none⟩ = some (.bool n.leaf) ∧ w'.cell? ⟨vb, 1, none⟩ = some (.string n.atom) ∧ w'.cell? ⟨vb, 2, none⟩ = some (.slice (some ⟨kb, ko, none⟩) 5 c)) ∧ w'.cell? ⟨db, 0, none⟩ = some (.string (tx a1)) ∧ w'.cell? ⟨db, 1, none⟩ = some (.int .i64 ma) ∧ w'.cell? ⟨db, 2, none⟩ = some (.int .i64 mb) ∧ w'.cell? ⟨db, 3, none⟩ = some (.int .i64 mc) ∧ w'.cell? ⟨db, 4, none⟩ = some (.string (tx a3)) ∧ w'.cell? ⟨db, 5, none⟩ = some (.slice lq k lc)) := fun w' h => ⟨⟨h.keep n0, h.keep n1, h.keep n2⟩, h.keep o0, h.keep o1, h.keep o2, h.keep o3, h.keep o4, h.keep o5⟩
            have HS := Lib.hid hS
            have hdr : Chg NoB wr wr.drew := (Chg.refl NoB wr).drew
            have hA := hS _ (Chg.refl _ _)
            have Hdr := Lib.hid hdr
            obtain ⟨gd, hgd⟩ : ∃ g, g = goodD d := ⟨_, rfl⟩
            rw [← hgd] at Hgd
            have Hgdd := Lib.hid hgd
            clear hgd htk hin hraw hrw hns hdv hvr n0 n1 n2 o0 o1 o2 o3 o4 o5 hS hdr hal hlt hd
            cases gd with
            | false =>
              have Hres : Hid (res = .error 5) := Lib.hid (by rw [Hres0.out]; exact decD_raw_bad Hdec.out Hrawd.out (by rintro ⟨h, -⟩; rw [← Hgdd.out] at h; cases h))
              go_wp2_with fail
              obtain ⟨⟨n0, n1, n2⟩, o0, o1, o2, o3, o4, o5⟩ := hA
              go_region_with (go_at_call 14; refine (Hgd.out wr.drew Hdr.out).mono ?_; rintro e w8 ⟨rfl, hc8⟩; have Hc8 := Lib.hid (Hdr.out.trans hc8); clear hc8 n0 n1 n2 o0 o1 o2 o3 o4 o5)
              all_goals
                try clear hHeld
                have hr8 := row_kept Hc8.out Hrr.out id
                have Hr8 := Lib.hid hr8
                have Hcw8 := Lib.hid (Hcw.out.trans Hc8.out)
                clear hr8
                obtain ⟨r0, r1, r2, r3, r4, r5⟩ := var6 Hr8.out
                have rf := row_free Hr8.out
                go_wp2_with fail
                obtain ⟨e0, e1, e2, e3, e4, e5⟩ := var6 (box6 Hr8.out (.string ⟨#[]⟩) (.int .i64 0) (.int .i64 0) (.int .i64 0) (.string ⟨#[]⟩) (.slice none 0 0))
                have hfin := box6_chg (b := rb) Hcw8.out (.inr Hwr.out) (.string ⟨#[]⟩) (.int .i64 0) (.int .i64 0) (.int .i64 0) (.string ⟨#[]⟩) (.slice none 0 0)
                generalize ((((((w8.setCell ⟨rb, 0, none⟩ (.string ⟨#[]⟩)).setCell ⟨rb, 1, none⟩ (.int .i64 0)).setCell ⟨rb, 2, none⟩ (.int .i64 0)).setCell ⟨rb, 3, none⟩ (.int .i64 0)).setCell ⟨rb, 4, none⟩ (.string ⟨#[]⟩)).setCell ⟨rb, 5, none⟩ (.slice none 0 0)) = wf at *
                refine bodyPost_ret (v := .tuple #[.agg zD6, .int .i64 5]) (by simp [results, Tryz.results6, go_sem, e0, e1, e2, e3, e4, e5, zD6]) rfl ⟨hfin, ?_⟩
                rw [Hres.out]
            | true =>
              have Hlw := Lib.hid (fun w' (h : Chg NoB wr w') => (Hl.out.keep (Hcw.out.trans h)).lw)
              have Hnode := Lib.hid (fun w' (h : Chg NoB wr w') => refNode_any d Hwf.out Hgdd.out.symm _ _ base w' (Hlw.out w' h) (Hdv.out w' h))
              have hndv : ∀ w', Chg NoB wr w' → NdV w' S (.agg #[.bool n.leaf, .string n.atom, .slice (some ⟨kb, ko, none⟩) 5 c]) n := fun w' h => ⟨Hat.out, _, kb, ko, rfl, Hs0.out.keep (Hc2r.out.trans h) fun _ _ => id⟩
              have hsame : ∀ (w9 : World) (v9 : Value) (T : Nat → Prop), Chg NoB wr w9 → NdV w9 T v9 (nodeD d) → Calls Tryz.prog 15 #[.agg #[.bool n.leaf, .string n.atom, .slice (some ⟨kb, ko, none⟩) 5 c], v9] w9 fun e w' => e = .returned (.bool (sameN n (nodeD d))) ∧ Chg NoB w9 w' := fun w9 v9 T hc hv =>
                sameN_any 1048576 n (nodeD d) (by have := Hcnt.out; omega) (Nat.le_refl _) S T _ v9 w9 (hndv w9 hc) hv
              obtain ⟨sb, hsb⟩ : ∃ b, b = sameN n (nodeD d) := ⟨_, rfl⟩
              rw [← hsb] at hsame
              have Hsame := Lib.hid hsame
              have Hsb := Lib.hid hsb
              clear hndv hsame hsb
              cases sb with
              | false =>
                have Hres : Hid (res = .error 5) := Lib.hid (by rw [Hres0.out]; exact decD_raw_bad Hdec.out Hrawd.out (by rintro ⟨-, h⟩; have h2 := (sameN_iff _ _).2 h; rw [← Hsb.out] at h2; cases h2))
                go_wp2_with fail
                go_region_held3 (fun w' => (w'.cell? ⟨vb, 0, none⟩ = some (.bool n.leaf) ∧ w'.cell? ⟨vb, 1, none⟩ = some (.string n.atom) ∧ w'.cell? ⟨vb, 2, none⟩ = some (.slice (some ⟨kb, ko, none⟩) 5 c)) ∧ w'.cell? ⟨db, 0, none⟩ = some (.string (tx a1)) ∧ w'.cell? ⟨db, 1, none⟩ = some (.int .i64 ma) ∧ w'.cell? ⟨db, 2, none⟩ = some (.int .i64 mb) ∧ w'.cell? ⟨db, 3, none⟩ = some (.int .i64 mc) ∧ w'.cell? ⟨db, 4, none⟩ = some (.string (tx a3)) ∧ w'.cell? ⟨db, 5, none⟩ = some (.slice lq k lc))
                  (first | with_reducible exact hA | with_reducible exact hB | with_reducible exact hC | with_reducible exact hD | exact hA)
                  (first
                    | (go_at_call 14; refine (Hgd.out wr.drew Hdr.out).mono ?_; rintro e w8 ⟨rfl, hc8⟩; have HcA := Lib.hid (Hdr.out.trans hc8); have hB := HS.out w8 HcA.out; clear hc8)
                    | (go_at_call 16; refine (Hnode.out w8 HcA.out).mono ?_; rintro e w9 ⟨hc9, v9, rfl, hv9⟩; have HcB := Lib.hid (HcA.out.trans hc9); have hC := HS.out w9 HcB.out; have Hv9 := Lib.hid hv9; clear hc9 hv9)
                    | (go_at_call 15; refine (Hsame.out w9 _ _ HcB.out Hv9.out).mono ?_; rintro e w10 ⟨rfl, hc10⟩; have HcC := Lib.hid (HcB.out.trans hc10); have hD := HS.out w10 HcC.out; clear hc10))
                all_goals
                  try clear hHeld
                  have hr8 := row_kept HcC.out Hrr.out id
                  have Hr8 := Lib.hid hr8
                  have Hcw8 := Lib.hid (Hcw.out.trans HcC.out)
                  clear hA hB hC hD hr8
                  obtain ⟨r0, r1, r2, r3, r4, r5⟩ := var6 Hr8.out
                  have rf := row_free Hr8.out
                  go_wp2_with fail
                  obtain ⟨e0, e1, e2, e3, e4, e5⟩ := var6 (box6 Hr8.out (.string ⟨#[]⟩) (.int .i64 0) (.int .i64 0) (.int .i64 0) (.string ⟨#[]⟩) (.slice none 0 0))
                  have hfin := box6_chg (b := rb) Hcw8.out (.inr Hwr.out) (.string ⟨#[]⟩) (.int .i64 0) (.int .i64 0) (.int .i64 0) (.string ⟨#[]⟩) (.slice none 0 0)
                  generalize ((((((w10.setCell ⟨rb, 0, none⟩ (.string ⟨#[]⟩)).setCell ⟨rb, 1, none⟩ (.int .i64 0)).setCell ⟨rb, 2, none⟩ (.int .i64 0)).setCell ⟨rb, 3, none⟩ (.int .i64 0)).setCell ⟨rb, 4, none⟩ (.string ⟨#[]⟩)).setCell ⟨rb, 5, none⟩ (.slice none 0 0)) = wf at *
                  refine bodyPost_ret (v := .tuple #[.agg zD6, .int .i64 5]) (by simp [results, Tryz.results6, go_sem, e0, e1, e2, e3, e4, e5, zD6]) rfl ⟨hfin, ?_⟩
                  rw [Hres.out]
              | true =>
                have Hres : Hid (res = .ok d) := Lib.hid (by rw [Hres0.out]; exact decD_raw_ok Hdec.out Hgdd.out.symm ((sameN_iff _ _).1 Hsb.out.symm))
                go_wp2_with fail
                go_region_held3 (fun w' => (w'.cell? ⟨vb, 0, none⟩ = some (.bool n.leaf) ∧ w'.cell? ⟨vb, 1, none⟩ = some (.string n.atom) ∧ w'.cell? ⟨vb, 2, none⟩ = some (.slice (some ⟨kb, ko, none⟩) 5 c)) ∧ w'.cell? ⟨db, 0, none⟩ = some (.string (tx a1)) ∧ w'.cell? ⟨db, 1, none⟩ = some (.int .i64 ma) ∧ w'.cell? ⟨db, 2, none⟩ = some (.int .i64 mb) ∧ w'.cell? ⟨db, 3, none⟩ = some (.int .i64 mc) ∧ w'.cell? ⟨db, 4, none⟩ = some (.string (tx a3)) ∧ w'.cell? ⟨db, 5, none⟩ = some (.slice lq k lc))
                  (first | with_reducible exact hA | with_reducible exact hB | with_reducible exact hC | with_reducible exact hD | exact hA)
                  (first
                    | (go_at_call 14; refine (Hgd.out wr.drew Hdr.out).mono ?_; rintro e w8 ⟨rfl, hc8⟩; have HcA := Lib.hid (Hdr.out.trans hc8); have hB := HS.out w8 HcA.out; clear hc8)
                    | (go_at_call 16; refine (Hnode.out w8 HcA.out).mono ?_; rintro e w9 ⟨hc9, v9, rfl, hv9⟩; have HcB := Lib.hid (HcA.out.trans hc9); have hC := HS.out w9 HcB.out; have Hv9 := Lib.hid hv9; clear hc9 hv9)
                    | (go_at_call 15; refine (Hsame.out w9 _ _ HcB.out Hv9.out).mono ?_; rintro e w10 ⟨rfl, hc10⟩; have HcC := Lib.hid (HcB.out.trans hc10); have hD := HS.out w10 HcC.out; clear hc10))
                all_goals
                  try clear hHeld
                  have hr8 := row_kept HcC.out Hrr.out id
                  have Hr8 := Lib.hid hr8
                  have Hcw8 := Lib.hid (Hcw.out.trans HcC.out)
                  clear hA hB hC
                  obtain ⟨⟨-, -, -⟩, o0, o1, o2, o3, o4, o5⟩ := hD
                  clear hr8
                  obtain ⟨r0, r1, r2, r3, r4, r5⟩ := var6 Hr8.out
                  have rf := row_free Hr8.out
                  go_wp2_with fail
                  obtain ⟨e0, e1, e2, e3, e4, e5⟩ := var6 (box6 Hr8.out (.string (tx a1)) (.int .i64 ma) (.int .i64 mb) (.int .i64 mc) (.string (tx a3)) (.slice lq k lc))
                  have hfin := box6_chg (b := rb) Hcw8.out (.inr Hwr.out) (.string (tx a1)) (.int .i64 ma) (.int .i64 mb) (.int .i64 mc) (.string (tx a3)) (.slice lq k lc)
                  have hst := box6_chg (b := rb) (Chg.refl (fun y => y = rb) w10) (.inl rfl) (.string (tx a1)) (.int .i64 ma) (.int .i64 mb) (.int .i64 mc) (.string (tx a3)) (.slice lq k lc)
                  generalize ((((((w10.setCell ⟨rb, 0, none⟩ (.string (tx a1))).setCell ⟨rb, 1, none⟩ (.int .i64 ma)).setCell ⟨rb, 2, none⟩ (.int .i64 mb)).setCell ⟨rb, 3, none⟩ (.int .i64 mc)).setCell ⟨rb, 4, none⟩ (.string (tx a3))).setCell ⟨rb, 5, none⟩ (.slice lq k lc)) = wf at *
                  refine bodyPost_ret (v := .tuple #[.agg #[.string (tx a1), .int .i64 ma, .int .i64 mb, .int .i64 mc, .string (tx a3), .slice lq k lc], .int .i64 0]) (by simp [results, Tryz.results6, go_sem, e0, e1, e2, e3, e4, e5]) rfl ⟨hfin, ?_⟩
                  rw [Hres.out]
                  obtain ⟨s9, kb9, ko9, e9, hs9⟩ := Hdv.out w10 HcC.out
                  have hz1 := HcC.out.size
                  have hz2 := hst.size
                  have ho := Hord.out
                  refine ⟨_, rfl, s9, kb9, ko9, e9, (hs9.keep hst fun y hy e => ?_).mono fun y hy => ?_⟩
                  · have h1 : lo ≤ y := hy.1
                    have h2 : y = rb := e
                    omega
                  · have h1 : lo ≤ y := hy.1
                    have h2 : y < wr.heap.size := hy.2
                    exact (show w.heap.size ≤ y ∧ y < wf.heap.size by omega)
    · have hlb : ((len : Int) != 5) = true := by
        rw [bne_iff_ne]
        omega
      have Hres : Hid (res = .error 5) := Lib.hid (by rw [Hres0.out]; exact decD_raw_none Hdec.out (raw_no5 (by rw [← Hlen.out]; exact h5)))
      clear h5
      go_wp2_with fail
      obtain ⟨e0, e1, e2, e3, e4, e5⟩ := var6 (box6 Hr2.out (.string ⟨#[]⟩) (.int .i64 0) (.int .i64 0) (.int .i64 0) (.string ⟨#[]⟩) (.slice none 0 0))
      have hfin := box6_chg (b := rb) Hc2.out (.inr Hwr.out) (.string ⟨#[]⟩) (.int .i64 0) (.int .i64 0) (.int .i64 0) (.string ⟨#[]⟩) (.slice none 0 0)
      generalize ((((((w2.setCell ⟨rb, 0, none⟩ (.string ⟨#[]⟩)).setCell ⟨rb, 1, none⟩ (.int .i64 0)).setCell ⟨rb, 2, none⟩ (.int .i64 0)).setCell ⟨rb, 3, none⟩ (.int .i64 0)).setCell ⟨rb, 4, none⟩ (.string ⟨#[]⟩)).setCell ⟨rb, 5, none⟩ (.slice none 0 0)) = wf at *
      refine bodyPost_ret (v := .tuple #[.agg zD6, .int .i64 5]) (by simp [results, Tryz.results6, go_sem, e0, e1, e2, e3, e4, e5, zD6]) rfl ⟨hfin, ?_⟩
      rw [Hres.out]
end Go.Proofs.YtnipiphhkcafhaaGreatDoor
