/- Proved: the statement CasHolds holds for every width and list of texts. No condition beyond the statement's own. -/
import Derived.Test.YtbloglfmhhgccaaCaTwo


namespace Go.Proofs.Ytbloglfmhhgccaa
set_option linter.unusedVariables false
open Go.ChangeShapes Go.WideShapes Go.ChangeAt Go.RowKit
open Go.ChangeMaps (open_string shut_string)
structure HS (w : World) (lo sb ob : Nat) (W : Int) (j : Nat) (bs : List (List UInt8)) (v6 v7 : Value) : Prop where
  os : ∃ os ps, InvO W os ps ∧ StO w lo sb ob W ps ∧ os.length ≤ j ∧ ∀ b ∈ bs, b ∈ os ∧ b.length ≤ 65536
  k6 : w.ownsRow lo 9 1 v6 bs.length (txV (bs.map (keyL W)))
  k7 : w.ownsRow lo 9 1 v7 bs.length (txV bs)
  d6 : ∀ k, v6.ownBlock = some k → v7.ownBlock ≠ some k ∧ ¬ RowB w ob k
  d7 : ∀ k, v7.ownBlock = some k → ¬ RowB w ob k
  lj : bs.length ≤ j
/- behind a put -/
theorem HS.put {w w2 : World} {lo sb ob : Nat} {W : Int} {j : Nat} {bs : List (List UInt8)} {v6 v7 : Value} (h : HS w lo sb ob W j bs v6 v7) {os' : List (List UInt8)} {ps' : List FileL} (hi : InvO W os' ps') (hst : StO w2 lo sb ob W ps') (hl : os'.length ≤ j + 1) (hb : ∀ b ∈ bs, b ∈ os' ∧ b.length ≤ 65536)
    (hc : Chg (PutB ob w) w w2) (hr : ∀ k, RowB w2 ob k → RowB w ob k ∨ w.heap.size ≤ k) : HS w2 lo sb ob W (j + 1) bs v6 v7 := by
  obtain ⟨os, ps, -, hs0, -, -⟩ := h.os
  have hob := hs0.ne.2.2.1
  have n6 : ∀ k, v6.ownBlock = some k → ¬ PutB ob w k := fun k hk e => by
    have := (World.ownsRow.lt h.k6 k hk).1
    rcases e with rfl | e
    · omega
    · exact (h.d6 k hk).2 e
  have n7 : ∀ k, v7.ownBlock = some k → ¬ PutB ob w k := fun k hk e => by
    have := (World.ownsRow.lt h.k7 k hk).1
    rcases e with rfl | e
    · omega
    · exact h.d7 k hk e
  refine ⟨⟨os', ps', hi, hst, hl, hb⟩, ownsRow_chg h.k6 hc n6, ownsRow_chg h.k7 hc n7, fun k hk => ⟨(h.d6 k hk).1, fun e => ?_⟩, fun k hk e => ?_, Nat.le_succ_of_le h.lj⟩
  · rcases hr k e with e | e
    · exact (h.d6 k hk).2 e
    · have := (World.ownsRow.lt h.k6 k hk).2; omega
  · rcases hr k e with e | e
    · exact h.d7 k hk e
    · have := (World.ownsRow.lt h.k7 k hk).2; omega
/- behind both appends -/
theorem HS.two {w w3 w4 : World} {lo sb ob : Nat} {W : Int} {j : Nat} {bs : List (List UInt8)} {v6 v7 v6' v7' : Value} {b : List UInt8} (h : HS w lo sb ob W (j + 1) bs v6 v7) (hlj : bs.length ≤ j) {os : List (List UInt8)} {ps : List FileL} (hi : InvO W os ps) (hst : StO w lo sb ob W ps) (hl : os.length ≤ j + 1) (hb : ∀ x ∈ bs, x ∈ os ∧ x.length ≤ 65536) (hbo : b ∈ os ∧ b.length ≤ 65536)
    (r6 : w3.ownsRow lo 9 1 v6' (bs.length + 1) (txV (bs.map (keyL W) ++ [keyL W b]))) (c6 : Chg (fun k => v6.ownBlock = some k) w w3) (p6 : ∀ k, v6'.ownBlock = some k → v6.ownBlock = some k ∨ w.heap.size ≤ k)
    (r7 : w4.ownsRow lo 9 1 v7' (bs.length + 1) (txV (bs ++ [b]))) (c7 : Chg (fun k => v7.ownBlock = some k) w3 w4) (p7 : ∀ k, v7'.ownBlock = some k → v7.ownBlock = some k ∨ w3.heap.size ≤ k) : HS w4 lo sb ob W (j + 1) (bs ++ [b]) v6' v7' := by
  have hob := hst.ne.2.2.1
  have hsb := hst.ne.2.1
  have hlt6 := fun k hk => World.ownsRow.lt h.k6 k hk
  have hlt7 := fun k hk => World.ownsRow.lt h.k7 k hk
  have hst3 : StO w3 lo sb ob W ps := hst.keepC c6 (fun e => by have := (hlt6 _ e).1; omega) (fun e => by have := (hlt6 _ e).1; omega) fun k hk e => (h.d6 k e).2 hk
  have hr3 : ∀ k, RowB w3 ob k → RowB w ob k := fun k hk => hk.back c6 hst.row_le.2 (fun e => by have := (hlt6 _ e).1; omega)
  have hst4 : StO w4 lo sb ob W ps := hst3.keepC c7 (fun e => by have := (hlt7 _ e).1; omega) (fun e => by have := (hlt7 _ e).1; omega) fun k hk e => h.d7 k e (hr3 k hk)
  have hr4 : ∀ k, RowB w4 ob k → RowB w ob k := fun k hk => hr3 k (hk.back c7 hst3.row_le.2 (fun e => by have := (hlt7 _ e).1; omega))
  have hd6 : ∀ k, v6'.ownBlock = some k → v7.ownBlock ≠ some k ∧ ¬ RowB w ob k ∧ k < w3.heap.size := fun k hk => by
    have hk3 := (World.ownsRow.lt r6 k hk).2
    rcases p6 k hk with e | e
    · exact ⟨(h.d6 k e).1, (h.d6 k e).2, hk3⟩
    · exact ⟨fun x => by have := (hlt7 k x).2; omega, fun x => by have := (hst.rowB x).2; omega, hk3⟩
  refine ⟨⟨os, ps, hi, hst4, hl, fun x hx => ?_⟩, ?_, ?_, fun k hk => ⟨fun e => ?_, fun e => (hd6 k hk).2.1 (hr4 k e)⟩, fun k hk e => ?_, by simp; omega⟩
  · rcases List.mem_append.1 hx with hx | hx
    · exact hb x hx
    · rw [List.mem_singleton.1 hx]; exact hbo
  · rw [List.length_append, List.map_append]
    exact ownsRow_chg r6 c7 fun k hk e => (hd6 k hk).1 e
  · rw [List.length_append]; exact r7
  · rcases p7 k e with x | x
    · exact (hd6 k hk).1 x
    · have := (hd6 k hk).2.2; omega
  · rcases p7 k hk with x | x
    · exact h.d7 k x (hr4 k e)
    · have := (hst.rowB (hr4 k e)).2; have := c6.size; omega
theorem HS.base {w w0 : World} {lo sb ob : Nat} {W : Int} {j : Nat} {bs : List (List UInt8)} {v6 v7 : Value} (h : HS w lo sb ob W j bs v6 v7) (h1 : w0.heap.size ≤ lo) (h2 : w0.heap.size ≤ ob) : (∀ k, PutB ob w k → w0.heap.size ≤ k) ∧ (∀ k, v6.ownBlock = some k → w0.heap.size ≤ k) ∧ ∀ k, v7.ownBlock = some k → w0.heap.size ≤ k := by
  obtain ⟨os, ps, -, hs0, -, -⟩ := h.os
  exact ⟨hs0.putB h2 h1, fun k hk => Nat.le_trans h1 (World.ownsRow.lt h.k6 k hk).1, fun k hk => Nat.le_trans h1 (World.ownsRow.lt h.k7 k hk).1⟩
theorem cell_txt {w : World} {lo n : Nat} {v : Value} {ts : List (List UInt8)} (h : w.ownsRow lo 9 1 v n (txV ts)) (hn : n = ts.length) {g : Nat} (hg : v.ownBlock = some g) {i : Nat} (hi : i < ts.length) : w.cell? ⟨g, i, none⟩ = some (.string (tx ts[i])) := by
  rcases h.2 with ⟨rfl, _⟩ | ⟨g', cap, cur, rfl, _⟩
  · cases hg
  · cases hg
    have := World.ownsRow.cells (g := g') h rfl i _ (txV_at hi)
    rwa [add_zero_off] at this
set_option maxHeartbeats 8000000 in
set_option maxRecDepth 20000 in
theorem casHolds_all (W : Int) (l : List (List UInt8)) (v : Value) (kb ko : Nat) (w : World) (wx : (Lit.int .i64 W).wf = true) (hs : TxtS w (OldB w) v l kb ko) (hr : l.length ≤ 140737488351232 ∧ ∀ t ∈ l, t.length ≤ 140737488351232) :
    Calls Try.prog 4 #[.int .i64 W, v] w fun e w' => e = .returned (.bool true) ∧ Chg NoB w w' := by
  have Hs := Lib.hid (fun w' (h : Chg NoB w w') => hs.keep h fun _ _ => id)
  have HGR := Lib.hid (fun w' (h : Chg NoB w w') => cgreat_any l hr.1 hr.2 (OldB w) v kb ko w' (hs.keep h fun _ _ => id))
  obtain ⟨⟨q, c, rfl, h1, h2, h3⟩, -⟩ := hs
  have H3 := Lib.hid h3
  obtain ⟨n, hn⟩ : ∃ n, n = l.length := ⟨_, rfl⟩
  rw [← hn] at Hs HGR h1 hr ⊢
  have Hn := Lib.hid hn
  have Hrt := Lib.hid hr.2
  unfold maxLen at h2
  have HAL := Lib.hid (calive_any w)
  clear h3 hn wx hr
  go_enter Try.func4, Try.ntmps4
  go_wp2_with fail
  refine HAL.out.mono ?_
  rintro e w1 ⟨rfl, hc1⟩
  have Hc1 := Lib.hid hc1
  clear hc1
  go_wp2_with fail
  refine (HGR.out _ Hc1.out).mono ?_
  rintro e w' ⟨g, rfl, hg, rfl⟩
  have Hg := Lib.hid hg
  clear hg
  cases g with
  | true =>
    go_wp2_with fail
    go_ret
    exact ⟨rfl, Hc1.out⟩
  | false =>
  obtain ⟨hn60, hlen⟩ := Hg.out rfl
  rw [← Hn.out] at hn60
  have Hlen := Lib.hid hlen
  have HN := Lib.hid (new_any W w1)
  clear hlen Hg
  go_wp2_with fail
  refine HN.out.mono ?_
  rintro e w2 ⟨hc2, sb, ob, rfl, hst, hsb, hob, hz2, -, -⟩
  obtain ⟨lo, hlo⟩ : ∃ lo, lo = w1.heap.size + 2 := ⟨_, rfl⟩
  obtain ⟨hst, hrw⟩ := hst w2 lo (Chg.refl _ _) (by omega) (by omega)
  have Hc2 := Lib.hid (Hc1.out.trans hc2)
  have Hob := Lib.hid (show w.heap.size ≤ ob ∧ w.heap.size ≤ lo from by have := Hc1.out.size; omega)
  have Hlo2 := Lib.hid (show lo ≤ w2.heap.size from by omega)
  have HS0 := Lib.hid (show HS w2 lo sb ob W 0 [] (.slice none 0 0) (.slice none 0 0) from ⟨⟨[], [], InvO.nil W, hst, Nat.le_refl _, (fun b hb => by cases hb)⟩, World.ownsRow_nil _ _ _ _, World.ownsRow_nil _ _ _ _, (fun k hk => by cases hk), (fun k hk => by cases hk), Nat.le_refl _⟩)
  clear hst hc2 hsb hob hlo hz2 hrw HN
  go_wp2_with fail
  go_loopw [6, 7, 25] (fun v6 v7 i wr => ∃ (j : Nat) (bs : List (List UInt8)), j ≤ n ∧ i = .int .i64 j ∧ HS wr lo sb ob W j bs v6 v7 ∧ Chg NoB w wr) (fun _ _ i _ => n - (intOf i).toNat)
  case atStart => exact ⟨0, [], Nat.zero_le _, rfl, HS0.out, Hc2.out⟩
  case round =>
    obtain ⟨j, bs, hj, rfl, hh, hcw⟩ := hrel
    have Hh := Lib.hid hh
    have Hcw := Lib.hid hcw
    clear hh hcw
    by_cases hlt : j < n
    · have hlt' : j < l.length := by rw [← Hn.out]; exact hlt
      obtain ⟨rfl, -⟩ := H3.out (by intro e; rw [e] at hlt'; simp at hlt')
      have c0 := (Hs.out wr Hcw.out).at' j hlt'
      have hbl := Hrt.out _ (List.getElem_mem hlt')
      generalize l[j] = b at *
      obtain ⟨os, ps, hi, hst, hol, hbo⟩ := Hh.out.os
      have HP := Lib.hid (put_any os (by omega) b hbl lo sb ob W ps hi wr hst)
      have Hi := Lib.hid hi
      have Hst := Lib.hid hst
      have Hol := Lib.hid hol
      have Hbo := Lib.hid hbo
      obtain ⟨r, hrr⟩ : ∃ r, r = tryF W os b := ⟨_, rfl⟩
      unfold PutC at HP
      rw [← hrr] at HP
      have h37 := try_three W os b
      rw [← hrr] at h37
      have Hrr := Lib.hid hrr
      obtain ⟨pk, hpk⟩ : ∃ z, z = putK W os b := ⟨_, rfl⟩
      rw [← hpk] at HP
      have Hpk := Lib.hid hpk
      have hbl := Lib.hid hbl
      clear hlt' hi hst hol hbo hrr hpk
      go_wp2_with fail
      refine HP.out.mono ?_
      rintro e w3 ⟨rfl, hc3, hr3, ps3, hi3, hst3⟩
      have Hh3 := Lib.hid (Hh.out.put hi3 hst3 (Nat.le_trans (put_len_le W os b) (by have := Hol.out; omega)) (fun x hx => ⟨put_sub (Hbo.out x hx).1, (Hbo.out x hx).2⟩) hc3 hr3)
      have Hc3 := Lib.hid (Hcw.out.above hc3 (Hh.out.base Hob.out.2 Hob.out.1).1)
      have Hi3 := Lib.hid hi3
      have Hst3 := Lib.hid hst3
      clear hc3 hr3 hi3 hst3 HP c0
      rcases h37 with rfl | rfl | rfl
      · have hpk0 : pk = keyL W b := by rw [Hpk.out]; exact put_of_zero Hrr.out.symm
        have Hpk0 := Lib.hid hpk0
        obtain ⟨m, hm⟩ : ∃ m, m = bs.length := ⟨_, rfl⟩
        have hmj : m ≤ j := by rw [hm]; exact Hh.out.lj
        have k6 := Hh3.out.k6
        have k7 := Hh3.out.k7
        rw [← hm] at k6 k7
        have hal6 := (Chg.refl NoB w3).alloc (.cells #[.string (tx pk)] 9)
        have HB6 := Lib.hid (heap_alloc_new w3 (.cells #[.string (tx pk)] 9))
        have HO6 := Lib.hid (ownsRow_chg k6 hal6 fun _ _ => id)
        have K7 := Lib.hid (ownsRow_chg k7 hal6 fun _ _ => id)
        have Hst6 := Lib.hid (Hst3.out.keep hal6)
        have Hal6 := Lib.hid hal6
        have Hm2 := Lib.hid (show m + 1 ≤ 1048576 by omega)
        have Hlo6 := Lib.hid (show lo ≤ (w3.alloc (.cells #[.string (tx pk)] 9)).heap.size from Hst6.out.ne.2.2.2)
        have Hmm := Lib.hid hm
        clear k6 k7 hal6 hm hpk0
        go_wp2_with (at_builtin; first
          | (refine wpList_txt1p rfl _ _ rfl (ts := bs.map (keyL W)) (n := m) (y := pk) (v := u6) rfl rfl (k := m + 1) rfl HO6.out HB6.out Hm2.out Hlo6.out ?_; intro v6' w5 hown6 hgr6 hpl6; have hc6 : Chg (fun k => u6.ownBlock = some k) (w3.alloc (.cells #[.string (tx pk)] 9)) w5 := (Chg.refl _ _).grown hgr6 (fun k hk => .inl hk); have hK7 := ownsRow_chg K7.out hc6 (fun k hk e => (Hh3.out.d6 k e).1 hk); have hal7 := (Chg.refl NoB w5).alloc (.cells #[.string (tx b)] 9); have HB7 := Lib.hid (heap_alloc_new w5 (.cells #[.string (tx b)] 9)); have HO7 := Lib.hid (ownsRow_chg hK7 hal7 fun _ _ => id); have Hlo7 := Lib.hid (show lo ≤ (w5.alloc (.cells #[.string (tx b)] 9)).heap.size from Nat.le_trans Hlo6.out (Nat.le_trans hc6.size hal7.size)); have R6 := Lib.hid (And.intro hown6 (And.intro hc6 (And.intro hpl6 hal7))); clear hown6 hgr6 hpl6 hc6 hK7 hal7)
          | (refine wpList_txt1p rfl _ _ rfl (ts := bs) (n := m) (y := b) (v := u7) rfl rfl (k := m + 1) rfl HO7.out HB7.out Hm2.out Hlo7.out ?_; intro v7' w6 hown7 hgr7 hpl7; have R7 := Lib.hid (And.intro hown7 (And.intro ((Chg.refl _ _).grown hgr7 (fun k hk => .inl hk) : Chg (fun k => u7.ownBlock = some k) (w5.alloc (.cells #[.string (tx b)] 9)) w6) hpl7)); clear hown7 hgr7 hpl7))
        obtain ⟨r6, c6, p6, hal7⟩ := R6.out
        obtain ⟨r7, c7, p7⟩ := R7.out
        have hmem := put_mem Hrr.out.symm
        have Hfin := Lib.hid (show HS w6 lo sb ob W (j + 1) (bs ++ [b]) v6' v7' ∧ Chg NoB w w6 from by
          have hz := Hmm.out
          rw [hz] at r6 r7
          rw [Hpk0.out] at r6
          have hb3 := Hh3.out.base Hob.out.2 Hob.out.1
          have cA : Chg (fun k => u6.ownBlock = some k) w3 (w5.alloc (.cells #[.string (tx b)] 9)) := (Hal6.out.mono fun k _ h => h.elim).trans (c6.trans (hal7.mono fun k _ h => h.elim))
          refine ⟨Hh3.out.two Hh.out.lj Hi3.out Hst3.out (Nat.le_trans (put_len_le W os b) (by have := Hol.out; omega)) (fun x hx => ⟨put_sub (Hbo.out x hx).1, (Hbo.out x hx).2⟩) ⟨hmem.1, (try_ok Hrr.out.symm).1⟩ (ownsRow_chg r6 hal7 fun _ _ => id) cA (fun k hk => ?_) r7 c7 (fun k hk => ?_), (Hc3.out.above cA hb3.2.1).above c7 hb3.2.2⟩
          · rcases p6 with e | e
            · exact .inl (by rw [← e]; exact hk)
            · rw [hk] at e; cases e; exact .inr Hal6.out.size
          · rcases p7 with e | e
            · exact .inl (by rw [← e]; exact hk)
            · rw [hk] at e; cases e; exact .inr (Nat.le_refl _))
        clear r6 c6 p6 hal7 r7 c7 p7 hmem R6 R7
        try go_wp2_with fail
        go_roundw
        case rel => exact ⟨j + 1, bs ++ [b], by omega, by go_num, Hfin.out.1, Hfin.out.2⟩
        case measure => simp [intOf]; omega
      · go_wp2_with fail
        go_roundw
        case rel => exact ⟨j + 1, bs, by omega, by go_num, Hh3.out, Hc3.out⟩
        case measure => simp [intOf]; omega
      · have hpo := put_of_not (W := W) (os := os) (b := b) (by rw [← Hrr.out]; decide)
        obtain ⟨hg1, hg2⟩ := try_clash Hrr.out.symm
        have HK := Lib.hid (key_any b hbl.out sb W _ w3 Hst3.out.row)
        have HG := Lib.hid (fun w' (h : Chg NoB w3 w') => get_any ps3 (by rw [Hi3.out.len]; have := put_len_le W os b; have := Hol.out; omega) lo sb ob W (keyL W b) w' (Hst3.out.keep h))
        rw [Hi3.out.get, hpo, hg1] at HG
        obtain ⟨g1, hgg⟩ : ∃ g, g = (getO W os (keyL W b)).1 := ⟨_, rfl⟩
        rw [← hgg] at HG hg2
        have he := tx_beq g1 b
        rw [decide_eq_false hg2] at he
        obtain ⟨kk, hkk⟩ : ∃ z, z = keyL W b := ⟨_, rfl⟩
        rw [← hkk] at HK HG
        clear hpo hg1 hgg hkk hg2
        go_wp2_with fail
        refine HK.out.mono ?_
        rintro e w4 ⟨rfl, hc4⟩
        have Hc4 := Lib.hid hc4
        clear hc4
        go_wp2_with fail
        refine (HG.out _ Hc4.out).mono ?_
        rintro e w5 ⟨hc5, rfl⟩
        have Hc5 := Lib.hid (Hc4.out.trans hc5)
        clear hc5
        go_wp2_with fail
        have Hfin := Lib.hid (show HS w5 lo sb ob W (j + 1) bs u6 u7 from ⟨by obtain ⟨os', ps', a1, a2, a3, a4⟩ := Hh3.out.os; exact ⟨os', ps', a1, a2.keep Hc5.out, a3, a4⟩, ownsRow_chg Hh3.out.k6 Hc5.out fun _ _ => id, ownsRow_chg Hh3.out.k7 Hc5.out fun _ _ => id, (fun k hk => ⟨(Hh3.out.d6 k hk).1, fun e => (Hh3.out.d6 k hk).2 (e.back Hc5.out Hst3.out.row_le.2 id)⟩), (fun k hk e => Hh3.out.d7 k hk (e.back Hc5.out Hst3.out.row_le.2 id)), Hh3.out.lj⟩)
        go_roundw
        case rel => exact ⟨j + 1, bs, by omega, by go_num, Hfin.out, Hc3.out.trans Hc5.out⟩
        case measure => simp [intOf]; omega
    · obtain rfl : j = n := by omega
      obtain ⟨os, ps, hi, hst, hol, hbo⟩ := Hh.out.os
      have k6 := Hh.out.k6
      have k7 := Hh.out.k7
      have hmj := Hh.out.lj
      obtain ⟨m, hm⟩ : ∃ m, m = bs.length := ⟨_, rfl⟩
      have hml : (bs.map (keyL W)).length = m := by rw [List.length_map, hm]
      rw [← hm] at k6 k7 hmj
      obtain ⟨q6, c6, rfl, h61, h62⟩ := row_shape k6
      obtain ⟨q7, c7, rfl, h71, h72⟩ := row_shape k7
      unfold maxLen at h62 h72
      have Hi := Lib.hid hi
      have Hst := Lib.hid hst
      have Hbo := Lib.hid hbo
      have K6 := Lib.hid k6
      have K7 := Lib.hid k7
      have Hm := Lib.hid hm
      have Hml := Lib.hid hml
      have hol2 : ps.length ≤ 1048576 := by rw [hi.len]; omega
      have Hol := Lib.hid hol2
      obtain ⟨wi, rfl⟩ : ∃ wi : World, wi = wr := ⟨_, rfl⟩
      clear hi hst hbo k6 k7 hm hml hol hol2 hlt hj
      go_wp2_with fail
      go_loopw [65] (fun i wr => ∃ t : Nat, t ≤ m ∧ i = .int .i64 t ∧ Chg NoB wi wr) (fun i _ => m - (intOf i).toNat)
      case atStart => exact ⟨0, Nat.zero_le _, rfl, Chg.refl _ _⟩
      case round =>
        obtain ⟨t, ht, rfl, hcr⟩ := hrel
        have Hcr := Lib.hid hcr
        clear hcr
        by_cases hlt : t < m
        · have hlt7 : t < bs.length := by rw [← Hm.out]; exact hlt
          have hlt6 : t < (bs.map (keyL W)).length := by rw [Hml.out]; exact hlt
          obtain ⟨g6, rfl⟩ : ∃ g, q6 = some ⟨g, 0, none⟩ := by
            rcases K6.out.2 with ⟨e, h0⟩ | ⟨g', cap', cur, e, _⟩
            · omega
            · simp only [Value.slice.injEq] at e; exact ⟨g', e.1⟩
          obtain ⟨g7, rfl⟩ : ∃ g, q7 = some ⟨g, 0, none⟩ := by
            rcases K7.out.2 with ⟨e, h0⟩ | ⟨g', cap', cur, e, _⟩
            · omega
            · simp only [Value.slice.injEq] at e; exact ⟨g', e.1⟩
          have y6 := Hcr.out.keep (cell_txt K6.out Hml.out.symm (g := g6) rfl hlt6)
          have y7 := Hcr.out.keep (cell_txt K7.out Hm.out (g := g7) rfl hlt7)
          have hin := Hbo.out _ (List.getElem_mem hlt7)
          rw [List.getElem_map] at y6
          have HG := Lib.hid (get_any ps Hol.out lo sb ob W (keyL W bs[t]) wr (Hst.out.keep Hcr.out))
          rw [Hi.out.get, Hi.out.has hin.1] at HG
          have hbz : (bs[t]).length ≤ 140737488351232 := by have := hin.2; omega
          generalize bs[t] = b at *
          have HK := Lib.hid (fun w' (h : Chg NoB wr w') => key_any b hbz sb W _ w' ((Hst.out.keep (Hcr.out.trans h)).row))
          obtain ⟨kk, hkk⟩ : ∃ z, z = keyL W b := ⟨_, rfl⟩
          rw [← hkk] at HK HG y6
          have Y67 := Lib.hid (And.intro y6 y7)
          clear hlt6 hlt7 hin hbz hkk
          go_wp2_with fail
          refine HG.out.mono ?_
          rintro e w4 ⟨hc4, rfl⟩
          have Hc4 := Lib.hid hc4
          clear hc4 y6 y7
          have he := tx_beq b b
          rw [decide_eq_true rfl] at he
          go_wp2_with fail
          have hA := And.intro (Hc4.out.keep Y67.out.1) (Hc4.out.keep Y67.out.2)
          have hB := And.intro ((Hc4.out.drew).keep Y67.out.1) ((Hc4.out.drew).keep Y67.out.2)
          go_region_held3 (fun w' => w'.cell? ⟨g6, t, none⟩ = some (.string (tx kk)) ∧ w'.cell? ⟨g7, t, none⟩ = some (.string (tx b)))
            (first | with_reducible exact hA | with_reducible exact hB | with_reducible exact hC)
            ((go_at_call 13; refine (HK.out _ (Hc4.out.drew)).mono ?_; rintro e w5 ⟨rfl, hc5'⟩; have hc5 : Chg NoB wr w5 := Hc4.out.drew.trans hc5'; have hC := And.intro (hc5.keep Y67.out.1) (hc5.keep Y67.out.2)))
          all_goals
            clear hA hB hC
            have hc5 := Lib.hid hc5
            try clear hc5'
            go_wp2_with fail
            go_roundw
            case rel => exact ⟨t + 1, by omega, by go_num, Hcr.out.trans hc5.out⟩
            case measure => simp [intOf]; omega
        · go_wp2_with fail
          go_ret
          exact ⟨rfl, Hcw.out.trans Hcr.out⟩
/-FRAME-/
set_option maxRecDepth 100000 in
theorem casHolds_lifted (os : Os) (started : os.Started) (H : Type) (enc : TypeId × Value → H) :
    ReturnsInHanded {} Try.checked os 4 .any (Rows.casHoldsSpec.pre6 enc Try.prog Try.f4 Rows.casHoldsRow.domain false) (Rows.casHoldsSpec.post enc Try.prog Try.f4 false true false false) := by
  refine returnsInHanded_of_change_sized (C := Try.checked) Try.own started (by kernel_rfl) Try.func4
    (ChangeSpec.witness6 (enc := enc) (C := Try.checked) false ⟨#[], #[.int .i64 0, .slice none 0 0], []⟩ 8 (by kernel_rfl) (by kernel_rfl) (by kernel_rfl) (by kernel_rfl)) ?_
  intro W base args ds gs before hval0 hW hcnd hsz0 _
  have hval : ∀ (j : Nat) t v, Try.f4.params[j]? = some t → args[j]? = some v → Value.okWide Try.prog W .any base t v := hval0
  have hW' := hW
  obtain ⟨p, q, hA0, hV, rfl, _, _⟩ := hW
  have hA : DataW.TrodAll enc Try.prog W 0 (fun _ => true) true Try.f4.params.toList args.toList ds p := hA0
  have hsz1 : (DataW.weightsEach Try.prog (Try.f4.params.toList ++ Rows.casHoldsSpec.plain.varTypes Try.prog) (ds ++ gs)).all (· ≤ reachBytes) = true := hsz0
  rw [Try.params4] at hA hval hsz1
  obtain ⟨v0, v1, d0, d1, p0, p1, rfl, rfl, rfl, h0, h1⟩ := trodAll_two hA
  obtain ⟨rfl, rfl⟩ := trodVars_none hV
  obtain ⟨x0, rfl, rfl, rfl, wx0⟩ := open_int Try.underlying3 (hval 0 3 v0 rfl rfl) h0
  obtain ⟨l1, kb1, ko1, hn1, hr1⟩ := open_texts (hval 1 22 v1 rfl rfl) h1 (fun m hm => of_decide_eq_true (List.all_eq_true.1 hsz1 m (DataW.weights_mem_each (j := 1) (t := 22) (d := d1) rfl rfl m hm)))
  clear hA0 hval0 hsz0
  refine (casHolds_all x0 l1 _ kb1 ko1 W wx0 hn1 hr1 ).mono fun e W' ⟨he, hb⟩ => ?_
  subst he
  exact ⟨_, rfl, _, _, _, [], _, [], hW', trodAll_mk1 (shut_bool Try.underlying4 _), (trodAll_cons_mk (shut_int Try.underlying3 wx0) (trodAll_cons_mk (texts_stay h1 hb.below) trodAll_mk0)), rfl, hb.below.frame _, fun h => by cases h⟩
theorem casHolds_holds : Rows.CasHoldsSaid :=
  OpenClaim.holds_of_wide 4 Try.f4 rfl rfl rfl rfl rfl rfl rfl ⟨rfl, rfl, rfl, rfl, rfl⟩ rfl rfl rfl rfl rfl (by kernel_rfl) Try.func4 (by kernel_rfl)
    (of_decide_eq_true (by kernel_rfl)) (by unfold Func.isWrapper; first | (rw [if_pos (by decide +kernel)]; kernel_rfl) | (rw [if_neg (by decide +kernel)]; exact ⟨rfl, rfl⟩))
    (fun os started H enc _ => casHolds_lifted os started H enc)
#print axioms casHolds_holds
end Go.Proofs.Ytbloglfmhhgccaa
