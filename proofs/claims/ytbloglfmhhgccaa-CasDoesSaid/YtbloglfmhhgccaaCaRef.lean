/- The contracts of the document's store. Condition: at most 2^20 objects, of at most 2^47 bytes. -/
import Derived.Test.YtbloglfmhhgccaaCaKey
import Derived.Test.YtbloglfmhhgccaaTxApp


namespace Go.Proofs.Ytbloglfmhhgccaa
set_option linter.unusedVariables false
open Go.ChangeShapes Go.WideShapes Go.ChangeAt Go.RowKit
theorem getO_take {W : Int} {os : List (List UInt8)} {k : List UInt8} {i : Nat} (hi : i < os.length) (h : ∀ b ∈ os.take i, keyL W b ≠ k) (hk : keyL W os[i] = k) : getO W os k = (os[i], true) := by
  unfold getO
  have e : os = os.take i ++ os[i] :: os.drop (i + 1) := drop_at hi
  have hf : os.find? (fun b => decide (keyL W b = k)) = some os[i] := by
    conv => lhs; rw [e]
    rw [List.find?_append, List.find?_eq_none.2 (fun b hb => by simpa using h b hb), List.find?_cons_of_pos (by simpa using hk)]
    rfl
  rw [hf]
theorem getO_no {W : Int} {os : List (List UInt8)} {k : List UInt8} (h : ∀ b ∈ os, keyL W b ≠ k) : getO W os k = ([], false) := by
  unfold getO
  rw [List.find?_eq_none.2 (fun b hb => by simpa using h b hb)]
def GetP (g : List UInt8 × Bool) (w : World) (e : Ending) (w' : World) : Prop := Chg NoB w w' ∧ e = .returned (.tuple #[.string (tx g.1), .bool g.2])
set_option maxHeartbeats 2000000 in
set_option maxRecDepth 20000 in
theorem rget_any (os : List (List UInt8)) (hl : os.length ≤ 1048576) (hb : ∀ b ∈ os, b.length ≤ 140737488351232) (W : Int) (k : List UInt8) (S : Nat → Prop) (v : Value) (kb ko : Nat) (w : World) (hs : TxtS w S v os kb ko) :
    Calls Try.prog 17 #[.agg #[.int .i64 W, v], .string (tx k)] w (GetP (getO W os k) w) := by
  have Hs := Lib.hid hs
  obtain ⟨⟨q, c, rfl, h1, h2, h3⟩, hat⟩ := hs
  have H3 := Lib.hid h3
  have Hat := Lib.hid hat
  obtain ⟨n, hn⟩ : ∃ n, n = os.length := ⟨_, rfl⟩
  rw [← hn] at h1 hl Hs ⊢
  have Hn := Lib.hid hn
  have Hb := Lib.hid hb
  unfold maxLen at h2
  obtain ⟨G, hG⟩ : ∃ G, G = getO W os k := ⟨_, rfl⟩
  rw [← hG]
  have HG := Lib.hid hG
  have hal_ := (Chg.refl NoB w).alloc (.cells #[.int .i64 W, .slice q n c] 28)
  have hb_ := heap_alloc_new w (.cells #[.int .i64 W, .slice q n c] 28)
  obtain ⟨sb, hxb_⟩ : ∃ b, b = w.heap.size := ⟨_, rfl⟩
  obtain ⟨w1, hw_⟩ : ∃ w_, w.alloc (.cells #[.int .i64 W, .slice q n c] 28) = w_ := ⟨_, rfl⟩
  have hz_ : w1.heap.size = sb + 1 := by rw [← hw_, hxb_]; exact alloc_size _ _
  rw [hw_] at hal_ hb_
  rw [← hxb_] at hb_
  have Hw1 := Lib.hid hw_
  have Hx1 := Lib.hid hxb_
  have Ha1 := Lib.hid hal_
  have Hb1 := Lib.hid hb_
  have Hz1 := Lib.hid hz_
  clear hal_ hb_ hxb_ hw_ hz_
  obtain ⟨s0, s1⟩ := var2 Hb1.out
  clear hn h3 hat hb hG
  go_enter Try.func17, Try.ntmps17
  go_upto_region 1 with fail
  rw [Hw1.out, ← Hx1.out]
  go_wp2_with fail
  clear s0 s1
  go_loopw [11] (fun i wr => ∃ j : Nat, j ≤ n ∧ i = .int .i64 j ∧ (∀ b ∈ os.take j, keyL W b ≠ k) ∧ Chg NoB w1 wr) (fun i _ => n - (intOf i).toNat)
  case atStart => exact ⟨0, Nat.zero_le _, rfl, by rw [List.take_zero]; exact (fun b hb => by cases hb), Chg.refl _ _⟩
  case round =>
    obtain ⟨j, hj, rfl, hno, hch⟩ := hrel
    have Hno := Lib.hid hno
    have Hch := Lib.hid hch
    clear hno hch
    by_cases hlt : j < n
    · have hlt' : j < os.length := by rw [← Hn.out]; exact hlt
      obtain ⟨rfl, -⟩ := H3.out (by intro e; rw [e] at hlt'; simp at hlt')
      have c0 := (Ha1.out.trans Hch.out).keep (Hat.out j hlt')
      have Hbj := Lib.hid (Hb.out _ (List.getElem_mem hlt'))
      have Hyes := Lib.hid (getO_take (k := k) hlt' Hno.out)
      have Htk := Lib.hid (take_at hlt')
      generalize os[j] = b at *
      have HK := Lib.hid (rkey_any b Hbj.out W (some ⟨kb, ko, none⟩) n c wr)
      obtain ⟨s0, s1⟩ := var2 (row_kept Hch.out Hb1.out id)
      have he := tx_beq (keyL W b) k
      obtain ⟨kk, hkk0⟩ : ∃ kk, kk = keyL W b := ⟨_, rfl⟩
      rw [← hkk0] at HK he Hyes
      have Hk0 := Lib.hid hkk0
      clear hlt' hkk0
      by_cases hkk : kk = k
      · rw [decide_eq_true hkk] at he
        have Hkk := Lib.hid hkk
        clear hkk
        go_wp2_with fail
        refine HK.out.mono ?_
        rintro e w3 ⟨rfl, hc3⟩
        have Hc3 := Lib.hid (Hch.out.trans hc3)
        clear hc3 s0 s1 c0
        go_wp2_with fail
        go_ret2
        exact ⟨Ha1.out.trans Hc3.out, by rw [HG.out, Hyes.out Hkk.out]; rfl⟩
      · rw [decide_eq_false hkk] at he
        have Hkk := Lib.hid hkk
        clear hkk
        go_wp2_with fail
        refine HK.out.mono ?_
        rintro e w3 ⟨rfl, hc3⟩
        have Hc3 := Lib.hid (Hch.out.trans hc3)
        clear hc3 s0 s1 c0
        go_wp2_with fail
        go_roundw
        case rel => exact ⟨j + 1, by omega, by go_num, by rw [Htk.out]; exact fun x hx => (List.mem_append.1 hx).elim (Hno.out x) fun h => by rw [List.mem_singleton.1 h, ← Hk0.out]; exact Hkk.out, Hc3.out⟩
        case measure => simp [intOf]; omega
    · obtain rfl : j = n := by omega
      have hno : ∀ b ∈ os, keyL W b ≠ k := by have h := Hno.out; rwa [Hn.out, List.take_of_length_le (Nat.le_refl _)] at h
      have Hg := Lib.hid (getO_no hno)
      clear hno hlt
      go_wp2_with fail
      go_ret2
      exact ⟨Ha1.out.trans Hch.out, by rw [HG.out, Hg.out]; rfl⟩
theorem try_val {g1 b : List UInt8} {g2 q : Bool} {r : Int} (hr : r = if g2 = true ∧ g1 ≠ b then 72 else 0) (hq : q = decide (g1 = b)) : (g2 = true → (!q) = true → r = 72) ∧ ((!q) = false → r = 0) ∧ (¬ g2 = true → r = 0) := by
  subst hr hq
  refine ⟨fun h1 h2 => if_pos ⟨h1, by simpa using h2⟩, fun h2 => if_neg (fun h => h.2 (by simpa using h2)), fun h1 => if_neg (fun h => h1 h.1)⟩
set_option maxHeartbeats 4000000 in
set_option maxRecDepth 20000 in
theorem rtry_any (os : List (List UInt8)) (hl : os.length ≤ 1048576) (hb : ∀ b ∈ os, b.length ≤ 140737488351232) (W : Int) (b : List UInt8) (hbl : b.length ≤ 140737488351232) (S : Nat → Prop) (v : Value) (kb ko : Nat) (w : World) (hs : TxtS w S v os kb ko) :
    Calls Try.prog 21 #[.agg #[.int .i64 W, v], .string (tx b)] w (SayI (tryF W os b) w) := by
  have HG := Lib.hid (fun (k : List UInt8) (w' : World) (hc : Chg NoB w w') => rget_any os hl hb W k S v kb ko w' (hs.keep hc fun k _ => id))
  obtain ⟨⟨q, c, rfl, h1, h2, h3⟩, hat⟩ := hs
  have HK := Lib.hid (fun (w' : World) => rkey_any b hbl W q os.length c w')
  clear h1 h2 h3 hat hb hl
  generalize os.length = n at *
  have HG := Lib.hid (HG.out (keyL W b))
  obtain ⟨r, hr⟩ : ∃ r, r = tryF W os b := ⟨_, rfl⟩
  rw [← hr]
  unfold tryF at hr
  have hbz : (tx b).size = b.length := tx_size b
  obtain ⟨g1, hg1⟩ : ∃ g, g = (getO W os (keyL W b)).1 := ⟨_, rfl⟩
  obtain ⟨g2, hg2⟩ : ∃ g, g = (getO W os (keyL W b)).2 := ⟨_, rfl⟩
  unfold GetP at HG
  rw [← hg1, ← hg2] at HG hr
  have Hr := Lib.hid hr
  obtain ⟨bl', hbl'⟩ : ∃ n, n = b.length := ⟨_, rfl⟩
  rw [← hbl'] at hbz hbl Hr
  clear hr hg1 hg2 hbl'
  have he := tx_beq g1 b
  have hal_ := (Chg.refl NoB w).alloc (.cells #[.int .i64 W, .slice q n c] 28)
  have hb_ := heap_alloc_new w (.cells #[.int .i64 W, .slice q n c] 28)
  obtain ⟨sb, hxb_⟩ : ∃ b, b = w.heap.size := ⟨_, rfl⟩
  obtain ⟨w1, hw_⟩ : ∃ w_, w.alloc (.cells #[.int .i64 W, .slice q n c] 28) = w_ := ⟨_, rfl⟩
  have hz_ : w1.heap.size = sb + 1 := by rw [← hw_, hxb_]; exact alloc_size _ _
  rw [hw_] at hal_ hb_
  rw [← hxb_] at hb_
  have Hw1 := Lib.hid hw_
  have Hx1 := Lib.hid hxb_
  have Ha1 := Lib.hid hal_
  have Hb1 := Lib.hid hb_
  have Hz1 := Lib.hid hz_
  clear hal_ hb_ hxb_ hw_ hz_
  obtain ⟨s0, s1⟩ := var2 Hb1.out
  by_cases hbig : 65536 < bl'
  · go_enter Try.func21, Try.ntmps21
    go_upto_region 1 with fail
    rw [Hw1.out, ← Hx1.out]
    go_wp2_with fail
    go_ret
    exact ⟨by rw [Hr.out, if_pos hbig]; rfl, Ha1.out⟩
  · have Hr2 := Lib.hid (Hr.out.trans (if_neg hbig))
    clear Hr
    have Hbig := Lib.hid hbig
    clear hbig
    obtain ⟨eq', heq⟩ : ∃ x, x = decide (g1 = b) := ⟨_, rfl⟩
    rw [← heq] at he
    have Heq := Lib.hid heq
    clear heq
    go_enter Try.func21, Try.ntmps21
    go_upto_region 1 with fail
    rw [Hw1.out, ← Hx1.out]
    have hng : ¬ 65536 < bl' := Hbig.out
    go_upto_region 3 with fail
    go_region_with (first
      | (go_at_call 14; refine (HK.out _).mono ?_; rintro e w2 ⟨rfl, hc2⟩; have Hc2 := Lib.hid (Ha1.out.drew.trans hc2); clear s0 s1; obtain ⟨s0, s1⟩ := var2 (row_kept ((Chg.refl NoB w1).drew.trans hc2) Hb1.out id); clear hc2)
      | (go_at_call 17; refine (HG.out _ Hc2.out).mono ?_; rintro e w3 ⟨hc3, rfl⟩; have Hc3 := Lib.hid (Hc2.out.trans hc3); clear hc3))
    all_goals
      go_wp2_with fail
    all_goals
      go_ret
      first
        | exact ⟨by rw [(try_val Hr2.out Heq.out).1 (by assumption) (by assumption)]; rfl, Hc3.out⟩
        | exact ⟨by rw [(try_val Hr2.out Heq.out).2.1 (by assumption)]; rfl, Hc3.out⟩
        | exact ⟨by rw [(try_val Hr2.out Heq.out).2.2 (by assumption)]; rfl, Hc3.out⟩
def RPutP (W : Int) (os : List (List UInt8)) (b : List UInt8) (S : Nat → Prop) (w : World) (e : Ending) (w' : World) : Prop :=
  Chg NoB w w' ∧ ∃ v' kb' ko', e = .returned (.tuple #[.agg #[.int .i64 W, v'], .string (tx (putK W os b)), .int .i64 (tryF W os b)]) ∧ TxtS w' (fun k => S k ∨ (w.heap.size ≤ k ∧ k < w'.heap.size)) v' (putO W os b) kb' ko'
set_option maxHeartbeats 4000000 in
set_option maxRecDepth 20000 in
theorem rput_any (os : List (List UInt8)) (hl : os.length ≤ 524288) (hb : ∀ b ∈ os, b.length ≤ 140737488351232) (W : Int) (b : List UInt8) (hbl : b.length ≤ 140737488351232) (S : Nat → Prop) (v : Value) (kb ko : Nat) (w : World) (hs : TxtS w S v os kb ko) :
    Calls Try.prog 12 #[.agg #[.int .i64 W, v], .string (tx b)] w (RPutP W os b S w) := by
  have HT := Lib.hid (fun (w' : World) (hc : Chg NoB w w') => rtry_any os (by omega) hb W b hbl S v kb ko w' (hs.keep hc fun k _ => id))
  have HG := Lib.hid (fun (w' : World) (hc : Chg NoB w w') => rget_any os (by omega) hb W (keyL W b) S v kb ko w' (hs.keep hc fun k _ => id))
  have Hs := Lib.hid hs
  obtain ⟨⟨q, c, rfl, h1, h2, h3⟩, hat⟩ := hs
  have HK := Lib.hid (fun (w' : World) q n c => rkey_any b hbl W q n c w')
  clear h3 hat hb
  obtain ⟨n, hn⟩ : ∃ n, n = os.length := ⟨_, rfl⟩
  rw [← hn] at HT HG Hs h1 hl ⊢
  have Hn := Lib.hid hn
  obtain ⟨r, hr⟩ : ∃ r, r = tryF W os b := ⟨_, rfl⟩
  rw [← hr] at HT
  have Hr := Lib.hid hr
  clear hn hr
  have hal_ := (Chg.refl NoB w).alloc (.cells #[.int .i64 W, .slice q n c] 28)
  have hb_ := heap_alloc_new w (.cells #[.int .i64 W, .slice q n c] 28)
  obtain ⟨sb, hxb_⟩ : ∃ b, b = w.heap.size := ⟨_, rfl⟩
  obtain ⟨w1, hw_⟩ : ∃ w_, w.alloc (.cells #[.int .i64 W, .slice q n c] 28) = w_ := ⟨_, rfl⟩
  have hz_ : w1.heap.size = sb + 1 := by rw [← hw_, hxb_]; exact alloc_size _ _
  rw [hw_] at hal_ hb_
  rw [← hxb_] at hb_
  have Hw1 := Lib.hid hw_
  have Hx1 := Lib.hid hxb_
  have Ha1 := Lib.hid hal_
  have Hb1 := Lib.hid hb_
  have Hz1 := Lib.hid hz_
  clear hal_ hb_ hxb_ hw_ hz_
  have hal_ := (Chg.refl NoB w1).alloc (.cells #[.int .i64 0, .slice none 0 0] 28)
  have hb_ := heap_alloc_new w1 (.cells #[.int .i64 0, .slice none 0 0] 28)
  obtain ⟨rb, hxb_⟩ : ∃ b, b = w1.heap.size := ⟨_, rfl⟩
  obtain ⟨w2, hw_⟩ : ∃ w_, w1.alloc (.cells #[.int .i64 0, .slice none 0 0] 28) = w_ := ⟨_, rfl⟩
  have hz_ : w2.heap.size = rb + 1 := by rw [← hw_, hxb_]; exact alloc_size _ _
  rw [hw_] at hal_ hb_
  rw [← hxb_] at hb_
  have Hw2 := Lib.hid hw_
  have Hx2 := Lib.hid hxb_
  have Ha2 := Lib.hid hal_
  have Hb2 := Lib.hid hb_
  have Hz2 := Lib.hid hz_
  clear hal_ hb_ hxb_ hw_ hz_
  have Hc2 := Lib.hid (Ha1.out.trans Ha2.out)
  have hx2 : sb + 1 = rb := by rw [Hx2.out, Hz1.out]
  have Hx12 := Lib.hid hx2
  clear hx2
  obtain ⟨s0, s1⟩ := var2 (row_kept Ha2.out Hb1.out id)
  by_cases h0 : r = 0
  · subst h0
    have hpk : putK W os b = keyL W b := by unfold putK; rw [if_pos Hr.out.symm]
    have Hpk := Lib.hid hpk
    obtain ⟨g, hg⟩ : ∃ g, g = getO W os (keyL W b) := ⟨_, rfl⟩
    rw [← hg] at HG
    have Hpo := Lib.hid (show putO W os b = if g.2 = false then os ++ [b] else os by unfold putO; rw [← Hr.out, ← hg]; simp)
    obtain ⟨g1, g2⟩ := g
    change Hid (putO W os b = if g2 = false then os ++ [b] else os) at Hpo
    clear hg hpk
    change Hid (∀ w', Chg NoB w w' → Calls _ _ _ _ (fun e w'_1 => Chg NoB w' w'_1 ∧ e = .returned (.tuple #[.string (tx g1), .bool g2]))) at HG
    obtain ⟨k, hk⟩ : ∃ k, k = keyL W b := ⟨_, rfl⟩
    rw [← hk] at HK HG Hpk
    clear hk
    go_enter Try.func12, Try.ntmps12
    go_upto_region 1 with fail
    rw [← Hx1.out, Hx12.out, Hw1.out, Hw2.out]
    go_wp2_with fail
    refine (HT.out _ Hc2.out).mono ?_
    rintro e w3 ⟨rfl, hc3⟩
    have Hc3 := Lib.hid (Ha2.out.trans hc3)
    have Hr3 := Lib.hid (row_kept hc3 Hb2.out id)
    have Hs3 := Lib.hid (row_kept Hc3.out Hb1.out id)
    clear hc3 s0 s1
    obtain ⟨s0, s1⟩ := var2 Hs3.out
    go_upto_region 4 with fail
    go_region_with (first
      | (go_at_call 14; refine (HK.out _ _ _ _).mono ?_; rintro e w4 ⟨rfl, hc4⟩; have Hc4 := Lib.hid ((Chg.refl NoB w3).drew.trans hc4); clear s0 s1; obtain ⟨s0, s1⟩ := var2 (row_kept Hc4.out Hs3.out id); clear hc4)
      | (go_at_call 17; refine (HG.out _ (Ha1.out.trans (Hc3.out.trans Hc4.out))).mono ?_; rintro e w5 ⟨hc5, rfl⟩; have Hc5 := Lib.hid (Hc4.out.trans hc5); clear hc5))
    all_goals
      clear s0 s1
      obtain ⟨s0, s1⟩ := var2 (row_kept Hc5.out Hs3.out id)
      cases g2
      · have hal := (Chg.refl NoB w5).alloc (.cells #[] 9)
        have HO := Lib.hid (own_new (size := 1) (heap_alloc_new w5 (.cells #[] 9)))
        have HsA := Lib.hid (Hs.out.keep (Ha1.out.trans (Hc3.out.trans (Hc5.out.trans hal))) fun k _ => id)
        have HbA := Lib.hid hal.size
        have HsbA := Lib.hid (row_kept (Hc5.out.trans hal) Hs3.out id)
        have hs1A := (var2 HsbA.out).2
        clear hal
        have hn0 : n = ([] ++ os).length := by rw [List.nil_append, ← Hn.out]
        have Hn0 := Lib.hid hn0
        have Hn1 := Lib.hid (show n = 0 + n by omega)
        have Hl6 := Lib.hid (show 0 + n ≤ 1048576 by omega)
        have Hl7 := Lib.hid (show n + 1 ≤ 1048576 by omega)
        clear hn0
        go_upto_region 7 with (at_builtin; first
          | (refine wpList_txt rfl _ _ rfl (ts := []) (n := 0) (m := n) (us := os) (v := .slice (some ⟨w5.heap.size, 0, none⟩) 0 0) rfl rfl rfl Hn.out Hn1.out HO.out HsA.out Hl6.out HbA.out ?_; intro v6 w6 hown6 hgr6; have hc6 : Chg NoB w5 w6 := ((Chg.refl NoB w5).alloc (.cells #[] 9)).grown hgr6 (fun j hj => .inr (by cases hj; exact Nat.le_refl _)); have halB := (Chg.refl NoB w6).alloc (.cells #[.string (tx b)] 9); have HB6 := Lib.hid (heap_alloc_new w6 (.cells #[.string (tx b)] 9)); have HO6 := Lib.hid (ownsRow_chg hown6 halB fun _ _ => id); have HbB := Lib.hid (hc6.trans halB).size; have Hc6 := Lib.hid (hc6.trans halB); clear hown6 hgr6 hc6 halB)
          | (refine wpList_txt1 rfl _ _ rfl (ts := [] ++ os) (n := n) (y := b) (v := v6) rfl rfl Hn0.out rfl HO6.out HB6.out Hl7.out HbB.out ?_; intro v7 w7 hown7 hgr7; have Hc7 := Lib.hid (Hc6.out.grown hgr7 (fun j hj => .inr (World.ownsRow.lt HO6.out j hj).1) : Chg NoB w5 w7); obtain ⟨q7, c7, rfl, -, -⟩ := row_shape hown7; have Hown7 := Lib.hid hown7; have s17 := (var2 (row_kept Hc7.out (row_kept Hc5.out Hs3.out id) id)).2; have f17 := row_free (row_kept Hc7.out (row_kept Hc5.out Hs3.out id) id) 1; clear hown7 hgr7))
        have Hs8 := Lib.hid (heap_set (row_kept Hc7.out (row_kept Hc5.out Hs3.out id) id) (i := 1) (.slice q7 (n + 1) c7))
        have hr8 : (w7.setCell ⟨sb, 1, none⟩ (.slice q7 (n + 1) c7)).heap[rb]? = some (.cells #[.int .i64 0, .slice none 0 0] 28 (0, 0)) := row_kept ((Chg.refl (fun k => k = sb) w7).setCell (.inl rfl) _) (row_kept Hc7.out (row_kept Hc5.out Hr3.out id) id) (by intro h; have := Hx12.out; omega)
        have hc8 : Chg NoB w (w7.setCell ⟨sb, 1, none⟩ (.slice q7 (n + 1) c7)) := (Ha1.out.trans (Hc3.out.trans (Hc5.out.trans Hc7.out))).setCell (.inr (by show _ ≤ sb; rw [Hx1.out]; exact Nat.le_refl _)) _
        have hown8 := ownsRow_chg Hown7.out ((Chg.refl (fun k => k = sb) w7).setCell (p := ⟨sb, 1, none⟩) (.inl rfl) (.slice q7 (n + 1) c7)) fun j hj h => by have := (World.ownsRow.lt Hown7.out j hj).1; have := lt_of_block (row_kept Hc5.out Hs3.out id); omega
        have hlen8 : n + 1 = (putO W os b).length := by rw [Hpo.out]; simp; rw [← Hn.out]
        have htx8 : txV ([] ++ os ++ [b]) = txV (putO W os b) := by rw [Hpo.out]; simp
        rw [htx8, hlen8] at hown8
        obtain ⟨kb8, ht8⟩ := TxtS.of_row hown8
        rw [← hlen8] at ht8
        have hge := (Ha1.out.trans (Hc3.out.trans Hc5.out)).size
        have hrb5 := lt_of_block (row_kept Hc5.out Hr3.out id)
        have HF8 := Lib.hid (fun w' (h1 : Chg NoB w w') (h2 : Chg (fun k => k = rb) (w7.setCell ⟨sb, 1, none⟩ (.slice q7 (n + 1) c7)) w') => ((ht8.keep h2 fun k hk e => by have := hk.1; omega).mono (T := fun k => S k ∨ (w.heap.size ≤ k ∧ k < w'.heap.size)) fun k h => .inr ⟨Nat.le_trans hge h.1, Nat.lt_of_lt_of_le h.2 h2.size⟩))
        have Hr8 := Lib.hid hr8
        have Hc8 := Lib.hid hc8
        clear hr8 hc8 hown8 hlen8 htx8 ht8 s0 s1 s17 f17 HO HsA HbA HsbA hs1A Hn0 Hl6 Hl7 HB6 HO6 HbB Hc6 hge hrb5
        generalize (w7.setCell ⟨sb, 1, none⟩ (.slice q7 (n + 1) c7)) = w8 at *
        change Hid (w8.heap[sb]? = some (.cells #[.int .i64 W, .slice q7 (n + 1) c7] 28 (0, 0))) at Hs8
        obtain ⟨s0, s1⟩ := var2 Hs8.out
        obtain ⟨r0, r1⟩ := var2 Hr8.out
        have f0 := row_free Hr8.out 0
        have f1 := row_free Hr8.out 1
        go_region_with (first
          | (go_at_call 14; refine (HK.out _ _ _ _).mono ?_; rintro e w9 ⟨rfl, hc9⟩; have hc9' := (Chg.refl NoB w8).drew.trans hc9; clear s0 s1 r0 r1 f0 f1; obtain ⟨s0, s1⟩ := var2 (row_kept hc9' Hs8.out id); have Hr9 := Lib.hid (row_kept hc9' Hr8.out id); obtain ⟨r0, r1⟩ := var2 Hr9.out; have f0 := row_free Hr9.out 0; have f1 := row_free Hr9.out 1; have Hc9 := Lib.hid hc9'; clear hc9 hc9'; skip))
        all_goals
          go_wp2_with fail
          try simp only [Exit.inBlock, Exit.then]
          have hrow := heap_set (heap_set Hr9.out (i := 0) (.int .i64 W)) (i := 1) (.slice q7 (n + 1) c7)
          have hch9 : Chg (fun k => k = rb) w8 ((w9.setCell ⟨rb, 0, none⟩ (.int .i64 W)).setCell ⟨rb, 1, none⟩ (.slice q7 (n + 1) c7)) := (((Hc9.out.mono fun k _ h => h.elim : Chg (fun k => k = rb) w8 w9)).setCell (S := fun k => k = rb) (p := ⟨rb, 0, none⟩) (.inl rfl) _).setCell (S := fun k => k = rb) (p := ⟨rb, 1, none⟩) (.inl rfl) _
          have hch : Chg NoB w ((w9.setCell ⟨rb, 0, none⟩ (.int .i64 W)).setCell ⟨rb, 1, none⟩ (.slice q7 (n + 1) c7)) := ((Hc8.out.trans Hc9.out).setCell (.inr (by show _ ≤ rb; rw [Hx2.out, Hz1.out, Hx1.out]; omega)) _).setCell (.inr (by show _ ≤ rb; rw [Hx2.out, Hz1.out, Hx1.out]; omega)) _
          exact bodyPost_ret (results_cell3 rfl _ rfl (run_loadVar_row _ _ _ _ _ _ _ hrow (Try.underlying28) rfl rfl)) rfl ⟨hch, _, _, _, by rw [Hpk.out, ← Hr.out]; rfl, HF8.out _ hch hch9⟩
      · have HF8 := Lib.hid (show ∀ w', Chg NoB w w' → Chg (fun k => k = rb) w5 w' → TxtS w' (fun k => S k ∨ (w.heap.size ≤ k ∧ k < w'.heap.size)) (.slice q n c) (putO W os b) kb ko from fun w' h1 h2 => by
          have h3 : putO W os b = os := by rw [Hpo.out]; rfl
          rw [h3]
          exact (Hs.out.keep h1 fun k _ => id).mono (T := fun k => S k ∨ (w.heap.size ≤ k ∧ k < w'.heap.size)) fun k h => .inl h)
        have Hr8 := Lib.hid (row_kept Hc5.out Hr3.out id)
        have Hs8 := Lib.hid (row_kept Hc5.out Hs3.out id)
        have Hc8 := Lib.hid (Ha1.out.trans (Hc3.out.trans Hc5.out))
        clear s0 s1
        obtain ⟨w8, hw8⟩ : ∃ w8, w8 = w5 := ⟨_, rfl⟩
        rw [← hw8] at HF8 Hr8 Hs8 Hc8
        obtain ⟨s0, s1⟩ := var2 Hs8.out
        rw [hw8] at s0 s1
        go_upto_region 7 with fail
        clear s0 s1
        rw [← hw8]
        clear hw8
        obtain ⟨s0, s1⟩ := var2 Hs8.out
        obtain ⟨r0, r1⟩ := var2 Hr8.out
        have f0 := row_free Hr8.out 0
        have f1 := row_free Hr8.out 1
        go_region_with (first
          | (go_at_call 14; refine (HK.out _ _ _ _).mono ?_; rintro e w9 ⟨rfl, hc9⟩; have hc9' := (Chg.refl NoB w8).drew.trans hc9; clear s0 s1 r0 r1 f0 f1; obtain ⟨s0, s1⟩ := var2 (row_kept hc9' Hs8.out id); have Hr9 := Lib.hid (row_kept hc9' Hr8.out id); obtain ⟨r0, r1⟩ := var2 Hr9.out; have f0 := row_free Hr9.out 0; have f1 := row_free Hr9.out 1; have Hc9 := Lib.hid hc9'; clear hc9 hc9'; skip))
        all_goals
          go_wp2_with fail
          try simp only [Exit.inBlock, Exit.then]
          have hrow := heap_set (heap_set Hr9.out (i := 0) (.int .i64 W)) (i := 1) (.slice q n c)
          have hch9 : Chg (fun k => k = rb) w8 ((w9.setCell ⟨rb, 0, none⟩ (.int .i64 W)).setCell ⟨rb, 1, none⟩ (.slice q n c)) := (((Hc9.out.mono fun k _ h => h.elim : Chg (fun k => k = rb) w8 w9)).setCell (S := fun k => k = rb) (p := ⟨rb, 0, none⟩) (.inl rfl) _).setCell (S := fun k => k = rb) (p := ⟨rb, 1, none⟩) (.inl rfl) _
          have hch : Chg NoB w ((w9.setCell ⟨rb, 0, none⟩ (.int .i64 W)).setCell ⟨rb, 1, none⟩ (.slice q n c)) := ((Hc8.out.trans Hc9.out).setCell (.inr (by show _ ≤ rb; rw [Hx2.out, Hz1.out, Hx1.out]; omega)) _).setCell (.inr (by show _ ≤ rb; rw [Hx2.out, Hz1.out, Hx1.out]; omega)) _
          exact bodyPost_ret (results_cell3 rfl _ rfl (run_loadVar_row _ _ _ _ _ _ _ hrow (Try.underlying28) rfl rfl)) rfl ⟨hch, _, _, _, by rw [Hpk.out, ← Hr.out]; rfl, HF8.out _ hch hch9⟩
  · have hpk : putK W os b = [] := by unfold putK; rw [if_neg (by rw [← Hr.out]; exact h0)]
    have hpo : putO W os b = os := by unfold putO; rw [if_neg (fun h => h0 (by rw [Hr.out]; exact h.1))]
    have Hpk := Lib.hid hpk
    have Hpo := Lib.hid hpo
    have hne0 : (r == 0) = false := by rw [beq_eq_false_iff_ne]; exact h0
    have hne1 : (r != 0) = true := by simp [bne, hne0]
    clear hpk hpo h0
    go_enter Try.func12, Try.ntmps12
    go_upto_region 1 with fail
    rw [← Hx1.out, Hx12.out, Hw1.out, Hw2.out]
    go_wp2_with fail
    refine (HT.out _ Hc2.out).mono ?_
    rintro e w3 ⟨rfl, hc3⟩
    have Hc3 := Lib.hid (Ha2.out.trans hc3)
    have Hr3 := Lib.hid (row_kept hc3 Hb2.out id)
    clear s0 s1
    obtain ⟨s0, s1⟩ := var2 (row_kept Hc3.out Hb1.out id)
    obtain ⟨r0, r1⟩ := var2 Hr3.out
    have f0 := row_free Hr3.out 0
    have f1 := row_free Hr3.out 1
    clear hc3
    go_wp2_with fail
    try simp only [Exit.inBlock, Exit.then]
    have hrow : ((w3.setCell ⟨rb, 0, none⟩ (.int .i64 W)).setCell ⟨rb, 1, none⟩ (.slice q n c)).heap[rb]? = some (.cells #[.int .i64 W, .slice q n c] 28 (0, 0)) := heap_set (heap_set Hr3.out _) _
    have hch : Chg NoB w ((w3.setCell ⟨rb, 0, none⟩ (.int .i64 W)).setCell ⟨rb, 1, none⟩ (.slice q n c)) := ((Ha1.out.trans Hc3.out).setCell (.inr (by show _ ≤ rb; rw [Hx2.out, Hz1.out, Hx1.out]; omega)) _).setCell (.inr (by show _ ≤ rb; rw [Hx2.out, Hz1.out, Hx1.out]; omega)) _
    refine bodyPost_ret (results_cell3 rfl _ rfl (run_loadVar_row _ _ _ _ _ _ _ hrow (Try.underlying28) rfl rfl)) rfl ⟨hch, _, kb, ko, by rw [Hpk.out, ← Hr.out]; rfl, ?_⟩
    rw [Hpo.out]
    exact (Hs.out.keep hch fun k _ => id).mono fun k h => .inl h
end Go.Proofs.Ytbloglfmhhgccaa
