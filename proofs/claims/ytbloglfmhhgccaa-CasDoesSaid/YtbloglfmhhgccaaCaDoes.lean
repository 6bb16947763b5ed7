/- Proved: the statement CasDoes holds for every width, list of texts and key. No condition beyond the statement's own. -/
import Derived.Test.YtbloglfmhhgccaaCaTwo
import Derived.Test.YtbloglfmhhgccaaCaRef


namespace Go.Proofs.Ytbloglfmhhgccaa
set_option linter.unusedVariables false
open Go.ChangeShapes Go.WideShapes Go.ChangeAt Go.RowKit Go.Shelf
open Go.ChangeMaps (open_string shut_string)
attribute [local go_sem] Oper.semAt_some
structure MS (w : World) (lo mb ob : Nat) (W : Int) (os : List (List UInt8)) (v : Value) (kb ko : Nat) : Prop where
  row : w.heap[mb]? = some (.cells #[.int .i64 W, v] 28 (0, 0))
  txt : TxtS w (fun k => lo ≤ k ∧ ¬ RowB w ob k) v os kb ko
theorem TxtS.low {w : World} {S : Nat → Prop} {v : Value} {ts : List (List UInt8)} {kb ko : Nat} (h : TxtS w S v ts kb ko) (hn : ts ≠ []) : kb < w.heap.size := by
  have h0 : 0 < ts.length := by cases ts with | nil => exact absurd rfl hn | cons a r => simp
  exact cell_lt (h.at' 0 h0)
theorem TxtS.move {w w' : World} {S S' : Nat → Prop} {v : Value} {ts : List (List UInt8)} {kb ko : Nat} (h : TxtS w S v ts kb ko) {T : Nat → Prop} (hc : Chg T w w') (hST : ∀ k, k < w.heap.size → S k → ¬ T k ∧ S' k) : TxtS w' S' v ts kb ko := by
  obtain ⟨q, c, e, h1, h2, h3⟩ := h.sh
  refine ⟨⟨q, c, e, h1, h2, fun hn => ⟨(h3 hn).1, (hST kb (h.low hn) (h3 hn).2).2⟩⟩, fun i hi => ?_⟩
  have hne : ts ≠ [] := by rintro rfl; simp at hi
  exact hc.cell (h.at' i hi) (hST kb (h.low hne) (h3 hne).2).1
theorem MS.put {w w' : World} {lo mb ob sb : Nat} {W : Int} {os : List (List UInt8)} {v : Value} {kb ko : Nat} {ps : List FileL} (h : MS w lo mb ob W os v kb ko) (hst : StO w lo sb ob W ps) (hmb : mb ≠ ob ∧ mb < lo) (hc : Chg (PutB ob w) w w') (hr : ∀ k, RowB w' ob k → RowB w ob k ∨ w.heap.size ≤ k) : MS w' lo mb ob W os v kb ko :=
  ⟨row_kept hc h.row (by rintro (e | e); exact hmb.1 e; have := (hst.rowB e).1; omega), h.txt.move hc fun k hk hs => ⟨by rintro (e | e); have := hst.ne.2.2.1; omega; exact hs.2 e, hs.1, fun e => by rcases hr k e with e | e; exact hs.2 e; omega⟩⟩
theorem MS.keep {w w' : World} {lo mb ob : Nat} {W : Int} {os : List (List UInt8)} {v : Value} {kb ko : Nat} (h : MS w lo mb ob W os v kb ko) (hc : Chg NoB w w') (hob : ob < w.heap.size) : MS w' lo mb ob W os v kb ko :=
  ⟨row_kept hc h.row id, h.txt.move hc fun k hk hs => ⟨id, hs.1, fun e => hs.2 (e.back hc hob id)⟩⟩
set_option maxHeartbeats 8000000 in
set_option maxRecDepth 100000 in
theorem casDoes_all (W : Int) (l : List (List UInt8)) (v : Value) (kb ko : Nat) (key : ByteArray) (w : World) (wx : (Lit.int .i64 W).wf = true) (hs : TxtS w (OldB w) v l kb ko) (hr : l.length ≤ 140737488351232 ∧ ∀ t ∈ l, t.length ≤ 140737488351232) (hk : key.size ≤ 140737488351232) :
    Calls Try.prog 3 #[.int .i64 W, v, .string key] w fun e w' => e = .returned (.bool true) ∧ Chg NoB w w' := by
  obtain ⟨key, rfl⟩ : ∃ k, key = tx k := ⟨key.data.toList, (tx_back key).symm⟩
  have Hs := Lib.hid (fun w' (h : Chg NoB w w') => hs.keep h fun _ _ => id)
  have HGR := Lib.hid (fun w' (h : Chg NoB w w') => cgreat_any l hr.1 hr.2 (OldB w) v kb ko w' (hs.keep h fun _ _ => id))
  obtain ⟨⟨q, c, rfl, h1, h2, h3⟩, -⟩ := hs
  have H3 := Lib.hid h3
  obtain ⟨n, hn⟩ : ∃ n, n = l.length := ⟨_, rfl⟩
  rw [← hn] at Hs HGR h1 hr ⊢
  have Hn := Lib.hid hn
  have Hrt := Lib.hid hr.2
  unfold maxLen at h2
  obtain ⟨kn, hkn⟩ : ∃ z, z = key.length := ⟨_, rfl⟩
  have hkz : (tx key).size = kn := by rw [tx_size, hkn]
  rw [tx_size, ← hkn] at hk
  have Hkn := Lib.hid hkn
  clear h3 hn wx hr hkn
  have hal_ := (Chg.refl NoB w).alloc (.cells #[.bool false] 4)
  have hb_ := heap_alloc_new w (.cells #[.bool false] 4)
  obtain ⟨rb, hxb_⟩ : ∃ b, b = w.heap.size := ⟨_, rfl⟩
  obtain ⟨w0, hw_⟩ : ∃ w_, w.alloc (.cells #[.bool false] 4) = w_ := ⟨_, rfl⟩
  have hz_ : w0.heap.size = rb + 1 := by rw [← hw_, hxb_]; exact alloc_size _ _
  rw [hw_] at hal_ hb_
  rw [← hxb_] at hb_
  have Hw0 := Lib.hid hw_
  have Hx0 := Lib.hid hxb_
  have Ha0 := Lib.hid hal_
  have Hb0 := Lib.hid hb_
  have Hz0 := Lib.hid hz_
  clear hal_ hb_ hxb_ hw_ hz_
  have HAL := Lib.hid (calive_any w0)
  have Hrb := Lib.hid (show w.heap.size ≤ rb by rw [Hx0.out]; exact Nat.le_refl _)
  refine (callsIn_wide (n := 4)).1 ?_
  refine callsIn_of_wp_marks Try.func3 rfl trivial ?_ rfl
  simp only [Try.ntmps3, List.size_toArray, List.length_cons, List.length_nil, Nat.reduceAdd, Nat.reduceSub, Array.replicate_succ, Array.replicate_zero, List.push_toArray, List.append_toArray, List.nil_append, List.cons_append]
  refine wpIn_wide.2 ?_
  go_wp2_with fail
  rw [Hw0.out, ← Hx0.out]
  refine HAL.out.mono ?_
  rintro e w1 ⟨rfl, hc1⟩
  have Hc1 := Lib.hid (Ha0.out.trans hc1)
  have HR1 := Lib.hid (row_kept hc1 Hb0.out id)
  clear hc1
  go_wp2_with fail
  refine (HGR.out _ Hc1.out).mono ?_
  rintro e w' ⟨g, rfl, hg, rfl⟩
  have Hg := Lib.hid hg
  clear hg
  have r0 := var1 HR1.out
  have rf := row_free HR1.out 0
  cases g with
  | true =>
    go_wp2_with fail
    have e0 := var1 (heap_set HR1.out (i := 0) (.bool true))
    have hfin := Hc1.out.setCell (p := ⟨rb, 0, none⟩) (.inr Hrb.out) (.bool true)
    generalize w1.setCell ⟨rb, 0, none⟩ (.bool true) = wf at *
    exact ⟨.bool true, by simp [results, Try.f3, go_sem, e0], rfl, hfin⟩
  | false =>
  by_cases hkbig : 1024 < kn
  · go_wp2_with fail
    have e0 := var1 (heap_set HR1.out (i := 0) (.bool true))
    have hfin := Hc1.out.setCell (p := ⟨rb, 0, none⟩) (.inr Hrb.out) (.bool true)
    generalize w1.setCell ⟨rb, 0, none⟩ (.bool true) = wf at *
    exact ⟨.bool true, by simp [results, Try.f3, go_sem, e0], rfl, hfin⟩
  obtain ⟨hn60, hlen⟩ := Hg.out rfl
  rw [← Hn.out] at hn60
  have HN := Lib.hid (new_any W w1)
  clear hlen Hg r0 rf
  go_wp2_with fail
  refine HN.out.mono ?_
  rintro e w2 ⟨hc2, sb, ob, rfl, hst, hsb, hob, hz2, hs2, ho2⟩
  have H2 := Lib.hid (And.intro hc2 (And.intro hst (And.intro hsb (And.intro hob (And.intro hz2 (And.intro hs2 ho2))))))
  clear hc2 hst hsb hob hz2 hs2 ho2 HN
  have hal_ := (Chg.refl NoB w2).alloc (.cells #[.int .i64 W, .slice none 0 0] 28)
  have hb_ := heap_alloc_new w2 (.cells #[.int .i64 W, .slice none 0 0] 28)
  obtain ⟨mb, hxb_⟩ : ∃ b, b = w2.heap.size := ⟨_, rfl⟩
  obtain ⟨w3, hw_⟩ : ∃ w_, w2.alloc (.cells #[.int .i64 W, .slice none 0 0] 28) = w_ := ⟨_, rfl⟩
  have hz_ : w3.heap.size = mb + 1 := by rw [← hw_, hxb_]; exact alloc_size _ _
  rw [hw_] at hal_ hb_
  rw [← hxb_] at hb_
  have Hw3 := Lib.hid hw_
  have Hx3 := Lib.hid hxb_
  have Ha3 := Lib.hid hal_
  have Hb3 := Lib.hid hb_
  have Hz3 := Lib.hid hz_
  clear hal_ hb_ hxb_ hw_ hz_
  obtain ⟨hc2, hst, hsb, hob, hz2, hs2, ho2⟩ := H2.out
  obtain ⟨lo, hlo⟩ : ∃ lo, lo = w3.heap.size := ⟨_, rfl⟩
  have hzz := Hz3.out
  have hxx := Hx3.out
  obtain ⟨hst3, hrw3⟩ := hst w3 lo Ha3.out (by omega) (by omega)
  have Hc3 := Lib.hid (Hc1.out.trans (hc2.trans Ha3.out))
  have HR3 := Lib.hid (row_kept (hc2.trans Ha3.out) HR1.out id)
  have Hob := Lib.hid (show w.heap.size ≤ ob ∧ w.heap.size ≤ mb ∧ w.heap.size ≤ lo ∧ mb ≠ ob ∧ mb < lo ∧ rb < lo ∧ rb ≠ ob ∧ rb ≠ mb from by have := Hc1.out.size; have := lt_of_block HR1.out; omega)
  have HM3 := Lib.hid (show MS w3 lo mb ob W [] (.slice none 0 0) 0 0 from ⟨Hb3.out, TxtS.nil _ _⟩)
  have Hst3 := Lib.hid hst3
  clear hc2 hst hsb hob hz2 hs2 ho2 hlo hzz hxx hst3 hrw3 H2
  go_wp2_with fail
  rw [Hw3.out, ← Hx3.out]
  go_loopw [41] (fun i wr => ∃ (j : Nat) (os : List (List UInt8)) (ps : List FileL) (mv : Value) (mk mo : Nat), j ≤ n ∧ i = .int .i64 j ∧ os.length ≤ j ∧ (∀ b ∈ os, b.length ≤ 65536) ∧ InvO W os ps ∧ StO wr lo sb ob W ps ∧ MS wr lo mb ob W os mv mk mo ∧ wr.heap[rb]? = some (.cells #[.bool false] 4 (0, 0)) ∧ Chg NoB w wr) (fun i _ => n - (intOf i).toNat)
  case atStart => exact ⟨0, [], [], _, 0, 0, Nat.zero_le _, rfl, Nat.le_refl _, (fun b hb => by cases hb), InvO.nil W, Hst3.out, HM3.out, HR3.out, Hc3.out⟩
  case round =>
    obtain ⟨j, os, ps, mv, mk, mo, hj, rfl, hol, hob, hi, hst, hms, hrr, hcw⟩ := hrel
    have Hol := Lib.hid hol
    have Hbo := Lib.hid hob
    have Hi := Lib.hid hi
    have Hst := Lib.hid hst
    have Hms := Lib.hid hms
    have HRr := Lib.hid hrr
    have Hcw := Lib.hid hcw
    clear hol hob hi hst hms hrr hcw
    by_cases hlt : j < n
    · have hlt' : j < l.length := by rw [← Hn.out]; exact hlt
      obtain ⟨rfl, -⟩ := H3.out (by intro e; rw [e] at hlt'; simp at hlt')
      have c0 := (Hs.out wr Hcw.out).at' j hlt'
      have hbl := Hrt.out _ (List.getElem_mem hlt')
      generalize l[j] = b at *
      have HT := Lib.hid (try_any os (by have := Hol.out; omega) b hbl lo sb ob W ps Hi.out wr Hst.out)
      have HP := Lib.hid (fun w' (h : Chg NoB wr w') => put_any os (by have := Hol.out; omega) b hbl lo sb ob W ps Hi.out w' (Hst.out.keep h))
      have HK := Lib.hid (fun w' (h : w'.heap[sb]? = _) => key_any b hbl sb W (.pointer (some ⟨ob, 0, none⟩)) w' h)
      have HRK := Lib.hid (fun w' q n c => rkey_any b hbl W q n c w')
      have Hbl := Lib.hid hbl
      unfold PutC at HP
      obtain ⟨r, hrr⟩ : ∃ r, r = tryF W os b := ⟨_, rfl⟩
      obtain ⟨pk, hpk⟩ : ∃ r, r = putK W os b := ⟨_, rfl⟩
      rw [← hrr] at HT HP
      rw [← hpk] at HP
      have Hrr := Lib.hid hrr
      have Hpk := Lib.hid hpk
      clear hlt' hbl hrr hpk
      go_wp2_with fail
      refine HT.out.mono ?_
      rintro e w4 ⟨rfl, hc4⟩
      have Hc4 := Lib.hid hc4
      clear hc4 c0
      go_wp2_with fail
      refine (HP.out _ Hc4.out).mono ?_
      rintro e w5 ⟨rfl, hc5, hr5, ps5, hi5, hst5⟩
      have hst4 := Hst.out.keep Hc4.out
      have hms4 := Hms.out.keep Hc4.out Hst.out.row_le.2
      have hms5 := hms4.put hst4 ⟨Hob.out.2.2.2.1, Hob.out.2.2.2.2.1⟩ hc5 hr5
      have hcc5 := (Hcw.out.trans Hc4.out).above hc5 (hst4.putB Hob.out.1 Hob.out.2.2.1)
      have hR5 := row_kept hc5 (row_kept Hc4.out HRr.out id) (by rintro (e | e); exact Hob.out.2.2.2.2.2.2.1 e; have := (hst4.rowB e).1; have := Hob.out.2.2.2.2.2.1; omega)
      have HRP := Lib.hid (rput_any os (by have := Hol.out; omega) (fun x hx => by have := Hbo.out x hx; omega) W b Hbl.out _ mv mk mo w5 hms5.txt)
      obtain ⟨s0, s1⟩ := var2 hms5.row
      obtain ⟨mq, mc, hmv, hmv1, hmv2, hmv3⟩ := hms5.txt.sh
      subst hmv
      have Hms5 := Lib.hid hms5
      have Hst5 := Lib.hid hst5
      have Hi5 := Lib.hid hi5
      have Hc5 := Lib.hid hcc5
      have HR5 := Lib.hid hR5
      obtain ⟨on, hon⟩ : ∃ z, z = os.length := ⟨_, rfl⟩
      rw [← hon] at s1 HRP Hms5 Hms
      unfold RPutP at HRP
      rw [← Hrr.out, ← Hpk.out] at HRP
      have Hon := Lib.hid hon
      clear hst4 hms4 hms5 hcc5 hc5 hr5 hst5 hi5 hR5 hmv1 hmv2 hmv3 hon HT HP
      go_wp2_with fail
      refine HRP.out.mono ?_
      rintro e w6 ⟨hc6, v6, kb6, ko6, rfl, ht6⟩
      obtain ⟨q6, c6, hv6, h61, h62, h63⟩ := ht6.sh
      obtain ⟨on6, hon6⟩ : ∃ z, z = (putO W os b).length := ⟨_, rfl⟩
      rw [← hon6] at hv6 h61
      subst hv6
      have Hon6 := Lib.hid hon6
      have Ht6 := Lib.hid ht6
      have Hc6 := Lib.hid hc6
      unfold maxLen at h62
      clear hc6 ht6 h63 hon6 s0 s1 HRP
      have hal_ := (Chg.refl NoB w6).alloc (.cells #[.int .i64 W, .slice q6 on6 c6] 28)
      have hb_ := heap_alloc_new w6 (.cells #[.int .i64 W, .slice q6 on6 c6] 28)
      obtain ⟨nb, hxb_⟩ : ∃ b, b = w6.heap.size := ⟨_, rfl⟩
      obtain ⟨w7, hw_⟩ : ∃ w_, w6.alloc (.cells #[.int .i64 W, .slice q6 on6 c6] 28) = w_ := ⟨_, rfl⟩
      have hz_ : w7.heap.size = nb + 1 := by rw [← hw_, hxb_]; exact alloc_size _ _
      rw [hw_] at hal_ hb_
      rw [← hxb_] at hb_
      have Hw7 := Lib.hid hw_
      have Hx7 := Lib.hid hxb_
      have Ha7 := Lib.hid hal_
      have Hb7 := Lib.hid hb_
      have Hz7 := Lib.hid hz_
      clear hal_ hb_ hxb_ hw_ hz_
      have HM7 := Lib.hid (row_kept (Hc6.out.trans Ha7.out) Hms5.out.row id)
      obtain ⟨s0, s1⟩ := var2 HM7.out
      have f0 := row_free HM7.out 0
      have f1 := row_free HM7.out 1
      obtain ⟨t0, t1⟩ := var2 Hb7.out
      have hnm : ¬ nb = mb := by have := Hx7.out; have := Hc6.out.size; have := Hst5.out.ne.2.2.2; have := Hob.out.2.2.2.2.1; omega
      have hmn : ¬ mb = nb := fun e => hnm e.symm
      go_upto_region 13 with fail
      rw [Hw7.out, ← Hx7.out]
      go_upto_region 14 with fail
      have hst78 : Chg (fun k => k = mb) w7 ((w7.setCell ⟨mb, 0, none⟩ (.int .i64 W)).setCell ⟨mb, 1, none⟩ (.slice q6 on6 c6)) := ((Chg.refl (fun k => k = mb) w7).setCell (p := ⟨mb, 0, none⟩) (.inl rfl) _).setCell (p := ⟨mb, 1, none⟩) (.inl rfl) _
      have hm8 := heap_set (heap_set HM7.out (i := 0) (.int .i64 W)) (i := 1) (.slice q6 on6 c6)
      obtain ⟨w8, hw8⟩ : ∃ w8, (w7.setCell ⟨mb, 0, none⟩ (.int .i64 W)).setCell ⟨mb, 1, none⟩ (.slice q6 on6 c6) = w8 := ⟨_, rfl⟩
      rw [hw8] at hst78 hm8
      change w8.heap[mb]? = some (.cells #[.int .i64 W, .slice q6 on6 c6] 28 (0, 0)) at hm8
      have hc57 : Chg NoB w5 w7 := Hc6.out.trans Ha7.out
      have hob5 := Hst5.out.row_le.2
      have hst7 := Hst5.out.keep hc57
      have hst8 : StO w8 lo sb ob W ps5 := hst7.keepC hst78 (fun e => by have h := hst7.row; rw [e, HM7.out] at h; cases h) (fun e => Hob.out.2.2.2.1 e.symm) fun k hk e => by have := (hst7.rowB hk).1; have := Hob.out.2.2.2.2.1; omega
      have hrb8 : ∀ k, RowB w8 ob k → RowB w5 ob k := fun k hk => (hk.back hst78 hst7.row_le.2 (fun e => Hob.out.2.2.2.1 e.symm)).back hc57 hob5 id
      have hms8 : MS w8 lo mb ob W (putO W os b) (.slice q6 on6 c6) kb6 ko6 := ⟨hm8, Ht6.out.move ((Ha7.out.mono fun k _ h => h.elim : Chg (fun k => k = mb) w6 w7).trans hst78) fun k hk hs => by
        rcases hs with ⟨h1, h2⟩ | ⟨h1, h2⟩
        · exact ⟨fun e => by have := Hob.out.2.2.2.2.1; omega, h1, fun e => h2 (hrb8 k e)⟩
        · have := Hst5.out.ne.2.2.2
          exact ⟨fun e => by have := Hob.out.2.2.2.2.1; omega, by omega, fun e => by have := (Hst5.out.rowB (hrb8 k e)).2; omega⟩⟩
      have hR8 := row_kept hst78 (row_kept hc57 HR5.out id) (fun e => Hob.out.2.2.2.2.2.2.2 e)
      have hc8 : Chg NoB w w8 := (Hc5.out.trans hc57).above hst78 fun k e => by rw [e]; exact Hob.out.2.1
      have Hms8 := Lib.hid hms8
      have Hst8 := Lib.hid hst8
      have HR8 := Lib.hid hR8
      have Hc8 := Lib.hid hc8
      have HK2 := Lib.hid (HK.out w8.drew hst8.row)
      have HL := Lib.hid (fun w' (h : Chg NoB w8 w') => len_any ps5 lo sb ob W w' (hst8.keep h))
      rw [Hi5.out.len, ← Hon6.out] at HL
      have hA := var2 hm8
      have HA := Lib.hid hA
      have hdr : w8.drew.cell? ⟨mb, 0, none⟩ = some (.int .i64 W) ∧ w8.drew.cell? ⟨mb, 1, none⟩ = some (.slice q6 on6 c6) := hA
      have he := tx_beq pk pk
      rw [decide_eq_true rfl] at he
      obtain ⟨kk, hkk⟩ : ∃ z, z = keyL W b := ⟨_, rfl⟩
      rw [← hkk] at HK2 HRK
      have he2 := tx_beq kk kk
      rw [decide_eq_true rfl] at he2
      rw [hw8]
      clear hst78 hm8 hw8 hc57 hob5 hst7 hst8 hrb8 hms8 hR8 hc8 s0 s1 f0 f1 t0 t1 hnm hmn HK hkk
      go_region_held3 (fun w' => w'.cell? ⟨mb, 0, none⟩ = some (.int .i64 W) ∧ w'.cell? ⟨mb, 1, none⟩ = some (.slice q6 on6 c6))
        (first | with_reducible exact hA | with_reducible exact hdr | with_reducible exact hC | with_reducible exact hD)
        (first
          | (go_at_call 13; refine HK2.out.mono ?_; rintro e w9 ⟨rfl, hc9'⟩; have hc9 : Chg NoB w8 w9 := (Chg.refl NoB w8).drew.trans hc9'; have hC := And.intro (hc9.keep HA.out.1) (hc9.keep HA.out.2))
          | (go_at_call 14; refine (HRK.out _ _ _ _).mono ?_; rintro e wx ⟨rfl, hcx'⟩; have hcx := hc9.trans hcx'; have hD := And.intro (hcx.keep HA.out.1) (hcx.keep HA.out.2))
          | (go_at_call 15; refine (HL.out _ hcx).mono ?_; rintro e w' ⟨rfl, rfl⟩))
      all_goals
        clear hA hdr hC hD
        have Hcx := Lib.hid hcx
        clear hcx hcx' hc9 hc9'
      go_wp2_with fail
      go_roundw
      case rel => exact ⟨j + 1, putO W os b, ps5, _, kb6, ko6, by omega, by go_num, Nat.le_trans (put_len_le W os b) (by have := Hol.out; omega), put_small Hbo.out, Hi5.out, Hst8.out.keep Hcx.out, Hms8.out.keep Hcx.out Hst8.out.row_le.2, row_kept Hcx.out HR8.out id, Hc8.out.trans Hcx.out⟩
      case measure => simp [intOf]; omega
    · obtain rfl : j = n := by omega
      have HG := Lib.hid (get_any ps (by rw [Hi.out.len]; have := Hol.out; omega) lo sb ob W key wr Hst.out)
      rw [Hi.out.get] at HG
      have HRG := Lib.hid (fun w' (h : Chg NoB wr w') => rget_any os (by have := Hol.out; omega) (fun x hx => by have := Hbo.out x hx; omega) W key _ mv mk mo w' (Hms.out.keep h Hst.out.row_le.2).txt)
      unfold GetP at HRG
      obtain ⟨g1, hg1⟩ : ∃ g, g = (getO W os key).1 := ⟨_, rfl⟩
      obtain ⟨g2, hg2⟩ : ∃ g, g = (getO W os key).2 := ⟨_, rfl⟩
      rw [← hg1, ← hg2] at HG HRG
      have he := tx_beq g1 g1
      rw [decide_eq_true rfl] at he
      clear hg1 hg2 hlt hj
      go_wp2_with fail
      refine HG.out.mono ?_
      rintro e w4 ⟨hc4, rfl⟩
      have Hc4 := Lib.hid hc4
      obtain ⟨s0, s1⟩ := var2 (row_kept hc4 Hms.out.row id)
      obtain ⟨mq, mc, hmv, hmv1, hmv2, hmv3⟩ := Hms.out.txt.sh
      subst hmv
      obtain ⟨on, hon⟩ : ∃ z, z = os.length := ⟨_, rfl⟩
      rw [← hon] at s1 HRG
      clear hc4 hmv1 hmv2 hmv3 HG hon
      go_wp2_with fail
      refine (HRG.out _ Hc4.out).mono ?_
      rintro e w5 ⟨hc5, rfl⟩
      have Hc5 := Lib.hid (Hc4.out.trans hc5)
      have HN1 := Lib.hid (get_nil (tx key) w5)
      have HN2 := Lib.hid (put_nil ⟨#[97]⟩ w5)
      have HN3 := Lib.hid (goes_nil w5)
      clear hc5 s0 s1 HRG
      go_wp2_with fail
      refine HN1.out.mono ?_
      rintro e w' ⟨rfl, rfl⟩
      go_wp2_with fail
      refine HN2.out.mono ?_
      rintro e w' ⟨rfl, rfl⟩
      go_wp2_with fail
      refine HN3.out.mono ?_
      rintro e wC ⟨hcC, pb, pv, nb, rfl, hpl, hpc, hns⟩
      have HcC := Lib.hid (Hcw.out.trans (Hc5.out.trans hcC))
      have HRC := Lib.hid (show Boxed wC rb 4 (.bool false) from row_kept (Hc5.out.trans hcC) HRr.out id)
      have Hord := Lib.hid (show rb < pb ∧ rb < wC.heap.size from by have h1 := lt_of_block HRr.out; have h2 := Hc5.out.size; have h3 := hcC.size; omega)
      have Hw5 := Lib.hid (show rb < w5.heap.size from by have h1 := lt_of_block HRr.out; have h2 := Hc5.out.size; omega)
      have Hseq := Lib.hid (rising1_stops (4 - 1) pb (fun k => k = rb) (NewB w5 wC) [] (by decide) pv nb 0 wC (fun k hk x => by have := hk.1; have := Hw5.out; omega) (fun x => by have := Hord.out; omega) hpc hns)
      clear hcC hpl hpc hns HN1 HN2 HN3
      go_wp2_with fail
      refine (wpIn_wide (n := 4)).1 ?_
      refine wpIn_rangeFunc_ownF (α := FileL) rfl (by decide) (gf := 45) (lb := #[.pointer (some ⟨pb, 0, none⟩)]) rfl trivial (enters_of Try.func45 (by kernel_rfl) rfl)
        Hseq.out KeepT.trans (fun W l o o' _ h hc _ => KeepT.putObj W l o o' h hc) (Below.refl _ _) (fun _ => rfl)
        (fun pre V => Chg (fun k => k = rb) wC V ∧ Boxed V rb 4 (.bool false))
        (fun co pre V => False)
        (fun s A B row hs hg hr => ⟨hs.1.grown hg fun k e => .inr (hr k e).1, hs.2.kept hg fun e => by have := (hr _ e.symm).1; have := Hord.out; omega⟩)
        (fun co s A B row hs hg hr => hs)
        ⟨Chg.refl _ _, HRC.out⟩ ?a1 ?assign ?body ?done ?stop
      case body =>
        rintro l' pre x V h hlen
        cases hlen
      case stop =>
        rintro D' co pre V hD hpre h
        exact h.elim
      case assign =>
        intro l' x V K hK
        gi_wp2
        exact hK
      case done =>
        rintro D' ys V hD rfl ⟨hch, hres⟩ hK
        have hrb0 := hres.cell
        have hrb1 := hres.frozen
        have HE := Lib.hid (reads_finC (r := true) HcC.out Hrb.out hch (fun k hk => by rw [hk]; exact Hrb.out) hres hK hD)
        have HT := Lib.hid (try_nil ⟨#[]⟩ V)
        have HK := Lib.hid (key_nil ⟨#[97]⟩ V)
        have HL := Lib.hid (len_nil V)
        clear hch hres hK
        go_wp2_with fail
        refine HT.out.mono ?_
        rintro e w' ⟨rfl, rfl⟩
        go_wp2_with fail
        refine HK.out.mono ?_
        rintro e w' ⟨rfl, rfl⟩
        go_wp2_with fail
        refine HL.out.mono ?_
        rintro e w' ⟨rfl, rfl⟩
        go_wp2_with fail
        refine ⟨by simp, .inl ⟨_, _, rfl, run_takeDeferred (HE.out.1), ?_⟩⟩
        have hc6 := HE.out.2.1
        refine ⟨.bool true, ?_, rfl, HE.out.2.2⟩
        simp [results, Try.f3, go_sem, hc6]
/-FRAME-/
set_option maxRecDepth 100000 in
theorem casDoes_lifted (os : Os) (started : os.Started) (H : Type) (enc : TypeId × Value → H) :
    ReturnsInHanded {} Try.checked os 3 .any (Rows.casDoesSpec.pre6 enc Try.prog Try.f3 Rows.casDoesRow.domain false) (Rows.casDoesSpec.post enc Try.prog Try.f3 false true false false) := by
  refine returnsInHanded_of_change_sized (C := Try.checked) Try.own started (by kernel_rfl) Try.func3
    (ChangeSpec.witness6 (enc := enc) (C := Try.checked) false ⟨#[], #[.int .i64 0, .slice none 0 0, .string ByteArray.empty], []⟩ 8 (by kernel_rfl) (by kernel_rfl) (by kernel_rfl) (by kernel_rfl)) ?_
  intro W base args ds gs before hval0 hW hcnd hsz0 _
  have hval : ∀ (j : Nat) t v, Try.f3.params[j]? = some t → args[j]? = some v → Value.okWide Try.prog W .any base t v := hval0
  have hW' := hW
  obtain ⟨p, q, hA0, hV, rfl, _, _⟩ := hW
  have hA : DataW.TrodAll enc Try.prog W 0 (fun _ => true) true Try.f3.params.toList args.toList ds p := hA0
  have hsz1 : (DataW.weightsEach Try.prog (Try.f3.params.toList ++ Rows.casDoesSpec.plain.varTypes Try.prog) (ds ++ gs)).all (· ≤ reachBytes) = true := hsz0
  rw [Try.params3] at hA hval hsz1
  obtain ⟨v0, v1, v2, d0, d1, d2, p0, p1, p2, rfl, rfl, rfl, h0, h1, h2⟩ := trodAll_three hA
  obtain ⟨rfl, rfl⟩ := trodVars_none hV
  obtain ⟨x0, rfl, rfl, rfl, wx0⟩ := open_int Try.underlying3 (hval 0 3 v0 rfl rfl) h0
  obtain ⟨l1, kb1, ko1, hn1, hr1⟩ := open_texts (hval 1 22 v1 rfl rfl) h1 (fun m hm => of_decide_eq_true (List.all_eq_true.1 hsz1 m (DataW.weights_mem_each (j := 1) (t := 22) (d := d1) rfl rfl m hm)))
  obtain ⟨x2, rfl, rfl, rfl, wx2⟩ := open_string Try.underlying9 (hval 2 9 v2 rfl rfl) h2
  have sx2 : x2.size ≤ 140737488351232 := string_reachP hsz1 (j := 2) rfl rfl
  clear hA0 hval0 hsz0
  refine (casDoes_all x0 l1 _ kb1 ko1 x2 W wx0 hn1 hr1 sx2 ).mono fun e W' ⟨he, hb⟩ => ?_
  subst he
  exact ⟨_, rfl, _, _, _, [], _, [], hW', trodAll_mk1 (shut_bool Try.underlying4 _), (trodAll_cons_mk (shut_int Try.underlying3 wx0) (trodAll_cons_mk (texts_stay h1 hb.below) (trodAll_cons_mk (shut_string Try.underlying9 wx2) trodAll_mk0))), rfl, hb.below.frame _, fun h => by cases h⟩
theorem casDoes_holds : Rows.CasDoesSaid :=
  OpenClaim.holds_of_wide 3 Try.f3 rfl rfl rfl rfl rfl rfl rfl ⟨rfl, rfl, rfl, rfl, rfl⟩ rfl rfl rfl rfl rfl (by kernel_rfl) Try.func3 (by kernel_rfl)
    (of_decide_eq_true (by kernel_rfl)) (by unfold Func.isWrapper; first | (rw [if_pos (by decide +kernel)]; kernel_rfl) | (rw [if_neg (by decide +kernel)]; exact ⟨rfl, rfl⟩))
    (fun os started H enc _ => casDoes_lifted os started H enc)
#print axioms casDoes_holds
end Go.Proofs.Ytbloglfmhhgccaa
