/- Proved: the statement TreeBytes holds for every tree and text. Conditions: the listed package variables read as the program's text lays them (the card ties them); nothing else. -/
import Derived.Test.YtilkcjcmcnlfnaaGreatDoorTrOpen
import Derived.Test.YtilkcjcmcnlfnaaGreatDoorTrDec
import Derived.Test.YtilkcjcmcnlfnaaGreatDoorTrRdec
import Derived.Test.YtilkcjcmcnlfnaaGreatDoorTrOut
namespace Go.Proofs.YtilkcjcmcnlfnaaGreatDoor
set_option linter.unusedVariables false
open Go.ChangeShapes Go.WideShapes Go.ChangeAt Go.RowKit
open Go.ChangeMaps (open_string shut_string)
theorem encT_read {s : List UInt8} {l : List FileL} (h : decT s = .ok l) : encT l = (tx s, 0) := by
  obtain ⟨h1, h2⟩ := decT_ok h
  unfold encT
  rw [if_pos h2, enc_dec h1]
  rfl
theorem encT_back {l : List FileL} (h : (encT l).2 = 0) : ∃ xs, (encT l).1 = tx xs ∧ xs.length ≤ 65536 ∧ decT xs = .ok l := by
  unfold encT at h ⊢
  by_cases hg : goodF l = true
  · rw [if_pos hg] at h ⊢
    cases hp : putN (treeN l) 0 [] with
    | error y =>
      rw [hp] at h
      have : y = 0 := h
      have := putN_err _ _ _ _ hp
      omega
    | ok ys =>
      have hd := dec_enc hp
      exact ⟨ys, rfl, (decR_ok hd).1, decT_of hd hg⟩
  · rw [if_neg hg] at h
    exact absurd h (by decide)
set_option maxHeartbeats 8000000 in
set_option maxRecDepth 20000 in
theorem treeBytes_all (l : List FileL) (v : Value) (kb ko : Nat) (x : ByteArray) (W : World) (hs : InpS W (OldB W) v l kb ko) (hr : Reach l) (wx : x.size ≤ maxLen) (hlb : Lb W.heap.size W) (hml : Pth.Ml W) :
    Calls Tryz.prog 6 #[.agg #[v], .string x] W fun e w' => e = .returned (.bool true) ∧ Chg NoB W w' := by
  obtain ⟨s, rfl⟩ : ∃ s, x = tx s := ⟨_, (tx_back x).symm⟩
  have hss : (tx s).size = s.length := tx_size s
  obtain ⟨sl, hsl⟩ : ∃ sl, sl = s.length := ⟨_, rfl⟩
  rw [← hsl] at hss
  rw [hss] at wx
  unfold maxLen at wx
  have Hs := Lib.hid (fun w' (h : Chg NoB W w') => hs.keep h fun _ _ => id)
  obtain ⟨⟨q, c, rfl, -, -, -⟩, -⟩ := hs
  obtain ⟨n, hn⟩ : ∃ n, n = l.length := ⟨_, rfl⟩
  rw [← hn] at Hs ⊢
  have Hsl := Lib.hid hsl
  have Hr := Lib.hid hr
  have Hlb := Lib.hid hlb
  have Hml := Lib.hid hml
  clear hn hr hlb hml hsl
  have hal_ := (Chg.refl NoB W).alloc (.cells #[.slice q n c] 26)
  have hb_ := heap_alloc_new W (.cells #[.slice q n c] 26)
  obtain ⟨tb, hxb_⟩ : ∃ b, b = W.heap.size := ⟨_, rfl⟩
  obtain ⟨w1, hw_⟩ : ∃ w_, W.alloc (.cells #[.slice q n c] 26) = w_ := ⟨_, rfl⟩
  rw [hw_] at hal_ hb_
  rw [← hxb_] at hb_
  have Hw1 := Lib.hid hw_
  have Hx1 := Lib.hid hxb_
  have Ha1 := Lib.hid hal_
  have Hb1 := Lib.hid hb_
  clear hal_ hb_ hxb_ hw_
  go_enter Tryz.func6, Tryz.ntmps6
  go_upto_region 1 with fail
  rw [Hw1.out, ← Hx1.out]
  go_wp2_with fail
  refine (talive_any W.heap.size w1 ((Hlb.out.keep Ha1.out).lw) (ml_keep Hml.out Ha1.out)).mono ?_
  rintro e w2 ⟨rfl, hc2⟩
  have Hc2 := Lib.hid (Ha1.out.trans hc2)
  have hb2 := row_kept hc2 Hb1.out id
  have Hb2 := Lib.hid hb2
  have t0 := var1 hb2
  have Hgr := Lib.hid (tgreat_any l Hr.out.1 Hr.out.2 _ _ kb ko w2 (Hs.out w2 Hc2.out))
  obtain ⟨g, hg⟩ : ∃ g, g = greatF l := ⟨_, rfl⟩
  rw [← hg] at Hgr
  have Hg := Lib.hid hg
  clear hc2 hg hb2
  cases g with
  | true =>
    go_wp2_with fail
    refine Hgr.out.mono ?_
    rintro e w3 ⟨rfl, hc3⟩
    have Hc3 := Lib.hid (Hc2.out.trans hc3)
    clear hc3 t0
    go_wp2_with fail
    go_ret
    exact ⟨rfl, Hc3.out⟩
  | false =>
  go_wp2_with fail
  refine Hgr.out.mono ?_
  rintro e w3 ⟨rfl, hc3⟩
  have Hc3 := Lib.hid (Hc2.out.trans hc3)
  have Hb3 := Lib.hid (row_kept hc3 Hb2.out id)
  clear hc3 t0
  have t0 := var1 Hb3.out
  by_cases hbig : 131072 < sl
  · go_wp2_with fail
    go_ret
    exact ⟨rfl, Hc3.out⟩
  obtain ⟨hl, hw⟩ := great_no Hg.out.symm
  have hl2 : l.length ≤ 1048576 := by omega
  have HEa := Lib.hid (fun w' (h : Chg NoB W w') => tencode_any l hl2 hw _ _ kb ko W.heap.size w' (Hlb.out.keep h).lw (ml_keep Hml.out h) (Hs.out w' h))
  have HEb := Lib.hid (fun w' (h : Chg NoB W w') => rencode_any l hl2 hw _ _ kb ko W.heap.size w' (Hlb.out.keep h).lw (Hs.out w' h))
  have Hd1 := Lib.hid (fun (xs : List UInt8) (hx : xs.length ≤ 65536) w' (h : Chg NoB W w') => tdec_any xs W.heap.size w' (Hlb.out.keep h) (ml_keep Hml.out h) (by omega))
  have Hd2 := Lib.hid (fun w' (h : Chg NoB W w') => tdec_any s W.heap.size w' (Hlb.out.keep h) (ml_keep Hml.out h) (by have := Hsl.out; omega))
  have Hr2 := Lib.hid (fun w' (h : Chg NoB W w') => rtdec_any s W.heap.size w' (Hlb.out.keep h) (ml_keep Hml.out h) (by have := Hsl.out; omega))
  have Hl1 := Lib.hid hl2
  obtain ⟨x1, hx1⟩ : ∃ x, x = (encT l).1 := ⟨_, rfl⟩
  obtain ⟨x2, hx2⟩ : ∃ x, x = (encT l).2 := ⟨_, rfl⟩
  rw [← hx1, ← hx2] at HEa HEb
  have Hback : Hid (x2 = 0 → ∃ xs, x1 = tx xs ∧ xs.length ≤ 65536 ∧ decT xs = .ok l) := Lib.hid fun h => by rw [hx1]; exact encT_back (by rw [← hx2]; exact h)
  obtain ⟨y2, hy2⟩ : ∃ y, y = outE (decT s) := ⟨_, rfl⟩
  obtain ⟨d2, hd2⟩ : ∃ d, d = outL (decT s) := ⟨_, rfl⟩
  have Hl2 : Hid (d2.length ≤ 1048576) := Lib.hid (by rw [hd2]; exact (decT_sizes s).1)
  have Hok : Hid (y2 = 0 → ∃ d, (encT d = (tx s, 0) ∧ d2 = d) ∧ d.length ≤ 32 ∧ ∀ x ∈ d, x.1.length ≤ 131072 ∧ x.2.length ≤ 131072) := Lib.hid fun h => by
    cases hc : decT s with
    | error y =>
      have := decT_err hc
      rw [hy2, hc] at h
      have : y = 0 := h
      omega
    | ok d =>
      have hg := good_sizes (decT_ok hc).2
      refine ⟨d, ⟨encT_read hc, by rw [hd2, hc]; rfl⟩, hg.1, fun x hx => by have := hg.2 x hx; omega⟩
  have hdm : ∀ w' e w'', MakeP (decT s) w' e w'' → OutP d2 y2 w' e w'' := fun w' e w'' h => by rw [hd2, hy2]; exact h.out
  replace Hd2 := Lib.hid (fun w' (h : Chg NoB W w') => (Hd2.out w' h).mono (hdm w'))
  replace Hr2 := Lib.hid (fun w' (h : Chg NoB W w') => (Hr2.out w' h).mono (hdm w'))
  clear hx1 hx2 hy2 hd2 hdm hl hw hl2 Hg
  go_wp2_with fail
  refine (HEa.out _ Hc3.out).mono ?_
  rintro e w4 ⟨hc4, rfl⟩
  have Hc4 := Lib.hid (Hc3.out.trans hc4)
  have Hb4 := Lib.hid (row_kept hc4 Hb3.out id)
  clear hc4 t0
  have t0 := var1 Hb4.out
  go_wp2_with fail
  refine (HEb.out _ Hc4.out).mono ?_
  rintro e w5 ⟨hc5, rfl⟩
  have Hc5 := Lib.hid (Hc4.out.trans hc5)
  have Hb5 := Lib.hid (row_kept hc5 Hb4.out id)
  clear hc5 t0 HEa HEb
  have hx22 : (x2 != x2) = false := by simp
  by_cases hx0 : x2 = 0
  · obtain ⟨xs, rfl, hxl, hxd⟩ := Hback.out hx0
    subst hx0
    have hdm : ∀ w' e w'', MakeP (decT xs) w' e w'' → OutP l 0 w' e w'' := fun w' e w'' h => by rw [hxd] at h; exact h.out
    have Hd3 := Lib.hid (fun w' (h : Chg NoB W w') => (Hd1.out xs hxl w' h).mono (hdm w'))
    clear hxl hxd hdm
    go_wp2_with fail
    refine (Hd3.out w5 Hc5.out).mono ?_
    intro e w6 hp_
    obtain ⟨hc_, q7, n7, c7, k7, j7, hn_, rfl, hs_⟩ := hp_.val
    have Hn7 := Lib.hid hn_
    have Hs7 := Lib.hid (fun w' (h : Chg NoB w6 w') => hs_.keep h fun _ _ => id)
    have Hcc7 := Lib.hid hc_
    clear hc_ hn_ hs_ hp_
    have hal_ := (Chg.refl NoB w6).alloc (.cells #[.slice q7 n7 c7] 26)
    have hb_ := heap_alloc_new w6 (.cells #[.slice q7 n7 c7] 26)
    obtain ⟨ub, hxb_⟩ : ∃ b, b = w6.heap.size := ⟨_, rfl⟩
    obtain ⟨w7, hw_⟩ : ∃ w_, w6.alloc (.cells #[.slice q7 n7 c7] 26) = w_ := ⟨_, rfl⟩
    rw [hw_] at hal_ hb_
    rw [← hxb_] at hb_
    have Hw7 := Lib.hid hw_
    have Hx7 := Lib.hid hxb_
    have Ha7 := Lib.hid hal_
    have Hb7 := Lib.hid hb_
    clear hal_ hb_ hxb_ hw_
    have Hc7 := Lib.hid (Hc5.out.trans (Hcc7.out.trans Ha7.out))
    go_upto_region 11 with fail
    rw [Hw7.out, ← Hx7.out]
    have t0 := var1 (row_kept (Hcc7.out.trans Ha7.out) Hb5.out id)
    have u0 := var1 Hb7.out
    have HSm := Lib.hid (rsame_any _ _ _ _ _ _ _ _ _ _ w7 Hl1.out Hl1.out (Hs7.out w7 Ha7.out) (Hs.out w7 Hc7.out))
    simp only [decide_true] at HSm
    go_wp2_with fail
    refine HSm.out.mono ?_
    rintro e w8 ⟨rfl, hc8⟩
    have Hc8 := Lib.hid (Hc7.out.trans hc8)
    clear t0 u0 hc8 HSm hx22
    have hyy : (y2 != y2) = false := by simp
    go_wp2_with fail
    refine (Hd2.out w8 Hc8.out).mono ?_
    intro e wa hp_
    obtain ⟨hc_, qa, na, ca, ka, ja, hn_, rfl, hs_⟩ := hp_.val
    have HnA := Lib.hid hn_
    have HsA := Lib.hid (fun w' (h : Chg NoB wa w') => hs_.keep h fun _ _ => id)
    have HccA := Lib.hid hc_
    clear hc_ hn_ hs_ hp_
    have hal_ := (Chg.refl NoB wa).alloc (.cells #[.slice qa na ca] 26)
    have hb_ := heap_alloc_new wa (.cells #[.slice qa na ca] 26)
    obtain ⟨ab, hxb_⟩ : ∃ b, b = wa.heap.size := ⟨_, rfl⟩
    obtain ⟨wb, hw_⟩ : ∃ w_, wa.alloc (.cells #[.slice qa na ca] 26) = w_ := ⟨_, rfl⟩
    rw [hw_] at hal_ hb_
    rw [← hxb_] at hb_
    have HwA := Lib.hid hw_
    have HxA := Lib.hid hxb_
    have HaA := Lib.hid hal_
    have HbA := Lib.hid hb_
    clear hal_ hb_ hxb_ hw_
    have HcA := Lib.hid (Hc8.out.trans (HccA.out.trans HaA.out))
    go_upto_region 14 with fail
    rw [HwA.out, ← HxA.out]
    go_wp2_with fail
    refine (Hr2.out wb HcA.out).mono ?_
    intro e wc hp_
    obtain ⟨hc_, qb, nb, cb, kd, jb, hn_, rfl, hs_⟩ := hp_.val
    have HnB := Lib.hid hn_
    have HsB := Lib.hid (fun w' (h : Chg NoB wc w') => hs_.keep h fun _ _ => id)
    have HccB := Lib.hid hc_
    clear hc_ hn_ hs_ hp_
    have hal_ := (Chg.refl NoB wc).alloc (.cells #[.slice qb nb cb] 26)
    have hb_ := heap_alloc_new wc (.cells #[.slice qb nb cb] 26)
    obtain ⟨bb, hxb_⟩ : ∃ b, b = wc.heap.size := ⟨_, rfl⟩
    obtain ⟨wd, hw_⟩ : ∃ w_, wc.alloc (.cells #[.slice qb nb cb] 26) = w_ := ⟨_, rfl⟩
    rw [hw_] at hal_ hb_
    rw [← hxb_] at hb_
    have HwB := Lib.hid hw_
    have HxB := Lib.hid hxb_
    have HaB := Lib.hid hal_
    have HbB := Lib.hid hb_
    clear hal_ hb_ hxb_ hw_
    have HcB := Lib.hid (HcA.out.trans (HccB.out.trans HaB.out))
    go_upto_region 15 with fail
    rw [HwB.out, ← HxB.out]
    have a0 := var1 (row_kept (HccB.out.trans HaB.out) HbA.out id)
    have b0 := var1 HbB.out
    have HSm := Lib.hid (rsame_any _ _ _ _ _ _ _ _ _ _ wd Hl2.out Hl2.out (HsA.out wd (HaA.out.trans (HccB.out.trans HaB.out))) (HsB.out wd HaB.out))
    simp only [decide_true] at HSm
    go_wp2_with fail
    refine HSm.out.mono ?_
    rintro e we ⟨rfl, hce⟩
    have Hce := Lib.hid (HcB.out.trans hce)
    have HAe := Lib.hid (HaA.out.trans (HccB.out.trans (HaB.out.trans hce)))
    have HbAe := Lib.hid (row_kept ((HccB.out.trans HaB.out).trans hce) HbA.out id)
    clear a0 b0 hce hyy HSm
    by_cases hy2 : y2 = 0
    · subst hy2
      obtain ⟨d, hd⟩ := Hok.out rfl
      have HE := Lib.hid (tencode_any d (by have := hd.2.1; omega) hd.2.2 _ _ ka ja W.heap.size we (Hlb.out.keep Hce.out).lw (ml_keep Hml.out Hce.out) (by rw [← hd.1.2]; exact HsA.out we HAe.out))
      rw [hd.1.1] at HE
      clear hd
      have a0 := var1 HbAe.out
      go_wp2_with fail
      refine HE.out.mono ?_
      rintro e wf ⟨hcf, rfl⟩
      have Hcf := Lib.hid (Hce.out.trans hcf)
      clear hcf a0 HE
      go_wp2_with fail
      go_ret
      exact ⟨rfl, Hcf.out⟩
    · have hyb : (y2 != 0) = true := by rw [bne_iff_ne]; exact hy2
      clear hy2
      go_wp2_with fail
      go_ret
      exact ⟨rfl, Hce.out⟩
  · have hxb : (x2 == 0) = false := by simpa using hx0
    clear hx0
    have hyy : (y2 != y2) = false := by simp
    go_wp2_with fail
    refine (Hd2.out w5 Hc5.out).mono ?_
    intro e wa hp_
    obtain ⟨hc_, qa, na, ca, ka, ja, hn_, rfl, hs_⟩ := hp_.val
    have HnA := Lib.hid hn_
    have HsA := Lib.hid (fun w' (h : Chg NoB wa w') => hs_.keep h fun _ _ => id)
    have HccA := Lib.hid hc_
    clear hc_ hn_ hs_ hp_
    have hal_ := (Chg.refl NoB wa).alloc (.cells #[.slice qa na ca] 26)
    have hb_ := heap_alloc_new wa (.cells #[.slice qa na ca] 26)
    obtain ⟨ab, hxb_⟩ : ∃ b, b = wa.heap.size := ⟨_, rfl⟩
    obtain ⟨wb, hw_⟩ : ∃ w_, wa.alloc (.cells #[.slice qa na ca] 26) = w_ := ⟨_, rfl⟩
    rw [hw_] at hal_ hb_
    rw [← hxb_] at hb_
    have HwA := Lib.hid hw_
    have HxA := Lib.hid hxb_
    have HaA := Lib.hid hal_
    have HbA := Lib.hid hb_
    clear hal_ hb_ hxb_ hw_
    have HcA := Lib.hid (Hc5.out.trans (HccA.out.trans HaA.out))
    go_upto_region 14 with fail
    rw [HwA.out, ← HxA.out]
    go_wp2_with fail
    refine (Hr2.out wb HcA.out).mono ?_
    intro e wc hp_
    obtain ⟨hc_, qb, nb, cb, kd, jb, hn_, rfl, hs_⟩ := hp_.val
    have HnB := Lib.hid hn_
    have HsB := Lib.hid (fun w' (h : Chg NoB wc w') => hs_.keep h fun _ _ => id)
    have HccB := Lib.hid hc_
    clear hc_ hn_ hs_ hp_
    have hal_ := (Chg.refl NoB wc).alloc (.cells #[.slice qb nb cb] 26)
    have hb_ := heap_alloc_new wc (.cells #[.slice qb nb cb] 26)
    obtain ⟨bb, hxb_⟩ : ∃ b, b = wc.heap.size := ⟨_, rfl⟩
    obtain ⟨wd, hw_⟩ : ∃ w_, wc.alloc (.cells #[.slice qb nb cb] 26) = w_ := ⟨_, rfl⟩
    rw [hw_] at hal_ hb_
    rw [← hxb_] at hb_
    have HwB := Lib.hid hw_
    have HxB := Lib.hid hxb_
    have HaB := Lib.hid hal_
    have HbB := Lib.hid hb_
    clear hal_ hb_ hxb_ hw_
    have HcB := Lib.hid (HcA.out.trans (HccB.out.trans HaB.out))
    go_upto_region 15 with fail
    rw [HwB.out, ← HxB.out]
    have a0 := var1 (row_kept (HccB.out.trans HaB.out) HbA.out id)
    have b0 := var1 HbB.out
    have HSm := Lib.hid (rsame_any _ _ _ _ _ _ _ _ _ _ wd Hl2.out Hl2.out (HsA.out wd (HaA.out.trans (HccB.out.trans HaB.out))) (HsB.out wd HaB.out))
    simp only [decide_true] at HSm
    go_wp2_with fail
    refine HSm.out.mono ?_
    rintro e we ⟨rfl, hce⟩
    have Hce := Lib.hid (HcB.out.trans hce)
    have HAe := Lib.hid (HaA.out.trans (HccB.out.trans (HaB.out.trans hce)))
    have HbAe := Lib.hid (row_kept ((HccB.out.trans HaB.out).trans hce) HbA.out id)
    clear a0 b0 hce hyy HSm
    by_cases hy2 : y2 = 0
    · subst hy2
      obtain ⟨d, hd⟩ := Hok.out rfl
      have HE := Lib.hid (tencode_any d (by have := hd.2.1; omega) hd.2.2 _ _ ka ja W.heap.size we (Hlb.out.keep Hce.out).lw (ml_keep Hml.out Hce.out) (by rw [← hd.1.2]; exact HsA.out we HAe.out))
      rw [hd.1.1] at HE
      clear hd
      have a0 := var1 HbAe.out
      go_wp2_with fail
      refine HE.out.mono ?_
      rintro e wf ⟨hcf, rfl⟩
      have Hcf := Lib.hid (Hce.out.trans hcf)
      clear hcf a0 HE
      go_wp2_with fail
      go_ret
      exact ⟨rfl, Hcf.out⟩
    · have hyb : (y2 != 0) = true := by rw [bne_iff_ne]; exact hy2
      clear hy2
      go_wp2_with fail
      go_ret
      exact ⟨rfl, Hce.out⟩
/-FRAME-/
set_option maxRecDepth 100000 in
theorem treeBytes_lifted (os : Os) (started : os.Started) (H : Type) (enc : TypeId × Value → H) :
    ReturnsInHanded {} Tryz.checked os 6 .any (fun w args => (Rows.treeBytesSpec.pre enc Tryz.prog Tryz.f6 [] false w args ∧ laidMetH Tryz.prog Rows.treeBytesRow.laid w) ∧ sizedMet enc Tryz.prog Tryz.f6 (OpenSpec.ofChange Rows.treeBytesSpec) false w args)
      (Rows.treeBytesSpec.post enc Tryz.prog Tryz.f6 false true false false) := by
  refine returns_both (C := Tryz.checked) (X := fun w _ => laidMetH Tryz.prog Rows.treeBytesRow.laid w) (fun _ _ _ hh h => h.of_heap hh) Tryz.own started (by kernel_rfl) Tryz.func6
    (ChangeSpec.witness_shaped (enc := enc) (C := Tryz.checked) (os := os) (X := fun w _ => laidMetH Tryz.prog Rows.treeBytesRow.laid w) false (World.laidAll Tryz.prog os Rows.treeBytesRow.laid) #[.agg #[.slice none 0 0], .string ByteArray.empty] 8 (World.laidAll_os _ _ _)
      (World.shaped_of_ZipB (by kernel_rfl) (by kernel_rfl)) (by kernel_rfl) (by kernel_rfl) (by kernel_rfl)
      (by rw [MakeChecks.laidMetH_plain _ _ _ (by kernel_rfl)]; exact laidMet_laidAll _ (by kernel_rfl) (by kernel_rfl))) ?_
  intro W base args ds gs before hval0 hW _ hsz hL hsh _
  have hval : ∀ (j : Nat) t v, Tryz.f6.params[j]? = some t → args[j]? = some v → Value.okWide Tryz.prog W .any base t v := hval0
  have hW' := hW
  obtain ⟨p, q, hA0, hV, rfl, _, _⟩ := hW
  have hA : DataW.TrodAll enc Tryz.prog W 0 (fun _ => true) true Tryz.f6.params.toList args.toList ds p := hA0
  have hsz1 : (DataW.weightsEach Tryz.prog (Tryz.f6.params.toList ++ Rows.treeBytesSpec.plain.varTypes Tryz.prog) (ds ++ gs)).all (· ≤ reachBytes) = true := hsz
  rw [Tryz.params6] at hA hval hsz1
  obtain ⟨v0, v1, d0, d1, p0, p1, rfl, rfl, rfl, h0, h1⟩ := trodAll_two hA
  obtain ⟨rfl, rfl⟩ := trodVars_none hV
  obtain ⟨l0, c0, kb0, ko0, rfl, hn0, hr0⟩ := open_tree (hval 0 26 v0 rfl rfl) h0 (fun m hm => of_decide_eq_true (List.all_eq_true.1 hsz1 m (DataW.weights_mem_each (j := 0) (t := 26) (d := d0) rfl rfl m hm)))
  obtain ⟨x1, rfl, rfl, rfl, wx1⟩ := open_string Tryz.underlying9 (hval 1 9 v1 rfl rfl) h1
  simp only [List.append_nil] at hW'
  rw [MakeChecks.laidMetH_plain _ _ _ (by kernel_rfl)] at hL
  have hL' : laidMet Tryz.prog [("math/bits.deBruijn32tab", Rows.laid_math_bits_deBruijn32tab), ("math/bits.deBruijn64tab", Rows.laid_math_bits_deBruijn64tab), ("internal/strconv.uint64pow10", Rows.laid_internal_strconv_uint64pow10), ("unicode/utf8.acceptRanges", Rows.laid_unicode_utf8_acceptRanges), ("strconv.ErrRange", Rows.laid_strconv_ErrRange), ("strconv.ErrSyntax", Rows.laid_strconv_ErrSyntax), ("unicode/utf8.first", Rows.laid_unicode_utf8_first)] W := hL
  have hlb : Lb W.heap.size W := lb_of hL' hsh
  have hml : Pth.Ml W := wml_of hsh
  clear hA0 hval0
  refine (treeBytes_all l0 _ kb0 ko0 x1 W hn0 hr0 wx1 hlb hml).mono fun e W' ⟨he, hb⟩ => ?_
  subst he
  exact ⟨_, rfl, _, _, _, [], _, [], hW', trodAll_mk1 (shut_bool Tryz.underlying4 _), (trodAll_cons_mk (tree_stays h0 hb.below) (trodAll_cons_mk (shut_string Tryz.underlying9 wx1) trodAll_mk0)), rfl, hb.below.frame _, fun h => by cases h⟩
theorem treeBytes_holds : Rows.TreeBytesSaid :=
  OpenClaim.holds_of_wide 6 Tryz.f6 rfl rfl rfl rfl rfl rfl rfl ⟨rfl, rfl, rfl, rfl, rfl⟩ rfl rfl rfl rfl rfl (by kernel_rfl) Tryz.func6 (by kernel_rfl)
    (of_decide_eq_true (by kernel_rfl)) (by unfold Func.isWrapper; first | (rw [if_pos (by decide +kernel)]; kernel_rfl) | (rw [if_neg (by decide +kernel)]; exact ⟨rfl, rfl⟩))
    (fun os started H enc _ => treeBytes_lifted os started H enc)
theorem treeBytes_card : Rows.TreeBytesCardSaid :=
  Claim7.holds_tied_plain_at .later [] [.data, .data, .data, .data, .sentinel, .sentinel, .pinned] true (true, "ae40126c67c6ca9ad63bc136dd30ebf461b3d4ff067546d356e722ee9505be06") true treeBytes_holds (fun _ h => by cases h) (by kernel_rfl) (fun _ h => by cases h) treeBytes_row_tie rfl ⟨rfl, rfl⟩ (by kernel_rfl) rfl
    (fun f fn hf hfn => by
      obtain rfl : f = 6 := Option.some.inj ((show Tryz.prog.funcNamed "sapling/saplinglaw05.TreeBytes" = some 6 by kernel_rfl).symm.trans hf) |>.symm
      obtain rfl : fn = Tryz.f6 := (Option.some.inj (Tryz.func6.symm.trans hfn)).symm
      exact ⟨by kernel_rfl, fun j t ht => by
        rw [Tryz.params6] at ht
        have hm : t ∈ [26, 9] := by simpa using Array.mem_of_getElem? ht
        have hall : ([26, 9].all fun u => !Tryz.prog.wantsStandIn u) = true := by kernel_rfl
        exact (show Tryz.prog.wantsStandIn t = false by simpa using List.all_eq_true.1 hall t hm)⟩)
    (by kernel_rfl)
#print axioms treeBytes_card
end Go.Proofs.YtilkcjcmcnlfnaaGreatDoor
