/- Proved: the statement TreeDoes holds for every two trees and file. Conditions: the listed package variables read as the program's text lays them (the card ties them); nothing else. -/
import Derived.Test.YtilkcjcmcnlfnaaGreatDoorTrKit
import Derived.Test.YtilkcjcmcnlfnaaGreatDoorTrRput
import Derived.Test.YtilkcjcmcnlfnaaGreatDoorTrMount
namespace Go.Proofs.YtilkcjcmcnlfnaaGreatDoor
set_option linter.unusedVariables false
open Go.ChangeShapes Go.WideShapes Go.ChangeAt Go.RowKit
open Go.ChangeMaps (open_string shut_string)
set_option maxHeartbeats 16000000 in
set_option maxRecDepth 20000 in
theorem treeDoes_all (l : List FileL) (v : Value) (kb ko : Nat) (u : List FileL) (v' : Value) (jb jo : Nat) (f : FileL) (W : World) (hs : InpS W (OldB W) v l kb ko) (hr : Reach l) (hu : InpS W (OldB W) v' u jb jo) (hru : Reach u) (hrf : ReachF f) (hlb : Lw W.heap.size W) (hml : Pth.Ml W) :
    Calls Tryz.prog 4 #[.agg #[v], .agg #[v'], .agg #[.string (tx f.1), .string (tx f.2)]] W fun e w' => e = .returned (.bool true) ∧ Chg NoB W w' := by
  obtain ⟨f1, f2⟩ := f
  have Hs := Lib.hid (fun w' (h : Chg NoB W w') => hs.keep h fun _ _ => id)
  have Hu := Lib.hid (fun w' (h : Chg NoB W w') => hu.keep h fun _ _ => id)
  obtain ⟨⟨q, c, rfl, -, -, -⟩, -⟩ := hs
  obtain ⟨⟨q', c', rfl, -, -, -⟩, -⟩ := hu
  obtain ⟨n, hn⟩ : ∃ n, n = l.length := ⟨_, rfl⟩
  obtain ⟨n', hn'⟩ : ∃ n, n = u.length := ⟨_, rfl⟩
  rw [← hn] at Hs ⊢
  rw [← hn'] at Hu ⊢
  show Calls _ _ #[_, _, .agg #[.string (tx f1), .string (tx f2)]] _ _
  have Hr := Lib.hid hr
  have Hru := Lib.hid hru
  have Hrf := Lib.hid hrf
  have Hlb := Lib.hid hlb
  have Hml := Lib.hid hml
  clear hn hn' hr hru hrf hlb hml
  have hal_ := (Chg.refl NoB W).alloc (.cells #[.slice q n c] 26)
  have hb_ := heap_alloc_new W (.cells #[.slice q n c] 26)
  obtain ⟨tb, hxb_⟩ : ∃ b, b = W.heap.size := ⟨_, rfl⟩
  obtain ⟨w1, hw_⟩ : ∃ w_, W.alloc (.cells #[.slice q n c] 26) = w_ := ⟨_, rfl⟩
  have hz_ : w1.heap.size = tb + 1 := by rw [← hw_, hxb_]; exact alloc_size _ _
  rw [hw_] at hal_ hb_
  rw [← hxb_] at hb_
  have Hw1 := Lib.hid hw_
  have Hx1 := Lib.hid hxb_
  have Ha1 := Lib.hid hal_
  have Hb1 := Lib.hid hb_
  have Hz1 := Lib.hid hz_
  clear hal_ hb_ hxb_ hw_ hz_
  have hal_ := (Chg.refl NoB w1).alloc (.cells #[.slice q' n' c'] 26)
  have hb_ := heap_alloc_new w1 (.cells #[.slice q' n' c'] 26)
  obtain ⟨sb, hxb_⟩ : ∃ b, b = w1.heap.size := ⟨_, rfl⟩
  obtain ⟨w2, hw_⟩ : ∃ w_, w1.alloc (.cells #[.slice q' n' c'] 26) = w_ := ⟨_, rfl⟩
  have hz_ : w2.heap.size = sb + 1 := by rw [← hw_, hxb_]; exact alloc_size _ _
  rw [hw_] at hal_ hb_
  rw [← hxb_] at hb_
  have Hw2 := Lib.hid hw_
  have Hx2 := Lib.hid hxb_
  have Ha2 := Lib.hid hal_
  have Hb2 := Lib.hid hb_
  have Hz2 := Lib.hid hz_
  clear hal_ hb_ hxb_ hw_ hz_
  have hal_ := (Chg.refl NoB w2).alloc (.cells #[.string (tx f1), .string (tx f2)] 33)
  have hb_ := heap_alloc_new w2 (.cells #[.string (tx f1), .string (tx f2)] 33)
  obtain ⟨fb, hxb_⟩ : ∃ b, b = w2.heap.size := ⟨_, rfl⟩
  obtain ⟨w3, hw_⟩ : ∃ w_, w2.alloc (.cells #[.string (tx f1), .string (tx f2)] 33) = w_ := ⟨_, rfl⟩
  have hz_ : w3.heap.size = fb + 1 := by rw [← hw_, hxb_]; exact alloc_size _ _
  rw [hw_] at hal_ hb_
  rw [← hxb_] at hb_
  have Hw3 := Lib.hid hw_
  have Hx3 := Lib.hid hxb_
  have Ha3 := Lib.hid hal_
  have Hb3 := Lib.hid hb_
  have Hz3 := Lib.hid hz_
  clear hal_ hb_ hxb_ hw_ hz_
  have hx2 : tb + 1 = sb := by rw [Hx2.out, Hz1.out]
  have hx3 : sb + 1 = fb := by rw [Hx3.out, Hz2.out]
  have Hc3 := Lib.hid (Ha1.out.trans (Ha2.out.trans Ha3.out))
  have HT3 := Lib.hid (row_kept (Ha2.out.trans Ha3.out) Hb1.out id)
  have HU3 := Lib.hid (row_kept Ha3.out Hb2.out id)
  have HF3 := Lib.hid Hb3.out
  have Hlt := Lib.hid (show W.heap.size ≤ tb ∧ tb < sb ∧ sb < fb ∧ fb < w3.heap.size by have := Hx1.out; have := Hz1.out; have := Hx2.out; have := Hz2.out; have := Hx3.out; have := Hz3.out; omega)
  go_enter Tryz.func4, Tryz.ntmps4
  go_upto_region 1 with fail
  rw [Hw1.out, Hw2.out, Hw3.out, ← Hx1.out]
  rw [hx2, hx3]
  clear hx2 hx3
  go_wp2_with fail
  refine (talive_any W.heap.size w3 ((Hlb.out.keep Hc3.out)) (ml_keep Hml.out Hc3.out)).mono ?_
  rintro e w4 ⟨rfl, hc4⟩
  have Hc4 := Lib.hid (Hc3.out.trans hc4)
  have HT4 := Lib.hid (row_kept hc4 HT3.out id)
  have HU4 := Lib.hid (row_kept hc4 HU3.out id)
  have HF4 := Lib.hid (row_kept hc4 HF3.out id)
  clear hc4
  have t0 := var1 HT4.out
  have Hgr := Lib.hid (tgreat_any l Hr.out.1 Hr.out.2 _ _ kb ko w4 (Hs.out w4 Hc4.out))
  obtain ⟨g, hg⟩ : ∃ g, g = greatF l := ⟨_, rfl⟩
  rw [← hg] at Hgr
  have Hg := Lib.hid hg
  clear hg
  cases g with
  | true =>
    go_wp2_with fail
    refine Hgr.out.mono ?_
    rintro e w5 ⟨rfl, hc5⟩
    have Hc5 := Lib.hid (Hc4.out.trans hc5)
    clear hc5 t0
    go_wp2_with fail
    go_ret
    exact ⟨rfl, Hc5.out⟩
  | false =>
  go_wp2_with fail
  refine Hgr.out.mono ?_
  rintro e w5 ⟨rfl, hc5⟩
  have Hc5 := Lib.hid (Hc4.out.trans hc5)
  have HT5 := Lib.hid (row_kept hc5 HT4.out id)
  have HU5 := Lib.hid (row_kept hc5 HU4.out id)
  have HF5 := Lib.hid (row_kept hc5 HF4.out id)
  clear hc5 t0
  have u0 := var1 HU5.out
  have Hgr2 := Lib.hid (tgreat_any u Hru.out.1 Hru.out.2 _ _ jb jo w5 (Hu.out w5 Hc5.out))
  obtain ⟨g2, hg2⟩ : ∃ g, g = greatF u := ⟨_, rfl⟩
  rw [← hg2] at Hgr2
  have Hg2 := Lib.hid hg2
  clear hg2
  cases g2 with
  | true =>
    go_wp2_with fail
    refine Hgr2.out.mono ?_
    rintro e w6 ⟨rfl, hc6⟩
    have Hc6 := Lib.hid (Hc5.out.trans hc6)
    clear hc6 u0
    go_wp2_with fail
    go_ret
    exact ⟨rfl, Hc6.out⟩
  | false =>
  go_wp2_with fail
  refine Hgr2.out.mono ?_
  rintro e w6 ⟨rfl, hc6⟩
  have Hc6 := Lib.hid (Hc5.out.trans hc6)
  have HT6 := Lib.hid (row_kept hc6 HT5.out id)
  have HU6 := Lib.hid (row_kept hc6 HU5.out id)
  have HF6 := Lib.hid (row_kept hc6 HF5.out id)
  clear hc6 u0
  obtain ⟨f0, f0'⟩ := var2 HF6.out
  have Hgr3 := Lib.hid (great1_any (f1, f2) Hrf.out w6)
  obtain ⟨g3, hg3⟩ : ∃ g, g = greatF [(f1, f2)] := ⟨_, rfl⟩
  rw [← hg3] at Hgr3
  have Hg3 := Lib.hid hg3
  clear hg3
  cases g3 with
  | true =>
    go_wp2_with fail
    refine Hgr3.out.mono ?_
    rintro e w7 ⟨rfl, hc7⟩
    have Hc7 := Lib.hid (Hc6.out.trans hc7)
    clear hc7 f0 f0'
    go_wp2_with fail
    go_ret
    exact ⟨rfl, Hc7.out⟩
  | false =>
  go_wp2_with fail
  refine Hgr3.out.mono ?_
  rintro e w7 ⟨rfl, hc7⟩
  have Hc7 := Lib.hid (Hc6.out.trans hc7)
  have HT7 := Lib.hid (row_kept hc7 HT6.out id)
  have HU7 := Lib.hid (row_kept hc7 HU6.out id)
  have HF7 := Lib.hid (row_kept hc7 HF6.out id)
  clear hc7 f0 f0'
  obtain ⟨hl, hw⟩ := great_sizes Hg.out.symm
  obtain ⟨hl2, hw2⟩ := great_sizes Hg2.out.symm
  obtain ⟨hf1, hf2⟩ := great1_no Hg3.out.symm
  change f1.length ≤ 131072 at hf1
  change f2.length ≤ 131072 at hf2
  obtain ⟨dP, yP, hP, HAP, HBP⟩ : ∃ d y, d.length ≤ 1048576 ∧ Hid (∀ w', Chg NoB W w' → Calls _ _ _ w' (OutP d y w')) ∧ Hid (∀ w', Chg NoB W w' → Calls _ _ _ w' (OutP d y w')) :=
    ⟨outL (putF l (f1, f2)), outE (putF l (f1, f2)), put_out, Lib.hid (fun w' h => (tput_any l (f1, f2) hl hw (by show f1.length ≤ _; omega) (by show f2.length ≤ _; omega) _ _ kb ko w' (ml_keep Hml.out h) (Hs.out w' h)).mono fun _ _ h => h.out), Lib.hid (fun w' h => (rput_any l (f1, f2) hl hw (by show f1.length ≤ _; omega) (by show f2.length ≤ _; omega) _ _ kb ko w' (ml_keep Hml.out h) (Hs.out w' h)).mono fun _ _ h => h.out)⟩
  have HLP := Lib.hid hP
  obtain ⟨dD, yD, hD, HAD, HBD⟩ : ∃ d y, d.length ≤ 1048576 ∧ Hid (∀ w', Chg NoB W w' → Calls _ _ _ w' (OutP d y w')) ∧ Hid (∀ w', Chg NoB W w' → Calls _ _ _ w' (OutP d y w')) :=
    ⟨outL (dropF l f1), outE (dropF l f1), drop_out hl, Lib.hid (fun w' h => (tdrop_any l f1 hl hw (by omega) _ _ kb ko w' (ml_keep Hml.out h) (Hs.out w' h)).mono fun _ _ h => h.out), Lib.hid (fun w' h => (rdrop_any l f1 hl hw (by omega) _ _ kb ko w' (ml_keep Hml.out h) (Hs.out w' h)).mono fun _ _ h => h.out)⟩
  have HLD := Lib.hid hD
  obtain ⟨dC, yC, hC, HAC, HBC⟩ : ∃ d y, d.length ≤ 1048576 ∧ Hid (∀ w', Chg NoB W w' → Calls _ _ _ w' (OutP d y w')) ∧ Hid (∀ w', Chg NoB W w' → Calls _ _ _ w' (OutP d y w')) :=
    ⟨outL (cutF l f1), outE (cutF l f1), cut_out hl, Lib.hid (fun w' h => (tcut_any l f1 hl hw (by omega) _ _ kb ko w' (ml_keep Hml.out h) (Hs.out w' h)).mono fun _ _ h => h.out), Lib.hid (fun w' h => (rcut_any l f1 hl hw (by omega) _ _ kb ko w' (ml_keep Hml.out h) (Hs.out w' h)).mono fun _ _ h => h.out)⟩
  have HLC := Lib.hid hC
  obtain ⟨dM, yM, hM, HAM, HBM⟩ : ∃ d y, d.length ≤ 1048576 ∧ Hid (∀ w', Chg NoB W w' → Calls _ _ _ w' (OutP d y w')) ∧ Hid (∀ w', Chg NoB W w' → Calls _ _ _ w' (OutP d y w')) :=
    ⟨outL (mountF l f1 u), outE (mountF l f1 u), mount_out, Lib.hid (fun w' h => (tmount_any l u f1 hl hw hl2 hw2 (by omega) _ _ kb ko _ _ jb jo w' (ml_keep Hml.out h) (Hs.out w' h) (Hu.out w' h)).mono fun _ _ h => h.out), Lib.hid (fun w' h => (rmount_any l u f1 hl hw hl2 hw2 (by omega) _ _ kb ko _ _ jb jo w' (ml_keep Hml.out h) (Hs.out w' h) (Hu.out w' h)).mono fun _ _ h => h.out)⟩
  have HLM := Lib.hid hM
  clear hl hw hl2 hw2 hf1 hf2 hP hD hC hM Hg Hg2 Hg3 Hgr Hgr2 Hgr3
  have t0 := var1 HT7.out
  obtain ⟨f0, f0'⟩ := var2 HF7.out
  go_wp2_with fail
  refine (HAP.out w7 Hc7.out).mono ?_
  intro e waP hp_
  obtain ⟨hc_, qaP, naP, caP, kaP, iaP, hn_, rfl, hs_⟩ := hp_.val
  have HnPa := Lib.hid hn_
  have HsPa := Lib.hid hs_
  have HccPa := Lib.hid hc_
  have HcwPa := Lib.hid (Hc7.out.trans hc_)
  clear hc_ hn_ hs_ hp_
  have HTPa := Lib.hid (row_kept HccPa.out HT7.out id)
  have HUPa := Lib.hid (row_kept HccPa.out HU7.out id)
  have HFPa := Lib.hid (row_kept HccPa.out HF7.out id)
  clear t0 f0 f0'
  have hal_ := (Chg.refl NoB waP).alloc (.cells #[.slice qaP naP caP] 26)
  have hb_ := heap_alloc_new waP (.cells #[.slice qaP naP caP] 26)
  obtain ⟨ab, hxb_⟩ : ∃ b, b = waP.heap.size := ⟨_, rfl⟩
  obtain ⟨wbP, hw_⟩ : ∃ w_, waP.alloc (.cells #[.slice qaP naP caP] 26) = w_ := ⟨_, rfl⟩
  have hz_ : wbP.heap.size = ab + 1 := by rw [← hw_, hxb_]; exact alloc_size _ _
  rw [hw_] at hal_ hb_
  rw [← hxb_] at hb_
  have HwPax := Lib.hid hw_
  have HxPax := Lib.hid hxb_
  have HaPax := Lib.hid hal_
  have HbPax := Lib.hid hb_
  have HzPax := Lib.hid hz_
  clear hal_ hb_ hxb_ hw_ hz_
  go_upto_region 6 with fail
  rw [HwPax.out, ← HxPax.out]
  have HTPaz := Lib.hid (row_kept HaPax.out HTPa.out id)
  have HUPaz := Lib.hid (row_kept HaPax.out HUPa.out id)
  have HFPaz := Lib.hid (row_kept HaPax.out HFPa.out id)
  have HAPaz := Lib.hid HbPax.out
  have HcPaz := Lib.hid (HcwPa.out.trans HaPax.out)
  have HsA := Lib.hid (HsPa.out.keep HaPax.out fun _ _ => id)
  have Hab := Lib.hid (show W.heap.size ≤ ab ∧ ab < wbP.heap.size by have h1 := HcwPa.out.size; have := HxPax.out; have := HzPax.out; omega)
  have t0 := var1 HTPaz.out
  obtain ⟨f0, f0'⟩ := var2 HFPaz.out
  go_wp2_with fail
  refine (HBP.out wbP HcPaz.out).mono ?_
  intro e wcP hp_
  obtain ⟨hc_, qbP, nbP, cbP, kbP, ibP, hn_, rfl, hs_⟩ := hp_.val
  have HnPb := Lib.hid hn_
  have HsPb := Lib.hid hs_
  have HccPb := Lib.hid hc_
  have HcwPb := Lib.hid (HcPaz.out.trans hc_)
  clear hc_ hn_ hs_ hp_
  have HTPb := Lib.hid (row_kept HccPb.out HTPaz.out id)
  have HUPb := Lib.hid (row_kept HccPb.out HUPaz.out id)
  have HFPb := Lib.hid (row_kept HccPb.out HFPaz.out id)
  have HAPb := Lib.hid (row_kept HccPb.out HAPaz.out id)
  have HsA2 := Lib.hid (HsA.out.keep HccPb.out fun _ _ => id)
  clear t0 f0 f0'
  have hal_ := (Chg.refl NoB wcP).alloc (.cells #[.slice qbP nbP cbP] 26)
  have hb_ := heap_alloc_new wcP (.cells #[.slice qbP nbP cbP] 26)
  obtain ⟨bb, hxb_⟩ : ∃ b, b = wcP.heap.size := ⟨_, rfl⟩
  obtain ⟨wdP, hw_⟩ : ∃ w_, wcP.alloc (.cells #[.slice qbP nbP cbP] 26) = w_ := ⟨_, rfl⟩
  have hz_ : wdP.heap.size = bb + 1 := by rw [← hw_, hxb_]; exact alloc_size _ _
  rw [hw_] at hal_ hb_
  rw [← hxb_] at hb_
  have HwPbx := Lib.hid hw_
  have HxPbx := Lib.hid hxb_
  have HaPbx := Lib.hid hal_
  have HbPbx := Lib.hid hb_
  have HzPbx := Lib.hid hz_
  clear hal_ hb_ hxb_ hw_ hz_
  go_upto_region 7 with fail
  rw [HwPbx.out, ← HxPbx.out]
  have HTPbz := Lib.hid (row_kept HaPbx.out HTPb.out id)
  have HUPbz := Lib.hid (row_kept HaPbx.out HUPb.out id)
  have HFPbz := Lib.hid (row_kept HaPbx.out HFPb.out id)
  have HAPbz := Lib.hid (row_kept HaPbx.out HAPb.out id)
  have HBPbz := Lib.hid HbPbx.out
  have HcPbz := Lib.hid (HcwPb.out.trans HaPbx.out)
  have HsB := Lib.hid (HsPb.out.keep HaPbx.out fun _ _ => id)
  have HsA3 := Lib.hid (HsA2.out.keep HaPbx.out fun _ _ => id)
  have Hbb := Lib.hid (show W.heap.size ≤ bb ∧ ab < bb ∧ fb < ab ∧ bb < wdP.heap.size by have h1 := HcwPb.out.size; have := HxPbx.out; have := HzPbx.out; have := Hab.out; have h2 := HccPb.out.size; have h3 := Hlt.out; have h4 := HxPax.out; have h5 := HccPa.out.size; have h6 := Hc7.out.size; have h7 := lt_of_block HF7.out; omega)
  have a0 := var1 HAPbz.out
  have b0 := var1 HBPbz.out
  have hyy : (yP != yP) = false := by simp
  have hye : (yP == yP) = true := by simp
  have HSm := Lib.hid (rsame_any _ _ _ _ _ _ _ _ _ _ wdP HLP.out HLP.out HsA3.out HsB.out)
  simp only [decide_true] at HSm
  go_wp2_with fail
  refine HSm.out.mono ?_
  rintro e wEP ⟨rfl, hce⟩
  have HcEP := Lib.hid (HcPbz.out.trans hce)
  have HTEP := Lib.hid (row_kept hce HTPbz.out id)
  have HUEP := Lib.hid (row_kept hce HUPbz.out id)
  have HFEP := Lib.hid (row_kept hce HFPbz.out id)
  have HAEP := Lib.hid (row_kept hce HAPbz.out id)
  have HBEP := Lib.hid (row_kept hce HBPbz.out id)
  clear a0 b0 hyy hye hce HSm HsA HsA2 HsA3 HsB
  have t0 := var1 HTEP.out
  obtain ⟨f0, f0'⟩ := var2 HFEP.out
  go_wp2_with fail
  refine (HAD.out wEP HcEP.out).mono ?_
  intro e waD hp_
  obtain ⟨hc_, qaD, naD, caD, kaD, iaD, hn_, rfl, hs_⟩ := hp_.val
  have HnDa := Lib.hid hn_
  have HsDa := Lib.hid hs_
  have HccDa := Lib.hid hc_
  have HcwDa := Lib.hid (HcEP.out.trans hc_)
  clear hc_ hn_ hs_ hp_
  have HTDa := Lib.hid (row_kept HccDa.out HTEP.out id)
  have HUDa := Lib.hid (row_kept HccDa.out HUEP.out id)
  have HFDa := Lib.hid (row_kept HccDa.out HFEP.out id)
  have HADa := Lib.hid (row_kept HccDa.out HAEP.out id)
  have HBDa := Lib.hid (row_kept HccDa.out HBEP.out id)
  clear t0 f0 f0'
  have a0 := var1 HADa.out
  have af := row_free HADa.out
  go_upto_region 10 with fail
  clear a0 af
  have Hst := Lib.hid (show Chg (fun y => y = ab) waD (waD.setCell ⟨ab, 0, none⟩ (.slice qaD naD caD)) from (Chg.refl (fun y => y = ab) waD).setCell (p := ⟨ab, 0, none⟩) (.inl rfl) _)
  have HADaz := Lib.hid (show (waD.setCell ⟨ab, 0, none⟩ (.slice qaD naD caD)).heap[ab]? = some (.cells #[.slice qaD naD caD] 26 (0, 0)) from heap_set HADa.out (i := 0) _)
  have HcDaz := Lib.hid (HcwDa.out.setCell (p := ⟨ab, 0, none⟩) (.inr Hab.out.1) (.slice qaD naD caD))
  generalize waD.setCell ⟨ab, 0, none⟩ (.slice qaD naD caD) = wbD at *
  have HTDaz := Lib.hid (row_kept Hst.out HTDa.out (by have := Hlt.out; have := Hab.out; have := Hbb.out; omega))
  have HUDaz := Lib.hid (row_kept Hst.out HUDa.out (by have := Hlt.out; have := Hab.out; have := Hbb.out; omega))
  have HFDaz := Lib.hid (row_kept Hst.out HFDa.out (by have := Hlt.out; have := Hab.out; have := Hbb.out; omega))
  have HBDaz := Lib.hid (row_kept Hst.out HBDa.out (by have := Hlt.out; have := Hab.out; have := Hbb.out; omega))
  have HsA := Lib.hid (HsDa.out.keep Hst.out fun y hy e => by have h1 : wEP.heap.size ≤ y := hy.1; have h2 : y = ab := e; have h3 := lt_of_block HAEP.out; omega)
  clear Hst
  have t0 := var1 HTDaz.out
  obtain ⟨f0, f0'⟩ := var2 HFDaz.out
  go_wp2_with fail
  refine (HBD.out wbD HcDaz.out).mono ?_
  intro e wcD hp_
  obtain ⟨hc_, qbD, nbD, cbD, kbD, ibD, hn_, rfl, hs_⟩ := hp_.val
  have HnDb := Lib.hid hn_
  have HsDb := Lib.hid hs_
  have HccDb := Lib.hid hc_
  have HcwDb := Lib.hid (HcDaz.out.trans hc_)
  clear hc_ hn_ hs_ hp_
  have HTDb := Lib.hid (row_kept HccDb.out HTDaz.out id)
  have HUDb := Lib.hid (row_kept HccDb.out HUDaz.out id)
  have HFDb := Lib.hid (row_kept HccDb.out HFDaz.out id)
  have HADb := Lib.hid (row_kept HccDb.out HADaz.out id)
  have HBDb := Lib.hid (row_kept HccDb.out HBDaz.out id)
  have HsA2 := Lib.hid (HsA.out.keep HccDb.out fun _ _ => id)
  clear t0 f0 f0'
  have b0 := var1 HBDb.out
  have bf := row_free HBDb.out
  go_upto_region 11 with fail
  clear b0 bf
  have Hst := Lib.hid (show Chg (fun y => y = bb) wcD (wcD.setCell ⟨bb, 0, none⟩ (.slice qbD nbD cbD)) from (Chg.refl (fun y => y = bb) wcD).setCell (p := ⟨bb, 0, none⟩) (.inl rfl) _)
  have HBDbz := Lib.hid (show (wcD.setCell ⟨bb, 0, none⟩ (.slice qbD nbD cbD)).heap[bb]? = some (.cells #[.slice qbD nbD cbD] 26 (0, 0)) from heap_set HBDb.out (i := 0) _)
  have HcDbz := Lib.hid (HcwDb.out.setCell (p := ⟨bb, 0, none⟩) (.inr Hbb.out.1) (.slice qbD nbD cbD))
  generalize wcD.setCell ⟨bb, 0, none⟩ (.slice qbD nbD cbD) = wdD at *
  have HTDbz := Lib.hid (row_kept Hst.out HTDb.out (by have := Hlt.out; have := Hab.out; have := Hbb.out; omega))
  have HUDbz := Lib.hid (row_kept Hst.out HUDb.out (by have := Hlt.out; have := Hab.out; have := Hbb.out; omega))
  have HFDbz := Lib.hid (row_kept Hst.out HFDb.out (by have := Hlt.out; have := Hab.out; have := Hbb.out; omega))
  have HADbz := Lib.hid (row_kept Hst.out HADb.out (by have := Hlt.out; have := Hab.out; have := Hbb.out; omega))
  have HsB := Lib.hid (HsDb.out.keep Hst.out fun y hy e => by have h1 : wbD.heap.size ≤ y := hy.1; have h2 : y = bb := e; have h3 := lt_of_block HBDaz.out; omega)
  have HsA3 := Lib.hid (HsA2.out.keep Hst.out fun y hy e => by have h1 : wEP.heap.size ≤ y := hy.1; have h2 : y = bb := e; have h3 := lt_of_block HBEP.out; omega)
  clear Hst
  have a0 := var1 HADbz.out
  have b0 := var1 HBDbz.out
  have hyy : (yD != yD) = false := by simp
  have hye : (yD == yD) = true := by simp
  have HSm := Lib.hid (rsame_any _ _ _ _ _ _ _ _ _ _ wdD HLD.out HLD.out HsA3.out HsB.out)
  simp only [decide_true] at HSm
  go_wp2_with fail
  refine HSm.out.mono ?_
  rintro e wED ⟨rfl, hce⟩
  have HcED := Lib.hid (HcDbz.out.trans hce)
  have HTED := Lib.hid (row_kept hce HTDbz.out id)
  have HUED := Lib.hid (row_kept hce HUDbz.out id)
  have HFED := Lib.hid (row_kept hce HFDbz.out id)
  have HAED := Lib.hid (row_kept hce HADbz.out id)
  have HBED := Lib.hid (row_kept hce HBDbz.out id)
  clear a0 b0 hyy hye hce HSm HsA HsA2 HsA3 HsB
  have t0 := var1 HTED.out
  obtain ⟨f0, f0'⟩ := var2 HFED.out
  go_wp2_with fail
  refine (HAC.out wED HcED.out).mono ?_
  intro e waC hp_
  obtain ⟨hc_, qaC, naC, caC, kaC, iaC, hn_, rfl, hs_⟩ := hp_.val
  have HnCa := Lib.hid hn_
  have HsCa := Lib.hid hs_
  have HccCa := Lib.hid hc_
  have HcwCa := Lib.hid (HcED.out.trans hc_)
  clear hc_ hn_ hs_ hp_
  have HTCa := Lib.hid (row_kept HccCa.out HTED.out id)
  have HUCa := Lib.hid (row_kept HccCa.out HUED.out id)
  have HFCa := Lib.hid (row_kept HccCa.out HFED.out id)
  have HACa := Lib.hid (row_kept HccCa.out HAED.out id)
  have HBCa := Lib.hid (row_kept HccCa.out HBED.out id)
  clear t0 f0 f0'
  have a0 := var1 HACa.out
  have af := row_free HACa.out
  go_upto_region 14 with fail
  clear a0 af
  have Hst := Lib.hid (show Chg (fun y => y = ab) waC (waC.setCell ⟨ab, 0, none⟩ (.slice qaC naC caC)) from (Chg.refl (fun y => y = ab) waC).setCell (p := ⟨ab, 0, none⟩) (.inl rfl) _)
  have HACaz := Lib.hid (show (waC.setCell ⟨ab, 0, none⟩ (.slice qaC naC caC)).heap[ab]? = some (.cells #[.slice qaC naC caC] 26 (0, 0)) from heap_set HACa.out (i := 0) _)
  have HcCaz := Lib.hid (HcwCa.out.setCell (p := ⟨ab, 0, none⟩) (.inr Hab.out.1) (.slice qaC naC caC))
  generalize waC.setCell ⟨ab, 0, none⟩ (.slice qaC naC caC) = wbC at *
  have HTCaz := Lib.hid (row_kept Hst.out HTCa.out (by have := Hlt.out; have := Hab.out; have := Hbb.out; omega))
  have HUCaz := Lib.hid (row_kept Hst.out HUCa.out (by have := Hlt.out; have := Hab.out; have := Hbb.out; omega))
  have HFCaz := Lib.hid (row_kept Hst.out HFCa.out (by have := Hlt.out; have := Hab.out; have := Hbb.out; omega))
  have HBCaz := Lib.hid (row_kept Hst.out HBCa.out (by have := Hlt.out; have := Hab.out; have := Hbb.out; omega))
  have HsA := Lib.hid (HsCa.out.keep Hst.out fun y hy e => by have h1 : wED.heap.size ≤ y := hy.1; have h2 : y = ab := e; have h3 := lt_of_block HAED.out; omega)
  clear Hst
  have t0 := var1 HTCaz.out
  obtain ⟨f0, f0'⟩ := var2 HFCaz.out
  go_wp2_with fail
  refine (HBC.out wbC HcCaz.out).mono ?_
  intro e wcC hp_
  obtain ⟨hc_, qbC, nbC, cbC, kbC, ibC, hn_, rfl, hs_⟩ := hp_.val
  have HnCb := Lib.hid hn_
  have HsCb := Lib.hid hs_
  have HccCb := Lib.hid hc_
  have HcwCb := Lib.hid (HcCaz.out.trans hc_)
  clear hc_ hn_ hs_ hp_
  have HTCb := Lib.hid (row_kept HccCb.out HTCaz.out id)
  have HUCb := Lib.hid (row_kept HccCb.out HUCaz.out id)
  have HFCb := Lib.hid (row_kept HccCb.out HFCaz.out id)
  have HACb := Lib.hid (row_kept HccCb.out HACaz.out id)
  have HBCb := Lib.hid (row_kept HccCb.out HBCaz.out id)
  have HsA2 := Lib.hid (HsA.out.keep HccCb.out fun _ _ => id)
  clear t0 f0 f0'
  have b0 := var1 HBCb.out
  have bf := row_free HBCb.out
  go_upto_region 15 with fail
  clear b0 bf
  have Hst := Lib.hid (show Chg (fun y => y = bb) wcC (wcC.setCell ⟨bb, 0, none⟩ (.slice qbC nbC cbC)) from (Chg.refl (fun y => y = bb) wcC).setCell (p := ⟨bb, 0, none⟩) (.inl rfl) _)
  have HBCbz := Lib.hid (show (wcC.setCell ⟨bb, 0, none⟩ (.slice qbC nbC cbC)).heap[bb]? = some (.cells #[.slice qbC nbC cbC] 26 (0, 0)) from heap_set HBCb.out (i := 0) _)
  have HcCbz := Lib.hid (HcwCb.out.setCell (p := ⟨bb, 0, none⟩) (.inr Hbb.out.1) (.slice qbC nbC cbC))
  generalize wcC.setCell ⟨bb, 0, none⟩ (.slice qbC nbC cbC) = wdC at *
  have HTCbz := Lib.hid (row_kept Hst.out HTCb.out (by have := Hlt.out; have := Hab.out; have := Hbb.out; omega))
  have HUCbz := Lib.hid (row_kept Hst.out HUCb.out (by have := Hlt.out; have := Hab.out; have := Hbb.out; omega))
  have HFCbz := Lib.hid (row_kept Hst.out HFCb.out (by have := Hlt.out; have := Hab.out; have := Hbb.out; omega))
  have HACbz := Lib.hid (row_kept Hst.out HACb.out (by have := Hlt.out; have := Hab.out; have := Hbb.out; omega))
  have HsB := Lib.hid (HsCb.out.keep Hst.out fun y hy e => by have h1 : wbC.heap.size ≤ y := hy.1; have h2 : y = bb := e; have h3 := lt_of_block HBCaz.out; omega)
  have HsA3 := Lib.hid (HsA2.out.keep Hst.out fun y hy e => by have h1 : wED.heap.size ≤ y := hy.1; have h2 : y = bb := e; have h3 := lt_of_block HBED.out; omega)
  clear Hst
  have a0 := var1 HACbz.out
  have b0 := var1 HBCbz.out
  have hyy : (yC != yC) = false := by simp
  have hye : (yC == yC) = true := by simp
  have HSm := Lib.hid (rsame_any _ _ _ _ _ _ _ _ _ _ wdC HLC.out HLC.out HsA3.out HsB.out)
  simp only [decide_true] at HSm
  go_wp2_with fail
  refine HSm.out.mono ?_
  rintro e wEC ⟨rfl, hce⟩
  have HcEC := Lib.hid (HcCbz.out.trans hce)
  have HTEC := Lib.hid (row_kept hce HTCbz.out id)
  have HUEC := Lib.hid (row_kept hce HUCbz.out id)
  have HFEC := Lib.hid (row_kept hce HFCbz.out id)
  have HAEC := Lib.hid (row_kept hce HACbz.out id)
  have HBEC := Lib.hid (row_kept hce HBCbz.out id)
  clear a0 b0 hyy hye hce HSm HsA HsA2 HsA3 HsB
  have t0 := var1 HTEC.out
  obtain ⟨f0, f0'⟩ := var2 HFEC.out
  have u0 := var1 HUEC.out
  go_wp2_with fail
  refine (HAM.out wEC HcEC.out).mono ?_
  intro e waM hp_
  obtain ⟨hc_, qaM, naM, caM, kaM, iaM, hn_, rfl, hs_⟩ := hp_.val
  have HnMa := Lib.hid hn_
  have HsMa := Lib.hid hs_
  have HccMa := Lib.hid hc_
  have HcwMa := Lib.hid (HcEC.out.trans hc_)
  clear hc_ hn_ hs_ hp_
  have HTMa := Lib.hid (row_kept HccMa.out HTEC.out id)
  have HUMa := Lib.hid (row_kept HccMa.out HUEC.out id)
  have HFMa := Lib.hid (row_kept HccMa.out HFEC.out id)
  have HAMa := Lib.hid (row_kept HccMa.out HAEC.out id)
  have HBMa := Lib.hid (row_kept HccMa.out HBEC.out id)
  clear t0 f0 f0' u0
  have a0 := var1 HAMa.out
  have af := row_free HAMa.out
  go_upto_region 18 with fail
  clear a0 af
  have Hst := Lib.hid (show Chg (fun y => y = ab) waM (waM.setCell ⟨ab, 0, none⟩ (.slice qaM naM caM)) from (Chg.refl (fun y => y = ab) waM).setCell (p := ⟨ab, 0, none⟩) (.inl rfl) _)
  have HAMaz := Lib.hid (show (waM.setCell ⟨ab, 0, none⟩ (.slice qaM naM caM)).heap[ab]? = some (.cells #[.slice qaM naM caM] 26 (0, 0)) from heap_set HAMa.out (i := 0) _)
  have HcMaz := Lib.hid (HcwMa.out.setCell (p := ⟨ab, 0, none⟩) (.inr Hab.out.1) (.slice qaM naM caM))
  generalize waM.setCell ⟨ab, 0, none⟩ (.slice qaM naM caM) = wbM at *
  have HTMaz := Lib.hid (row_kept Hst.out HTMa.out (by have := Hlt.out; have := Hab.out; have := Hbb.out; omega))
  have HUMaz := Lib.hid (row_kept Hst.out HUMa.out (by have := Hlt.out; have := Hab.out; have := Hbb.out; omega))
  have HFMaz := Lib.hid (row_kept Hst.out HFMa.out (by have := Hlt.out; have := Hab.out; have := Hbb.out; omega))
  have HBMaz := Lib.hid (row_kept Hst.out HBMa.out (by have := Hlt.out; have := Hab.out; have := Hbb.out; omega))
  have HsA := Lib.hid (HsMa.out.keep Hst.out fun y hy e => by have h1 : wEC.heap.size ≤ y := hy.1; have h2 : y = ab := e; have h3 := lt_of_block HAEC.out; omega)
  clear Hst
  have t0 := var1 HTMaz.out
  obtain ⟨f0, f0'⟩ := var2 HFMaz.out
  have u0 := var1 HUMaz.out
  go_wp2_with fail
  refine (HBM.out wbM HcMaz.out).mono ?_
  intro e wcM hp_
  obtain ⟨hc_, qbM, nbM, cbM, kbM, ibM, hn_, rfl, hs_⟩ := hp_.val
  have HnMb := Lib.hid hn_
  have HsMb := Lib.hid hs_
  have HccMb := Lib.hid hc_
  have HcwMb := Lib.hid (HcMaz.out.trans hc_)
  clear hc_ hn_ hs_ hp_
  have HTMb := Lib.hid (row_kept HccMb.out HTMaz.out id)
  have HUMb := Lib.hid (row_kept HccMb.out HUMaz.out id)
  have HFMb := Lib.hid (row_kept HccMb.out HFMaz.out id)
  have HAMb := Lib.hid (row_kept HccMb.out HAMaz.out id)
  have HBMb := Lib.hid (row_kept HccMb.out HBMaz.out id)
  have HsA2 := Lib.hid (HsA.out.keep HccMb.out fun _ _ => id)
  clear t0 f0 f0' u0
  have b0 := var1 HBMb.out
  have bf := row_free HBMb.out
  go_upto_region 19 with fail
  clear b0 bf
  have Hst := Lib.hid (show Chg (fun y => y = bb) wcM (wcM.setCell ⟨bb, 0, none⟩ (.slice qbM nbM cbM)) from (Chg.refl (fun y => y = bb) wcM).setCell (p := ⟨bb, 0, none⟩) (.inl rfl) _)
  have HBMbz := Lib.hid (show (wcM.setCell ⟨bb, 0, none⟩ (.slice qbM nbM cbM)).heap[bb]? = some (.cells #[.slice qbM nbM cbM] 26 (0, 0)) from heap_set HBMb.out (i := 0) _)
  have HcMbz := Lib.hid (HcwMb.out.setCell (p := ⟨bb, 0, none⟩) (.inr Hbb.out.1) (.slice qbM nbM cbM))
  generalize wcM.setCell ⟨bb, 0, none⟩ (.slice qbM nbM cbM) = wdM at *
  have HTMbz := Lib.hid (row_kept Hst.out HTMb.out (by have := Hlt.out; have := Hab.out; have := Hbb.out; omega))
  have HUMbz := Lib.hid (row_kept Hst.out HUMb.out (by have := Hlt.out; have := Hab.out; have := Hbb.out; omega))
  have HFMbz := Lib.hid (row_kept Hst.out HFMb.out (by have := Hlt.out; have := Hab.out; have := Hbb.out; omega))
  have HAMbz := Lib.hid (row_kept Hst.out HAMb.out (by have := Hlt.out; have := Hab.out; have := Hbb.out; omega))
  have HsB := Lib.hid (HsMb.out.keep Hst.out fun y hy e => by have h1 : wbM.heap.size ≤ y := hy.1; have h2 : y = bb := e; have h3 := lt_of_block HBMaz.out; omega)
  have HsA3 := Lib.hid (HsA2.out.keep Hst.out fun y hy e => by have h1 : wEC.heap.size ≤ y := hy.1; have h2 : y = bb := e; have h3 := lt_of_block HBEC.out; omega)
  clear Hst
  have a0 := var1 HAMbz.out
  have b0 := var1 HBMbz.out
  have hyy : (yM != yM) = false := by simp
  have hye : (yM == yM) = true := by simp
  have HSm := Lib.hid (rsame_any _ _ _ _ _ _ _ _ _ _ wdM HLM.out HLM.out HsA3.out HsB.out)
  simp only [decide_true] at HSm
  go_wp2_with fail
  refine HSm.out.mono ?_
  rintro e wEM ⟨rfl, hce⟩
  have HcEM := Lib.hid (HcMbz.out.trans hce)
  clear a0 b0 hyy hye hce HSm HsA HsA2 HsA3 HsB
  go_wp2_with fail
  go_ret
  exact ⟨rfl, HcEM.out⟩
/-FRAME-/
set_option maxRecDepth 100000 in
theorem treeDoes_lifted (os : Os) (started : os.Started) (H : Type) (enc : TypeId × Value → H) :
    ReturnsInHanded {} Tryz.checked os 4 .any (fun w args => (Rows.treeDoesSpec.pre enc Tryz.prog Tryz.f4 [] false w args ∧ laidMetH Tryz.prog Rows.treeDoesRow.laid w) ∧ sizedMet enc Tryz.prog Tryz.f4 (OpenSpec.ofChange Rows.treeDoesSpec) false w args)
      (Rows.treeDoesSpec.post enc Tryz.prog Tryz.f4 false true false false) := by
  refine returns_both (C := Tryz.checked) (X := fun w _ => laidMetH Tryz.prog Rows.treeDoesRow.laid w) (fun _ _ _ hh h => h.of_heap hh) Tryz.own started (by kernel_rfl) Tryz.func4
    (ChangeSpec.witness_shaped (enc := enc) (C := Tryz.checked) (os := os) (X := fun w _ => laidMetH Tryz.prog Rows.treeDoesRow.laid w) false (World.laidAll Tryz.prog os Rows.treeDoesRow.laid) #[.agg #[.slice none 0 0], .agg #[.slice none 0 0], .agg #[.string ByteArray.empty, .string ByteArray.empty]] 8 (World.laidAll_os _ _ _)
      (World.shaped_of_ZipB (by kernel_rfl) (by kernel_rfl)) (by kernel_rfl) (by kernel_rfl) (by kernel_rfl)
      (by rw [MakeChecks.laidMetH_plain _ _ _ (by kernel_rfl)]; exact laidMet_laidAll _ (by kernel_rfl) (by kernel_rfl))) ?_
  intro W base args ds gs before hval0 hW _ hsz hL hsh _
  have hval : ∀ (j : Nat) t v, Tryz.f4.params[j]? = some t → args[j]? = some v → Value.okWide Tryz.prog W .any base t v := hval0
  have hW' := hW
  obtain ⟨p, q, hA0, hV, rfl, _, _⟩ := hW
  have hA : DataW.TrodAll enc Tryz.prog W 0 (fun _ => true) true Tryz.f4.params.toList args.toList ds p := hA0
  have hsz1 : (DataW.weightsEach Tryz.prog (Tryz.f4.params.toList ++ Rows.treeDoesSpec.plain.varTypes Tryz.prog) (ds ++ gs)).all (· ≤ reachBytes) = true := hsz
  rw [Tryz.params4] at hA hval hsz1
  obtain ⟨v0, v1, v2, d0, d1, d2, p0, p1, p2, rfl, rfl, rfl, h0, h1, h2⟩ := trodAll_three hA
  obtain ⟨rfl, rfl⟩ := trodVars_none hV
  obtain ⟨l0, c0, kb0, ko0, rfl, hn0, hr0⟩ := open_tree (hval 0 26 v0 rfl rfl) h0 (fun m hm => of_decide_eq_true (List.all_eq_true.1 hsz1 m (DataW.weights_mem_each (j := 0) (t := 26) (d := d0) rfl rfl m hm)))
  obtain ⟨l1, c1, kb1, ko1, rfl, hn1, hr1⟩ := open_tree (hval 1 26 v1 rfl rfl) h1 (fun m hm => of_decide_eq_true (List.all_eq_true.1 hsz1 m (DataW.weights_mem_each (j := 1) (t := 26) (d := d1) rfl rfl m hm)))
  obtain ⟨f2, rfl, hr2⟩ := open_file (hval 2 33 v2 rfl rfl) h2 (fun m hm => of_decide_eq_true (List.all_eq_true.1 hsz1 m (DataW.weights_mem_each (j := 2) (t := 33) (d := d2) rfl rfl m hm)))
  simp only [List.append_nil] at hW'
  rw [MakeChecks.laidMetH_plain _ _ _ (by kernel_rfl)] at hL
  have hL' : laidMet Tryz.prog [("math/bits.deBruijn32tab", Rows.laid_math_bits_deBruijn32tab), ("math/bits.deBruijn64tab", Rows.laid_math_bits_deBruijn64tab), ("internal/strconv.uint64pow10", Rows.laid_internal_strconv_uint64pow10), ("unicode/utf8.acceptRanges", Rows.laid_unicode_utf8_acceptRanges), ("unicode/utf8.first", Rows.laid_unicode_utf8_first)] W := hL
  have hlb : Lw W.heap.size W := lw_of hL' (.tail _ (.tail _ (.head _)))
  have hml : Pth.Ml W := wml_of hsh
  clear hA0 hval0
  refine (treeDoes_all l0 _ kb0 ko0 l1 _ kb1 ko1 f2 W hn0 hr0 hn1 hr1 hr2 hlb hml).mono fun e W' ⟨he, hb⟩ => ?_
  subst he
  exact ⟨_, rfl, _, _, _, [], _, [], hW', trodAll_mk1 (shut_bool Tryz.underlying4 _), (trodAll_cons_mk (tree_stays h0 hb.below) (trodAll_cons_mk (tree_stays h1 hb.below) (trodAll_cons_mk (file_stays h2 hb.below) trodAll_mk0))), rfl, hb.below.frame _, fun h => by cases h⟩
theorem treeDoes_holds : Rows.TreeDoesSaid :=
  OpenClaim.holds_of_wide 4 Tryz.f4 rfl rfl rfl rfl rfl rfl rfl ⟨rfl, rfl, rfl, rfl, rfl⟩ rfl rfl rfl rfl rfl (by kernel_rfl) Tryz.func4 (by kernel_rfl)
    (of_decide_eq_true (by kernel_rfl)) (by unfold Func.isWrapper; first | (rw [if_pos (by decide +kernel)]; kernel_rfl) | (rw [if_neg (by decide +kernel)]; exact ⟨rfl, rfl⟩))
    (fun os started H enc _ => treeDoes_lifted os started H enc)
theorem treeDoes_card : Rows.TreeDoesCardSaid :=
  Claim7.holds_tied_plain_at .later [] [.data, .data, .data, .data, .pinned] true (true, "ae40126c67c6ca9ad63bc136dd30ebf461b3d4ff067546d356e722ee9505be06") true treeDoes_holds (fun _ h => by cases h) (by kernel_rfl) (fun _ h => by cases h) treeDoes_row_tie rfl ⟨rfl, rfl⟩ (by kernel_rfl) rfl
    (fun f fn hf hfn => by
      obtain rfl : f = 4 := Option.some.inj ((show Tryz.prog.funcNamed "sapling/saplinglaw05.TreeDoes" = some 4 by kernel_rfl).symm.trans hf) |>.symm
      obtain rfl : fn = Tryz.f4 := (Option.some.inj (Tryz.func4.symm.trans hfn)).symm
      exact ⟨by kernel_rfl, fun j t ht => by
        rw [Tryz.params4] at ht
        have hm : t ∈ [26, 26, 33] := by simpa using Array.mem_of_getElem? ht
        have hall : ([26, 26, 33].all fun u => !Tryz.prog.wantsStandIn u) = true := by kernel_rfl
        exact (show Tryz.prog.wantsStandIn t = false by simpa using List.all_eq_true.1 hall t hm)⟩)
    (by kernel_rfl)
#print axioms treeDoes_card
end Go.Proofs.YtilkcjcmcnlfnaaGreatDoor
