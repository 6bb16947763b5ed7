/- In every script each answer, the bytes, the acts, and whether the power is off, are the document's: the walk. Condition: the lengths within the form's reach. -/
import Derived.Test.YtpjnbcecbppeoaaDoesD
import Derived.Deep.CutRange
import Derived.Deep.RegionWith
import Derived.Deep.RegionHeld3
import Derived.Deep.CutBlock
namespace Go.Proofs.Ytpjnbcecbppeoaa
set_option linter.unusedVariables false
open Go.ChangeShapes Go.WideShapes Go.ChangeAt Go.RowKit
theorem pair_start {W w2 w3 w4 : World} {b m : Nat} {R M : Nat → Prop} {s t : RS} (h2 : Chg NoB W w2) (h3 : Chg NoB w2 w3) (hr : Rb w3 b R s) (hR : ∀ k, R k → w2.heap.size ≤ k ∧ k < w3.heap.size)
    (h4 : Chg NoB w3 w4) (hm : Mb w4 m M t) (hM : ∀ k, M k → w3.heap.size ≤ k ∧ k < w4.heap.size) : Pair W w4 b m R M s t := by
  have z2 := h2.size
  have z3 := h3.size
  have z4 := h4.size
  exact ⟨(h2.trans h3).trans h4, hr.keep h4, hm, fun k hk => by have := hR k hk; omega, fun k hk => by have := hM k hk; omega, fun k hk hk' => by have := hR k hk; have := hM k hk'; omega⟩
theorem down_q (b : Nat) (R : Nat → Prop) (s : RS) (w : World) (n : Nat) (h : Rb w b R s) :
    Calls Try.prog 24 #[.pointer (some ⟨b, 0, none⟩)] (w.drewN n) fun e w' => e = .returned (.bool s.down) ∧ w' = w.drewN n :=
  (down_any b R s _ (h.keep ((Chg.refl _ _).drewN n))).mono fun e w' hd => ⟨hd.1, hd.2.symm⟩
theorem up_q (b : Nat) (R : Nat → Prop) (s : RS) (u : Bool) (hu : s.down = u) (w : World) (n : Nat) (h : Rb w b R s) :
    Calls Try.prog 24 #[.pointer (some ⟨b, 0, none⟩)] (w.drewN n) fun e w' => e = .returned (.bool u) ∧ w' = w.drewN n := by
  subst hu; exact down_q b R s w n h
theorem actsq_eq (b : Nat) (R : Nat → Prop) (s : RS) (a : Nat) (ha : s.acts = a) (w : World) (n : Nat) (h : Rb w b R s) :
    Calls Try.prog 23 #[.pointer (some ⟨b, 0, none⟩)] (w.drewN n) fun e w' => e = .returned (.int .i64 a) ∧ w' = w.drewN n := by
  subst ha; exact acts_q b R s w n h
def ReadAs (w : World) (xs : List UInt8) (c : Int) (e : Ending) (w' : World) : Prop := ∃ v, e = .returned (.tuple #[v, .int .i64 c]) ∧ Own w' w.heap.size v xs ∧ Chg NoB w w'
theorem read_as_up (b : Nat) (R : Nat → Prop) (s : RS) (xs : List UInt8) (w : World) (h : Rb w b R s) (hd : s.down = false) (hx : s.xs = xs) :
    Calls Try.prog 22 #[.pointer (some ⟨b, 0, none⟩)] w (ReadAs w xs 0) := by
  subst hx
  refine (read_up b R s w h hd).mono fun e w' hq => ?_
  obtain ⟨v, h1, h2, h3⟩ := hq
  rw [code_up hd] at h1
  rw [hd] at h2
  exact ⟨v, h1, h2, h3⟩
theorem read_as_down (b : Nat) (R : Nat → Prop) (s : RS) (w : World) (h : Rb w b R s) (hd : s.down = true) :
    Calls Try.prog 22 #[.pointer (some ⟨b, 0, none⟩)] w (ReadAs w [] 70) := by
  refine (read_down b R s w h hd).mono fun e w' hq => ?_
  obtain ⟨v, h1, h2, h3⟩ := hq
  rw [code_off hd] at h1
  rw [hd] at h2
  exact ⟨v, h1, h2, h3⟩
theorem own_nil_shape {w : World} {base : Nat} {v : Value} (h : Own w base v []) : ∃ ad cap, v = .slice ad 0 cap := shape_of h
theorem sumB_mono (cs : List CallD) (j k : Nat) (h : j ≤ k) : sumB cs j ≤ sumB cs k := by
  unfold sumB
  have : cs.take k = cs.take j ++ (cs.take k).drop j := by
    have := List.take_append_drop j (cs.take k)
    rw [List.take_take, Nat.min_eq_left h] at this
    exact this.symm
  rw [this, List.map_append, List.sum_append]; omega
theorem var_cells (w : World) (x0 x1 x2 x3 : Value) :
    (w.alloc (.cells #[x0, x1, x2, x3] 31)).cell? ⟨w.heap.size, 0, none⟩ = some x0 ∧ (w.alloc (.cells #[x0, x1, x2, x3] 31)).cell? ⟨w.heap.size, 1, none⟩ = some x1 ∧
    (w.alloc (.cells #[x0, x1, x2, x3] 31)).cell? ⟨w.heap.size, 2, none⟩ = some x2 ∧ (w.alloc (.cells #[x0, x1, x2, x3] 31)).cell? ⟨w.heap.size, 3, none⟩ = some x3 := by
  have c := fun i => cell_of_row _ w.heap.size i _ 31 (0, 0) (heap_alloc_new w (.cells #[x0, x1, x2, x3] 31))
  exact ⟨by rw [c 0]; rfl, by rw [c 1]; rfl, by rw [c 2]; rfl, by rw [c 3]; rfl⟩
def Done (w : World) (e : Ending) (w' : World) : Prop := e = .returned (.bool true) ∧ Below w.heap.size w w'
set_option maxRecDepth 100000 in
set_option maxHeartbeats 4000000 in
theorem does_walk (b0 off cap c0 : Nat) (q0 : Option Addr) (xs : List UInt8) (cs : List CallD) (w : World) (Hcs : Hid (Calls1 w b0 off cs)) (Hx : Hid (Src w (.slice q0 xs.length c0) xs)) (hl : cs.length ≤ 9223372036854775807) (hnb : xs.length ≤ 140737488351232) :
    Calls Try.prog 3 #[.slice q0 xs.length c0, .slice (some ⟨b0, off, none⟩) cs.length cap] w (Done w) := by
  go_enter Try.func3, Try.ntmps3
  go_wp2_with fail
  refine (alive_any _).mono ?_
  rintro e w1 ⟨rfl, hc1⟩
  have HC1 := Lib.hid hc1
  have Hcs1 : Hid (Calls1 w1 b0 off cs) := fun r hr => (Hcs.out r hr).keep HC1.out
  clear hc1
  go_wp2_with fail
  refine (great_any b0 off cap xs.length c0 q0 cs w1 Hcs1 hl hnb).mono ?_
  rintro e w2 ⟨g, rfl, hc2, hg⟩
  have HC2 := Lib.hid (HC1.out.trans hc2)
  clear hc2 HC1 Hcs1
  cases g
  · have Hg := Lib.hid (hg rfl)
    clear hg
    have Hx2 := Lib.hid (Hx.out.chg HC2.out fun _ _ => id)
    have hxl : xs.length ≤ 4194304 := by have := Hg.out.2; omega
    have h60 : cs.length ≤ 60 := Hg.out.1
    go_wp2_with fail
    refine (new_more _ xs w2 Hx2.out hxl).mono ?_
    rintro e w3 ⟨b, R, rfl, hr, hc3, hR⟩
    have Hr := Lib.hid hr
    have HC3 := Lib.hid hc3
    have HR := Lib.hid hR
    have Hx3 := Lib.hid (Hx2.out.chg hc3 fun _ _ => id)
    clear hr hc3 hR
    go_wp2_with fail
    refine (mnew_any _ xs w3 Hx3.out hxl).mono ?_
    rintro e w4 ⟨m, M, rfl, hm, hc4, hM⟩
    have Hst : Hid (St w w4 b m 0) := ⟨R, M, _, _, pair_start HC2.out HC3.out Hr.out HR.out hc4 hm hM, ⟨rfl, rfl, rfl, rfl, rfl, fun x => rfl⟩, Nat.le_refl _⟩
    clear hm hc4 hM Hr HC3 HR Hx3 Hx2 HC2
    go_wp2_with fail
    go_loopw [8, 9, 10, 11, 12, 27] (fun c e f x g i wr => ∃ k : Nat, k ≤ cs.length ∧ i = .int .i64 k ∧ St w wr b m k) (fun _ _ _ _ _ i _ => cs.length - (intOf i).toNat)
    case atStart => exact ⟨0, Nat.zero_le _, rfl, Hst.out⟩
    case round =>
      obtain ⟨k, hk, rfl, hst⟩ := hrel
      have HS := Lib.hid hst
      clear hst Hst
      by_cases hlt : k < cs.length
      · obtain ⟨R, M, s, t, hp, hs, hac⟩ := HS.out
        have hat := (Hcs.out k hlt).keep hp.chg
        have Hsrc := Lib.hid (Hcs.out k hlt).src
        obtain ⟨d0, d1, d2, d3, _, dl, dn1, dn0⟩ := hat
        have hta : t.acts < 1000000000 := by omega
        have hsa : s.acts < 1000000000 := by rw [hs.sacts]; exact hta
        have hdl : cs[k].bs.length ≤ 4194304 := by
          have h1 := sumB_succ cs k hlt
          have h2 := sumB_mono cs (k + 1) cs.length (by omega)
          have h3 := Hg.out.2
          omega
        have Hta := Lib.hid hta
        have Hsa := Lib.hid hsa
        have Hdl := Lib.hid hdl
        have Hn1 := Lib.hid dn1
        have Hac := Lib.hid hac
        clear dn1 dn0 hta hsa hdl hac HS dl
        generalize cs[k] = d at *
        obtain ⟨kd, n, kk, q, c, ys⟩ := d
        simp only at d0 d1 d2 d3 Hsrc Hdl Hn1
        obtain ⟨vb, hvb⟩ : ∃ vb, vb = wr.heap.size := ⟨_, rfl⟩
        have hvR : ¬ R vb := fun x => by have := (hp.rW vb x).2; omega
        have hvM : ¬ M vb := fun x => by have := (hp.mW vb x).2; omega
        have hcells := var_cells wr (.int .i64 kd) (.int .i64 n) (.int .i64 kk) (.slice q ys.length c)
        have hp0 := hp.keep ((Chg.refl NoB wr).alloc (.cells #[.int .i64 kd, .int .i64 n, .int .i64 kk, .slice q ys.length c] 31))
        rw [← hvb] at hcells
        have Hp0 := Lib.hid hp0
        have Hcells := Lib.hid hcells
        have Hs := Lib.hid hs
        have Hvb := Lib.hid hvb
        have HvR := Lib.hid hvR
        have HvM := Lib.hid hvM
        clear hp hp0 hcells hs hvb hvR hvM
        go_upto_block 2 with (fail)
        generalize wr.alloc (.cells #[.int .i64 kd, .int .i64 n, .int .i64 kk, .slice q ys.length c] 31) = w5 at Hp0 Hcells ⊢
        rw [← Hvb.out]
        clear d0 d1 d2 d3
        go_cut [9, 10, 27] from 27 to 152 (fun e f i wx => ∃ cc, e = .int .i64 cc ∧ f = .int .i64 cc ∧ i = .int .i64 k ∧ St w wx b m (k + 1))
        case first =>
          obtain ⟨f0, f1, f2, f3⟩ := Hcells.out
          clear f0
          rcases (show kd = 0 ∨ kd = 1 ∨ kd = 2 ∨ kd = 3 ∨ kd = 4 ∨ kd = 5 ∨ (kd ≠ 0 ∧ kd ≠ 1 ∧ kd ≠ 2 ∧ kd ≠ 3 ∧ kd ≠ 4 ∧ kd ≠ 5) by omega) with rfl | rfl | rfl | rfl | rfl | rfl | ⟨h0, h1, h2, h3, h4, h5⟩
          · go_wp2_with fail
            go_region_held3 (fun w' => w'.cell? ⟨vb, 3, none⟩ = some (.slice q ys.length c)) (first | go_keep | assumption)
              (first
                | (go_at_call 11; refine (pw_r hqm ?_ Hsrc.out Hsa.out Hdl.out (Hs.out.wrC ys)).mono ?_; (first | exact Chg.refl _ _ | exact (Chg.refl _ _).drew | exact (Chg.refl _ _).drew.drew); rintro e w7 ⟨rfl, R7, hfin, hk7⟩; have hv7 := hk7.cell (p := ⟨vb, 3, none⟩) (u := .slice q ys.length c) (by assumption) HvR.out)
                | (go_at_call 11; refine (pw_r Hp0.out ?_ Hsrc.out Hsa.out Hdl.out (Hs.out.wrC ys)).mono ?_; (first | exact Chg.refl _ _ | exact (Chg.refl _ _).drew | exact (Chg.refl _ _).drew.drew); rintro e w6 ⟨rfl, R6, hqr, hk6⟩; have hv6 := hk6.cell (p := ⟨vb, 3, none⟩) (u := .slice q ys.length c) (by assumption) HvR.out)
                | (go_at_call 12; refine (pw_m hqr ?_ Hsrc.out Hta.out Hdl.out rfl).mono ?_; (first | exact Chg.refl _ _ | exact (Chg.refl _ _).drew | exact (Chg.refl _ _).drew.drew); rintro e w7 ⟨rfl, M7, hfin, hk7⟩; have hv7 := hk7.cell (p := ⟨vb, 3, none⟩) (u := .slice q ys.length c) (by assumption) HvM.out)
                | (go_at_call 12; refine (pw_m Hp0.out ?_ Hsrc.out Hta.out Hdl.out rfl).mono ?_; (first | exact Chg.refl _ _ | exact (Chg.refl _ _).drew | exact (Chg.refl _ _).drew.drew); rintro e w6 ⟨rfl, M6, hqm, hk6⟩; have hv6 := hk6.cell (p := ⟨vb, 3, none⟩) (u := .slice q ys.length c) (by assumption) HvM.out))
            all_goals (go_wp2_with fail; go_meet; exact ⟨_, rfl, rfl, rfl, _, _, _, _, hfin, Hs.out.wr ys, by have := wr_acts t ys; have := Hac.out; omega⟩)
          · go_wp2_with fail
            refine (pf_r Hp0.out (Chg.refl _ _) Hsa.out Hs.out.flC).mono ?_
            rintro e w6 ⟨rfl, R6, hq, hk6⟩
            have Hq := Lib.hid hq
            clear hq hk6
            go_wp2_with fail
            refine (pf_m Hq.out (Chg.refl _ _) Hta.out rfl).mono ?_
            rintro e w7 ⟨rfl, M7, hfin, hk7⟩
            have Hfin := Lib.hid hfin
            clear hfin hk7
            go_wp2_with fail
            go_meet
            exact ⟨_, rfl, rfl, rfl, _, _, _, _, Hfin.out, Hs.out.fl, by have := fl_acts t; have := Hac.out; omega⟩
          · go_wp2_with fail
            go_region_held3 (fun w' => w'.cell? ⟨vb, 1, none⟩ = some (.int .i64 n)) (first | go_keep | assumption)
              (first
                | (go_at_call 15; refine (pc_r hqm ?_ n Hsa.out (Hs.out.cutC n)).mono ?_; (first | exact Chg.refl _ _ | exact (Chg.refl _ _).drew | exact (Chg.refl _ _).drew.drew); rintro e w7 ⟨rfl, R7, hfin, hk7⟩; have hv7 := hk7.cell (p := ⟨vb, 1, none⟩) (u := .int .i64 n) (by assumption) HvR.out)
                | (go_at_call 15; refine (pc_r Hp0.out ?_ n Hsa.out (Hs.out.cutC n)).mono ?_; (first | exact Chg.refl _ _ | exact (Chg.refl _ _).drew | exact (Chg.refl _ _).drew.drew); rintro e w6 ⟨rfl, R6, hqr, hk6⟩; have hv6 := hk6.cell (p := ⟨vb, 1, none⟩) (u := .int .i64 n) (by assumption) HvR.out)
                | (go_at_call 16; refine (pc_m hqr ?_ n Hta.out rfl).mono ?_; (first | exact Chg.refl _ _ | exact (Chg.refl _ _).drew | exact (Chg.refl _ _).drew.drew); rintro e w7 ⟨rfl, M7, hfin, hk7⟩; have hv7 := hk7.cell (p := ⟨vb, 1, none⟩) (u := .int .i64 n) (by assumption) HvM.out)
                | (go_at_call 16; refine (pc_m Hp0.out ?_ n Hta.out rfl).mono ?_; (first | exact Chg.refl _ _ | exact (Chg.refl _ _).drew | exact (Chg.refl _ _).drew.drew); rintro e w6 ⟨rfl, M6, hqm, hk6⟩; have hv6 := hk6.cell (p := ⟨vb, 1, none⟩) (u := .int .i64 n) (by assumption) HvM.out))
            all_goals (go_wp2_with fail; go_meet; exact ⟨_, rfl, rfl, rfl, _, _, _, _, hfin, Hs.out.cut n, by have := cut_acts t n; have := Hac.out; omega⟩)
          · go_wp2_with fail
            refine (po_r Hp0.out (Chg.refl _ _) n).mono ?_
            rintro e w6 ⟨rfl, R6, hq, hk6⟩
            have g1 := hk6.cell f1 HvR.out
            have Hq := Lib.hid hq
            clear hq hk6
            go_wp2_with fail
            refine (po_m Hq.out (Chg.refl _ _) n).mono ?_
            rintro e w7 ⟨rfl, M7, hfin, hk7⟩
            have Hfin := Lib.hid hfin
            clear hfin hk7
            go_wp2_with fail
            go_meet
            exact ⟨_, rfl, rfl, rfl, _, _, _, _, Hfin.out, Hs.out.off n, by rw [moff_acts]; have := Hac.out; omega⟩
          · go_wp2_with fail
            refine (pn_r Hp0.out (Chg.refl _ _)).mono ?_
            rintro e w6 ⟨rfl, R6, hq, hk6⟩
            obtain ⟨ad, cap', e0, e2, e3, e6, _⟩ := hq.mcells
            have Hq := Lib.hid hq
            clear hq hk6
            go_wp2_with fail
            go_meet
            exact ⟨0, rfl, rfl, rfl, _, _, _, _, pn_m Hq.out, Hs.out.on, by show t.acts ≤ _; have := Hac.out; omega⟩
          · go_wp2_with fail
            refine (pa_r Hp0.out (Chg.refl _ _) n kk Hn1.out).mono ?_
            rintro e w6 ⟨rfl, R6, hq, hk6⟩
            have g1 := hk6.cell f1 HvR.out
            have g2 := hk6.cell f2 HvR.out
            have Hq := Lib.hid hq
            clear hq hk6
            go_wp2_with fail
            refine (pa_m Hq.out (Chg.refl _ _) n kk Hn1.out).mono ?_
            rintro e w7 ⟨rfl, M7, hfin, hk7⟩
            have Hfin := Lib.hid hfin
            clear hfin hk7
            go_wp2_with fail
            go_meet
            exact ⟨_, rfl, rfl, rfl, _, _, _, _, Hfin.out, Hs.out.arm n kk, by show t.acts ≤ _; have := Hac.out; omega⟩
          · have i0 : (kd == 0) = false := by simp [h0]
            have i1 : (kd == 1) = false := by simp [h1]
            have i2 : (kd == 2) = false := by simp [h2]
            have i3 : (kd == 3) = false := by simp [h3]
            have i4 : (kd == 4) = false := by simp [h4]
            have i5 : (kd == 5) = false := by simp [h5]
            go_wp2_with fail
            go_meet
            exact ⟨0, rfl, rfl, rfl, _, _, _, _, Hp0.out, Hs.out, by have := Hac.out; omega⟩
        case rest =>
          obtain ⟨cc, rfl, rfl, rfl, hst⟩ := hcut
          obtain ⟨R', M', s', t', hp', hs', hac'⟩ := hst
          cases hd : t'.down
          · have hds : s'.down = false := by rw [hs'.2.2.1]; exact hd
            have Hst' := Lib.hid (show St w wc b m (k + 1) from ⟨R', M', s', t', hp', hs', hac'⟩)
            have Hp' := Lib.hid hp'
            have Hs' := Lib.hid hs'
            have Hds := Lib.hid hds
            clear hp' hs' hac'
            go_wp2_with fail
            refine (read_as_up b R' s' t'.xs _ Hp'.out.r hds Hs'.out.1).mono ?_
            rintro e w8 ⟨v, rfl, ho, hc⟩
            have Hp8 := Lib.hid (Hp'.out.keep hc)
            have Hst8 := Lib.hid (Hst'.out.keep hc)
            obtain ⟨ad, cap', e0, e2, e3, e6, hsrc'⟩ := Hp8.out.mcells
            rw [hd] at e2
            simp only [Bool.not_false] at e2
            have hcv1 := fun n => ho.src.convN n
            have hcv2 := fun n => hsrc'.convN n
            generalize ByteArray.mk t'.xs.toArray = txt at hcv1 hcv2
            clear ho hc hsrc' hds hd
            go_wp2_with fail
            go_quiet ((first | (go_at_call 23; exact Calls.quiet_of_same (actsq_eq b R' s' t'.acts Hs'.out.sacts _ _ Hp8.out.r)) | (go_at_call 24; exact Calls.quiet_of_same (up_q b R' s' false Hds.out _ _ Hp8.out.r))))
            go_wp2
            go_roundw
            case rel => exact ⟨k + 1, by omega, by go_num, Hst8.out.keep ((Chg.refl _ _).drewN _)⟩
            case measure => simp [intOf]; omega
          · have hds : s'.down = true := by rw [hs'.2.2.1]; exact hd
            have Hst' := Lib.hid (show St w wc b m (k + 1) from ⟨R', M', s', t', hp', hs', hac'⟩)
            have Hp' := Lib.hid hp'
            have Hs' := Lib.hid hs'
            have Hds := Lib.hid hds
            clear hp' hs' hac'
            go_wp2_with fail
            refine (read_as_down b R' s' _ Hp'.out.r hds).mono ?_
            rintro e w8 ⟨v, rfl, ho, hc⟩
            have Hp8 := Lib.hid (Hp'.out.keep hc)
            have Hst8 := Lib.hid (Hst'.out.keep hc)
            obtain ⟨ad, cap', e0, e2, e3, e6, hsrc'⟩ := Hp8.out.mcells
            rw [hd] at e2
            simp only [Bool.not_true] at e2
            obtain ⟨av, cv, rfl⟩ := own_nil_shape ho
            clear ho hc hsrc' hds hd
            go_wp2_with fail
            go_quiet ((first | (go_at_call 23; exact Calls.quiet_of_same (actsq_eq b R' s' t'.acts Hs'.out.sacts _ _ Hp8.out.r)) | (go_at_call 24; exact Calls.quiet_of_same (up_q b R' s' true Hds.out _ _ Hp8.out.r))))
            go_wp2
            go_roundw
            case rel => exact ⟨k + 1, by omega, by go_num, Hst8.out.keep ((Chg.refl _ _).drewN _)⟩
            case measure => simp [intOf]; omega
      · obtain rfl : k = cs.length := by omega
        go_wp2_with fail
        refine (nil_off _ _).mono ?_
        rintro e w5 ⟨rfl, rfl⟩
        go_wp2_with fail
        refine (nil_on _).mono ?_
        rintro e w5 ⟨rfl, rfl⟩
        go_wp2_with fail
        refine (nil_arm _ _ _).mono ?_
        rintro e w5 ⟨rfl, rfl⟩
        go_wp2_with fail
        refine (nil_read _).mono ?_
        rintro e w5 ⟨rfl, rfl⟩
        go_wp2_with fail
        refine (nil_write _ _).mono ?_
        rintro e w5 ⟨rfl, rfl⟩
        go_wp2_with fail
        refine (nil_flush _).mono ?_
        rintro e w5 ⟨rfl, rfl⟩
        go_wp2_with fail
        refine (nil_cut _ _).mono ?_
        rintro e w5 ⟨rfl, rfl⟩
        go_wp2_with fail
        refine (nil_acts _).mono ?_
        rintro e w5 ⟨rfl, rfl⟩
        go_wp2_with fail
        refine (nil_down _).mono ?_
        rintro e w5 ⟨rfl, rfl⟩
        go_wp2_with fail
        go_ret
        obtain ⟨R', M', s, t, hp, _⟩ := HS.out
        exact ⟨rfl, hp.chg.below⟩
  · go_wp2_with fail
    go_ret
    exact ⟨rfl, HC2.out.below⟩
end Go.Proofs.Ytpjnbcecbppeoaa
