/- The contracts of a machine's instructions on files. Conditions: a machine as it ever is; the library's variables read as listed; the view is a tree that can be. -/
import Derived.Test.YthehpmffkkogpaaGreatDoorVqC
import Derived.RegionDies


namespace Go.Proofs.YthehpmffkkogpaaGreatDoor
set_option linter.unusedVariables false
open Go.ChangeShapes Go.WideShapes Go.ChangeAt Go.RowKit
theorem Lb.mlx {base : Nat} {w : World} (h : Lb base w) : Pth.Ml w := by obtain ⟨m, hm⟩ := h.ml; exact ⟨m, hm w (Below.refl _ _)⟩
theorem text_ok {w : World} {lo mb : Nat} {pv vv : Value} {s : MSt} {st : Nat} {ft : Int} {F : Value × Value} (hm : Mach w lo mb pv vv s st ft F) (hs : s.stack.length ≤ 64) (hne : 1 ≤ s.stack.length) (hk : (lastV s).1 = true) :
    Calls Tryz.prog 132 #[.pointer (some ⟨mb, 0, none⟩)] w fun e w' => ∃ F', MStep mb F F' w w' ∧ Mach w' lo mb pv vv (offS s) st ft F' ∧ e = .returned (.string (tx (lastV s).2.2)) :=
  (mtext_any hm hs hne).mono fun e w' ⟨F', h1, s', h2, h⟩ => by
    unfold txtR at h
    rw [if_pos hk] at h
    rcases h with ⟨a, ha, he⟩ | ⟨y, hy, _⟩
    · cases ha; exact ⟨F', h1, h2, he⟩
    · cases hy
theorem text_bad {w : World} {lo mb : Nat} {pv vv : Value} {s : MSt} {st : Nat} {ft : Int} {F : Value × Value} (hm : Mach w lo mb pv vv s st ft F) (hs : s.stack.length ≤ 64) (hne : 1 ≤ s.stack.length) (hk : (lastV s).1 = false) :
    Calls Tryz.prog 132 #[.pointer (some ⟨mb, 0, none⟩)] w fun e w' => ∃ F', MStep mb F F' w w' ∧ Mach w' lo mb pv vv (offS s) st ft F' ∧ e = .panicked [{ v := .iface 106 (.agg #[.int .i64 41]), recovered := false }] :=
  (mtext_any hm hs hne).mono fun e w' ⟨F', h1, s', h2, h⟩ => by
    unfold txtR at h
    rw [if_neg (by rw [hk]; decide)] at h
    rcases h with ⟨a, ha, _⟩ | ⟨y, hy, he⟩
    · cases ha
    · cases hy; exact ⟨F', h1, h2, he⟩
theorem Mach.setOut {w w1 : World} {lo mb : Nat} {pv vv : Value} {s : MSt} {st : Nat} {ft : Int} {F : Value × Value} (h : Mach w lo mb pv vv s st ft F) (hc : Chg NoB w w1) {d : List FileL} {q : Option Addr} {c kb ko : Nat} (hd : InpS w1 (NewB w w1) (.slice q d.length c) d kb ko) :
    Mach (w1.setCell ⟨mb, 2, none⟩ (.slice q d.length c)) lo mb pv vv { s with out := d } st ft F ∧ MStep mb F F w (w1.setCell ⟨mb, 2, none⟩ (.slice q d.length c)) := by
  obtain ⟨hlow, hnm⟩ := h.low
  have hb := h.bound
  obtain ⟨oq, oc, h1, h2, _, _, _⟩ := h.row
  obtain ⟨q', c', e, -, hcm, -⟩ := hd.sh
  have hcc : c' = c := by simp only [Value.slice.injEq] at e; exact e.2.2.symm
  have hst : Chg (fun k => k = mb) w1 (w1.setCell ⟨mb, 2, none⟩ (.slice q d.length c)) := (Chg.refl (fun k => k = mb) w1).setCell (p := ⟨mb, 2, none⟩) (.inl rfl) _
  have hset := heap_set (row_kept hc h1 id) (i := 2) (.slice q d.length c)
  rw [machC_set_pre.1] at hset
  refine ⟨⟨⟨q, c, hset, by omega, kb, ko, ?_⟩, ?_, ?_, h.ap, ⟨h.lo.1, Nat.le_trans h.lo.2 (Nat.le_trans hc.size hst.size)⟩, h.loc⟩, ⟨(hc.mono fun k _ e => e.elim).transR hst fun k _ e => .inl e, fun k hk => .inl hk⟩⟩
  · refine hd.move hst fun k hk hs => ⟨?_, ?_, ?_⟩
    · intro e; have := hs.1; omega
    · intro e; have := hs.1; omega
    · intro e; have := hb.2 k e; have := hs.1; omega
  · exact ownsRow_chg (ownsRow_chg h.st hc fun _ _ => id) hst fun k hk e => hnm (e ▸ .inl hk)
  · exact ownsRow_chg (ownsRow_chg h.ca hc fun _ _ => id) hst fun k hk e => hnm (e ▸ .inr hk)
set_option maxHeartbeats 8000000 in
set_option maxRecDepth 20000 in
theorem file26_any {w0 : World} {lo mb : Nat} {pv : Value} {s0 : MSt} {st : Nat} {ft : Int} {F0 : Value × Value} {len : Int} {view : List FileL} {vq : Option Addr} {vc kb ko : Nat} (hm : Mach w0 lo mb pv (.slice vq view.length vc) s0 st ft F0) (wf : WfS len s0) (hview : InpS w0 (fun k => k < mb) (.slice vq view.length vc) view kb ko) (hgv : goodF view = true) (base : Nat) (hlb : Lb base w0) (hbase : base ≤ mb) :
    Calls Tryz.prog 104 #[.pointer (some ⟨mb, 0, none⟩), .int .i64 26] w0 (VOut lo mb pv (.slice vq view.length vc) st ft F0 (fileR view 26 s0) (fun _ => .tuple #[]) w0) := by
  obtain ⟨r, hr⟩ : ∃ r, r = fileR view 26 s0 := ⟨_, rfl⟩
  rw [← hr]
  have H0 := Lib.hid (MStep.refl mb F0 w0)
  have M0 := Lib.hid hm
  have W0 := Lib.hid (And.intro wf (trivial : True))
  unfold fileR at hr
  have HLB := Lib.hid (fun w (F : Value × Value) (h : MStep mb F0 F w0 w) => hlb.mstep h hbase (fun k hk => by have := (hm.low.1 k hk).1; have := hm.lo.1; omega))
  have HV := Lib.hid (fun w (F : Value × Value) (h : MStep mb F0 F w0 w) => hview.keep h.chg (fun k hk e => by rcases e with e | e; omega; have := (hm.low.1 k e).1; have := hm.lo.1; omega))
  have hvl := (good_sizes hgv).1
  have Hgv := Lib.hid hgv
  have HG := Lib.hid (fun y w => give_any y w)
  clear hm wf hlb hview hgv
  rw [if_pos rfl] at hr
  have Hr0 := Lib.hid hr
  clear hr
  go_enter Tryz.func104, Tryz.ntmps104
  go_wp2_with fail
  refine (need_any 1 (by decide) M0.out W0.out.1.depth).mono ?_
  rintro e w1 ⟨F1, hs_, s1, hm_, (⟨a1, hr_, rfl⟩ | ⟨y, hr_, rfl⟩)⟩
  rotate_left
  · have hrj := Hr0.out
    rw [hr_] at hrj
    have Hf := Lib.hid (And.intro (H0.out.trans hs_) (And.intro hm_ hrj))
    clear hs_ hm_ hr_ hrj
    unfold quitP
    go_wp2_with fail
    exact ⟨rfl, F1, Hf.out.1, s1, Hf.out.2.1, .inr ⟨y, Hf.out.2.2, rfl⟩⟩
  have hrj := Hr0.out
  have hw_ := need_wf W0.out.1 1
  have hl_ := (need_len hr_).2
  rw [hr_] at hrj hw_
  rw [VR.then_ok] at hrj
  try dsimp only at hrj
  have H1 := Lib.hid (H0.out.trans hs_)
  have S1 := Lib.hid hs_
  have M1 := Lib.hid hm_
  have Hr1 := Lib.hid hrj
  have W1 := Lib.hid (show _ ∧ _ from hw_)
  have L1 := Lib.hid hl_
  clear hs_ hm_ hr_ hrj hw_ hl_
  have hm := (M1.out.keep (Chg.refl NoB w1).drew)
  have y1 := M1.out.cells.choose_spec.choose_spec.2.1
  have y1d : w1.drew.cell? ⟨mb, 1, none⟩ = some (.slice vq view.length vc) := y1
  cases hb : (lastV s1).1 with
  | true =>
    have hz := Hr1.out
    unfold txtR at hz
    rw [if_pos hb, VR.then_ok] at hz
    have HT := Lib.hid (text_ok hm W1.out.1.depth L1.out hb)
    have hw2 := off_wf W1.out.1
    have hlw := (last_wf W1.out.1).len
    obtain ⟨t, ht⟩ : ∃ t, t = (lastV s1).2.2 := ⟨_, rfl⟩
    rw [← ht] at HT hz hlw
    have Hz := Lib.hid hz
    have Hw2 := Lib.hid hw2
    have HGV := Lib.hid (fun w (F : Value × Value) (h : MStep mb F0 F w0 w) => get_any view t _ _ kb ko w (by omega) (HV.out w F h))
    obtain ⟨g1, hg1⟩ : ∃ g, g = (getF view t).1 := ⟨_, rfl⟩
    obtain ⟨g2, hg2⟩ : ∃ g, g = (getF view t).2 := ⟨_, rfl⟩
    rw [← hg1, ← hg2] at HGV Hz
    have hgl := getF_len Hgv.out t
    rw [← hg1] at hgl
    have Hgl := Lib.hid hgl
    have Hdr := Lib.hid (MStep.of_chg (mb := mb) (F := F1) ((Chg.refl NoB w1).drew))
    clear hm hz hw2 hlw ht hg1 hg2 hgl hb
    go_wp2_with fail
    go_region_with (first
      | (go_at_call 132; refine HT.out.mono ?_; rintro e w2 ⟨F2, hs2, hm2, rfl⟩; have H2 := Lib.hid ((H1.out.trans Hdr.out).trans hs2); have M2 := Lib.hid hm2; have y1b := hm2.cells.choose_spec.choose_spec.2.1; clear hs2 hm2)
      | (go_at_call 134; refine (HGV.out _ _ H2.out).mono ?_; rintro e w3 ⟨hc3, rfl⟩))
    all_goals
      replace H2 := Lib.hid (H2.out.trans (MStep.of_chg hc3))
      replace M2 := Lib.hid (M2.out.keep hc3)
      have W2 := Lib.hid (And.intro Hw2.out (trivial : True))
      obtain ⟨s2, hse⟩ : ∃ s2, s2 = offS s1 := ⟨_, rfl⟩
      rw [← hse] at M2 W2 Hz
      have Hr2 := Hz
      clear hc3 hse y1 y1d y1b
      go_wp2_with fail
      refine (pusht_any g1 M2.out W2.out.1.depth).mono ?_
      rintro e w4 ⟨F4, hs_, s4, hm_, (⟨a4, hr_, rfl⟩ | ⟨y, hr_, rfl⟩)⟩
      rotate_left
      · have hrj := Hr2.out
        rw [hr_] at hrj
        have Hf := Lib.hid (And.intro (H2.out.trans hs_) (And.intro hm_ hrj))
        clear hs_ hm_ hr_ hrj
        unfold quitP
        go_wp2_with fail
        exact ⟨rfl, F4, Hf.out.1, s4, Hf.out.2.1, .inr ⟨y, Hf.out.2.2, rfl⟩⟩
      have hrj := Hr2.out
      have hw_ := push_wf W2.out.1 (txtV_wf Hgl.out)
      have hl_ := trivial
      rw [hr_] at hrj hw_
      rw [VR.then_ok] at hrj
      try dsimp only at hrj
      have H4 := Lib.hid (H2.out.trans hs_)
      have S4 := Lib.hid hs_
      have M4 := Lib.hid hm_
      have Hr4 := Lib.hid hrj
      have W4 := Lib.hid (show _ ∧ _ from hw_)
      have L4 := Lib.hid hl_
      clear hs_ hm_ hr_ hrj hw_ hl_
      go_wp2_with fail
      refine (pushb_any g2 M4.out W4.out.1.depth).mono ?_
      rintro e w5 ⟨F5, hs_, s5, hm_, (⟨a, hr_, rfl⟩ | ⟨y, hr_, rfl⟩)⟩
      rotate_left
      · have hrj := Hr4.out
        rw [hr_] at hrj
        have Hf := Lib.hid (And.intro (H4.out.trans hs_) (And.intro hm_ hrj))
        clear hs_ hm_ hr_ hrj
        unfold quitP
        go_wp2_with fail
        exact ⟨rfl, F5, Hf.out.1, s5, Hf.out.2.1, .inr ⟨y, Hf.out.2.2, rfl⟩⟩
      have Hf := Lib.hid (And.intro (H4.out.trans hs_) (And.intro hm_ (Hr4.out.trans hr_)))
      clear hs_ hm_ hr_
      go_wp2_with fail
      first | go_end0 | refine bodyPost_ret (results_none rfl _ _ _) rfl ?_
      exact ⟨F5, Hf.out.1, s5, Hf.out.2.1, .inl ⟨(), Hf.out.2.2, rfl⟩⟩
  | false =>
    have hz := Hr1.out
    unfold txtR at hz
    rw [if_neg (by rw [hb]; decide)] at hz
    have HT := Lib.hid (text_bad hm W1.out.1.depth L1.out hb)
    have Hz := Lib.hid hz
    have Hdr := Lib.hid (MStep.of_chg (mb := mb) (F := F1) ((Chg.refl NoB w1).drew))
    clear hm hz hb
    go_wp2_with fail
    go_region_dies
    all_goals
      refine HT.out.mono ?_
      rintro e w2 ⟨F2, hs2, hm2, rfl⟩
      exact ⟨rfl, F2, (H1.out.trans Hdr.out).trans hs2, _, hm2, .inr ⟨41, Hz.out, rfl⟩⟩
set_option maxHeartbeats 8000000 in
set_option maxRecDepth 20000 in
theorem file27_any {w0 : World} {lo mb : Nat} {pv : Value} {s0 : MSt} {st : Nat} {ft : Int} {F0 : Value × Value} {len : Int} {view : List FileL} {vq : Option Addr} {vc kb ko : Nat} (hm : Mach w0 lo mb pv (.slice vq view.length vc) s0 st ft F0) (wf : WfS len s0) (hview : InpS w0 (fun k => k < mb) (.slice vq view.length vc) view kb ko) (hgv : goodF view = true) (base : Nat) (hlb : Lb base w0) (hbase : base ≤ mb) :
    Calls Tryz.prog 104 #[.pointer (some ⟨mb, 0, none⟩), .int .i64 27] w0 (VOut lo mb pv (.slice vq view.length vc) st ft F0 (fileR view 27 s0) (fun _ => .tuple #[]) w0) := by
  obtain ⟨r, hr⟩ : ∃ r, r = fileR view 27 s0 := ⟨_, rfl⟩
  rw [← hr]
  have H0 := Lib.hid (MStep.refl mb F0 w0)
  have M0 := Lib.hid hm
  have W0 := Lib.hid (And.intro wf (trivial : True))
  unfold fileR at hr
  have HLB := Lib.hid (fun w (F : Value × Value) (h : MStep mb F0 F w0 w) => hlb.mstep h hbase (fun k hk => by have := (hm.low.1 k hk).1; have := hm.lo.1; omega))
  have HV := Lib.hid (fun w (F : Value × Value) (h : MStep mb F0 F w0 w) => hview.keep h.chg (fun k hk e => by rcases e with e | e; omega; have := (hm.low.1 k e).1; have := hm.lo.1; omega))
  have hvl := (good_sizes hgv).1
  have Hgv := Lib.hid hgv
  have HG := Lib.hid (fun y w => give_any y w)
  clear hm wf hlb hview hgv
  rw [if_neg (by decide), if_pos rfl] at hr
  have Hr0 := Lib.hid hr
  clear hr
  have y1 := M0.out.cells.choose_spec.choose_spec.2.1
  obtain ⟨vn, hvn⟩ : ∃ z, z = view.length := ⟨_, rfl⟩
  have hvc : vn ≤ 32 := by omega
  rw [← hvn] at y1 Hr0 M0 ⊢
  clear hvn
  go_enter Tryz.func104, Tryz.ntmps104
  go_wp2_with fail
  refine (push_any (numV (vn : Nat)) M0.out W0.out.1.depth).mono ?_
  rintro e w1 ⟨F1, hs_, s1, hm_, (⟨a, hr_, rfl⟩ | ⟨y, hr_, rfl⟩)⟩
  rotate_left
  · have hrj := Hr0.out
    rw [hr_] at hrj
    have Hf := Lib.hid (And.intro (H0.out.trans hs_) (And.intro hm_ hrj))
    clear hs_ hm_ hr_ hrj
    unfold quitP
    go_wp2_with fail
    exact ⟨rfl, F1, Hf.out.1, s1, Hf.out.2.1, .inr ⟨y, Hf.out.2.2, rfl⟩⟩
  have Hf := Lib.hid (And.intro (H0.out.trans hs_) (And.intro hm_ (Hr0.out.trans hr_)))
  clear hs_ hm_ hr_
  go_wp2_with fail
  first | go_end0 | refine bodyPost_ret (results_none rfl _ _ _) rfl ?_
  exact ⟨F1, Hf.out.1, s1, Hf.out.2.1, .inl ⟨(), Hf.out.2.2, rfl⟩⟩
set_option maxHeartbeats 8000000 in
set_option maxRecDepth 20000 in
theorem file28_any {w0 : World} {lo mb : Nat} {pv : Value} {s0 : MSt} {st : Nat} {ft : Int} {F0 : Value × Value} {len : Int} {view : List FileL} {vq : Option Addr} {vc kb ko : Nat} (hm : Mach w0 lo mb pv (.slice vq view.length vc) s0 st ft F0) (wf : WfS len s0) (hview : InpS w0 (fun k => k < mb) (.slice vq view.length vc) view kb ko) (hgv : goodF view = true) (base : Nat) (hlb : Lb base w0) (hbase : base ≤ mb) :
    Calls Tryz.prog 104 #[.pointer (some ⟨mb, 0, none⟩), .int .i64 28] w0 (VOut lo mb pv (.slice vq view.length vc) st ft F0 (fileR view 28 s0) (fun _ => .tuple #[]) w0) := by
  obtain ⟨r, hr⟩ : ∃ r, r = fileR view 28 s0 := ⟨_, rfl⟩
  rw [← hr]
  have H0 := Lib.hid (MStep.refl mb F0 w0)
  have M0 := Lib.hid hm
  have W0 := Lib.hid (And.intro wf (trivial : True))
  unfold fileR at hr
  have HLB := Lib.hid (fun w (F : Value × Value) (h : MStep mb F0 F w0 w) => hlb.mstep h hbase (fun k hk => by have := (hm.low.1 k hk).1; have := hm.lo.1; omega))
  have HV := Lib.hid (fun w (F : Value × Value) (h : MStep mb F0 F w0 w) => hview.keep h.chg (fun k hk e => by rcases e with e | e; omega; have := (hm.low.1 k e).1; have := hm.lo.1; omega))
  have hvl := (good_sizes hgv).1
  have Hgv := Lib.hid hgv
  have HG := Lib.hid (fun y w => give_any y w)
  clear hm wf hlb hview hgv
  rw [if_neg (by decide), if_neg (by decide), if_pos rfl] at hr
  have Hr0 := Lib.hid hr
  clear hr
  obtain ⟨vn, hvn⟩ : ∃ z, z = view.length := ⟨_, rfl⟩
  have hvc : vn ≤ 32 := by omega
  have Hvn := Lib.hid hvn
  rw [← hvn] at Hr0 M0 HV ⊢
  clear hvn
  go_enter Tryz.func104, Tryz.ntmps104
  go_wp2_with fail
  refine (need_any 1 (by decide) M0.out W0.out.1.depth).mono ?_
  rintro e w1 ⟨F1, hs_, s1, hm_, (⟨a1, hr_, rfl⟩ | ⟨y, hr_, rfl⟩)⟩
  rotate_left
  · have hrj := Hr0.out
    rw [hr_] at hrj
    have Hf := Lib.hid (And.intro (H0.out.trans hs_) (And.intro hm_ hrj))
    clear hs_ hm_ hr_ hrj
    unfold quitP
    go_wp2_with fail
    exact ⟨rfl, F1, Hf.out.1, s1, Hf.out.2.1, .inr ⟨y, Hf.out.2.2, rfl⟩⟩
  have hrj := Hr0.out
  have hw_ := need_wf W0.out.1 1
  have hl_ := (need_len hr_).2
  rw [hr_] at hrj hw_
  rw [VR.then_ok] at hrj
  try dsimp only at hrj
  have H1 := Lib.hid (H0.out.trans hs_)
  have S1 := Lib.hid hs_
  have M1 := Lib.hid hm_
  have Hr1 := Lib.hid hrj
  have W1 := Lib.hid (show _ ∧ _ from hw_)
  have L1 := Lib.hid hl_
  clear hs_ hm_ hr_ hrj hw_ hl_
  go_wp2_with fail
  refine (num_any M1.out W1.out.1.depth (by have := L1.out; omega)).mono ?_
  rintro e w2 ⟨F2, hs_, s2, hm_, (⟨n2, hr_, rfl⟩ | ⟨y, hr_, rfl⟩)⟩
  rotate_left
  · have hrj := Hr1.out
    rw [hr_] at hrj
    have Hf := Lib.hid (And.intro (H1.out.trans hs_) (And.intro hm_ hrj))
    clear hs_ hm_ hr_ hrj
    unfold quitP
    go_wp2_with fail
    exact ⟨rfl, F2, Hf.out.1, s2, Hf.out.2.1, .inr ⟨y, Hf.out.2.2, rfl⟩⟩
  have hrj := Hr1.out
  have hw_ := num_wf W1.out.1
  have hl_ := (show s1.stack.length - 1 ≤ s2.stack.length by rw [num_off hr_, off_len]; exact Nat.le_refl _)
  rw [hr_] at hrj hw_
  rw [VR.then_ok] at hrj
  try dsimp only at hrj
  have H2 := Lib.hid (H1.out.trans hs_)
  have S2 := Lib.hid hs_
  have M2 := Lib.hid hm_
  have Hr2 := Lib.hid hrj
  have W2 := Lib.hid (show _ ∧ _ from hw_)
  have L2 := Lib.hid hl_
  clear hs_ hm_ hr_ hrj hw_ hl_
  have L2 := Lib.hid (Nat.le_trans (Nat.sub_le_sub_right L1.out 1) L2.out)
  have y1 := M2.out.cells.choose_spec.choose_spec.2.1
  have hz := Hr2.out
  have hrng := W2.out.2
  by_cases h0 : 0 ≤ n2
  · obtain ⟨m, rfl⟩ : ∃ m : Nat, n2 = m := ⟨n2.toNat, by omega⟩
    rw [if_pos h0, Int.toNat_natCast] at hz
    by_cases hlt : m < vn
    · have hlt' : m < view.length := by rw [← Hvn.out]; exact hlt
      have hv2 := HV.out _ _ H2.out
      obtain ⟨⟨q', c', e', -, hcm, hq⟩, hat⟩ := hv2
      simp only [Value.slice.injEq] at e'
      obtain ⟨rfl, -, rfl⟩ := e'
      obtain ⟨rfl, -⟩ := hq (by intro e; rw [e] at hlt'; simp at hlt')
      obtain ⟨g0, g1⟩ := hat m hlt'
      have hpl := ((good_sizes Hgv.out).2 _ (List.getElem_mem hlt')).1
      rw [List.getElem?_eq_getElem hlt'] at hz
      have hd : decide (0 ≤ (m : Int) ∧ (m : Int) < (vn : Int)) = true := by rw [decide_eq_true_eq]; omega
      rw [hd] at hz
      generalize view[m] = f at *
      obtain ⟨p, dd⟩ := f
      simp only at g0 hz hpl
      unfold maxLen at hcm
      replace Hr2 := Lib.hid hz
      clear hz hq hat g1 hd hlt'
      go_wp2_with fail
      refine (pusht_any p M2.out W2.out.1.depth).mono ?_
      rintro e w4 ⟨F4, hs_, s4, hm_, (⟨a4, hr_, rfl⟩ | ⟨y, hr_, rfl⟩)⟩
      rotate_left
      · have hrj := Hr2.out
        rw [hr_] at hrj
        have Hf := Lib.hid (And.intro (H2.out.trans hs_) (And.intro hm_ hrj))
        clear hs_ hm_ hr_ hrj
        unfold quitP
        go_wp2_with fail
        exact ⟨rfl, F4, Hf.out.1, s4, Hf.out.2.1, .inr ⟨y, Hf.out.2.2, rfl⟩⟩
      have hrj := Hr2.out
      have hw_ := push_wf W2.out.1 (txtV_wf (t := p) (by omega))
      have hl_ := trivial
      rw [hr_] at hrj hw_
      rw [VR.then_ok] at hrj
      try dsimp only at hrj
      have H4 := Lib.hid (H2.out.trans hs_)
      have S4 := Lib.hid hs_
      have M4 := Lib.hid hm_
      have Hr4 := Lib.hid hrj
      have W4 := Lib.hid (show _ ∧ _ from hw_)
      have L4 := Lib.hid hl_
      clear hs_ hm_ hr_ hrj hw_ hl_
      clear g0 y1
      go_wp2_with fail
      refine (pushb_any true M4.out W4.out.1.depth).mono ?_
      rintro e w5 ⟨F5, hs_, s5, hm_, (⟨a, hr_, rfl⟩ | ⟨y, hr_, rfl⟩)⟩
      rotate_left
      · have hrj := Hr4.out
        rw [hr_] at hrj
        have Hf := Lib.hid (And.intro (H4.out.trans hs_) (And.intro hm_ hrj))
        clear hs_ hm_ hr_ hrj
        unfold quitP
        go_wp2_with fail
        exact ⟨rfl, F5, Hf.out.1, s5, Hf.out.2.1, .inr ⟨y, Hf.out.2.2, rfl⟩⟩
      have Hf := Lib.hid (And.intro (H4.out.trans hs_) (And.intro hm_ (Hr4.out.trans hr_)))
      clear hs_ hm_ hr_
      go_wp2_with fail
      first | go_end0 | refine bodyPost_ret (results_none rfl _ _ _) rfl ?_
      exact ⟨F5, Hf.out.1, s5, Hf.out.2.1, .inl ⟨(), Hf.out.2.2, rfl⟩⟩
    · have hno : view[m]? = none := List.getElem?_eq_none (by rw [← Hvn.out]; omega)
      rw [hno] at hz
      have hd : decide (0 ≤ (m : Int) ∧ (m : Int) < (vn : Int)) = false := by rw [decide_eq_false_iff_not]; omega
      rw [hd] at hz
      try simp only at hz
      replace Hr2 := Lib.hid hz
      clear hz hd hno
      go_wp2_with fail
      refine (pusht_any [] M2.out W2.out.1.depth).mono ?_
      rintro e w4 ⟨F4, hs_, s4, hm_, (⟨a4, hr_, rfl⟩ | ⟨y, hr_, rfl⟩)⟩
      rotate_left
      · have hrj := Hr2.out
        rw [hr_] at hrj
        have Hf := Lib.hid (And.intro (H2.out.trans hs_) (And.intro hm_ hrj))
        clear hs_ hm_ hr_ hrj
        unfold quitP
        go_wp2_with fail
        exact ⟨rfl, F4, Hf.out.1, s4, Hf.out.2.1, .inr ⟨y, Hf.out.2.2, rfl⟩⟩
      have hrj := Hr2.out
      have hw_ := push_wf W2.out.1 (txtV_wf (t := []) (by decide))
      have hl_ := trivial
      rw [hr_] at hrj hw_
      rw [VR.then_ok] at hrj
      try dsimp only at hrj
      have H4 := Lib.hid (H2.out.trans hs_)
      have S4 := Lib.hid hs_
      have M4 := Lib.hid hm_
      have Hr4 := Lib.hid hrj
      have W4 := Lib.hid (show _ ∧ _ from hw_)
      have L4 := Lib.hid hl_
      clear hs_ hm_ hr_ hrj hw_ hl_
      clear y1
      go_wp2_with fail
      refine (pushb_any false M4.out W4.out.1.depth).mono ?_
      rintro e w5 ⟨F5, hs_, s5, hm_, (⟨a, hr_, rfl⟩ | ⟨y, hr_, rfl⟩)⟩
      rotate_left
      · have hrj := Hr4.out
        rw [hr_] at hrj
        have Hf := Lib.hid (And.intro (H4.out.trans hs_) (And.intro hm_ hrj))
        clear hs_ hm_ hr_ hrj
        unfold quitP
        go_wp2_with fail
        exact ⟨rfl, F5, Hf.out.1, s5, Hf.out.2.1, .inr ⟨y, Hf.out.2.2, rfl⟩⟩
      have Hf := Lib.hid (And.intro (H4.out.trans hs_) (And.intro hm_ (Hr4.out.trans hr_)))
      clear hs_ hm_ hr_
      go_wp2_with fail
      first | go_end0 | refine bodyPost_ret (results_none rfl _ _ _) rfl ?_
      exact ⟨F5, Hf.out.1, s5, Hf.out.2.1, .inl ⟨(), Hf.out.2.2, rfl⟩⟩
  · rw [if_neg h0] at hz
    have hd : decide (0 ≤ n2 ∧ n2 < (vn : Int)) = false := by rw [decide_eq_false_iff_not]; omega
    rw [hd] at hz
    replace Hr2 := Lib.hid hz
    clear hz hd
    go_wp2_with fail
    refine (pusht_any [] M2.out W2.out.1.depth).mono ?_
    rintro e w4 ⟨F4, hs_, s4, hm_, (⟨a4, hr_, rfl⟩ | ⟨y, hr_, rfl⟩)⟩
    rotate_left
    · have hrj := Hr2.out
      rw [hr_] at hrj
      have Hf := Lib.hid (And.intro (H2.out.trans hs_) (And.intro hm_ hrj))
      clear hs_ hm_ hr_ hrj
      unfold quitP
      go_wp2_with fail
      exact ⟨rfl, F4, Hf.out.1, s4, Hf.out.2.1, .inr ⟨y, Hf.out.2.2, rfl⟩⟩
    have hrj := Hr2.out
    have hw_ := push_wf W2.out.1 (txtV_wf (t := []) (by decide))
    have hl_ := trivial
    rw [hr_] at hrj hw_
    rw [VR.then_ok] at hrj
    try dsimp only at hrj
    have H4 := Lib.hid (H2.out.trans hs_)
    have S4 := Lib.hid hs_
    have M4 := Lib.hid hm_
    have Hr4 := Lib.hid hrj
    have W4 := Lib.hid (show _ ∧ _ from hw_)
    have L4 := Lib.hid hl_
    clear hs_ hm_ hr_ hrj hw_ hl_
    clear y1
    go_wp2_with fail
    refine (pushb_any false M4.out W4.out.1.depth).mono ?_
    rintro e w5 ⟨F5, hs_, s5, hm_, (⟨a, hr_, rfl⟩ | ⟨y, hr_, rfl⟩)⟩
    rotate_left
    · have hrj := Hr4.out
      rw [hr_] at hrj
      have Hf := Lib.hid (And.intro (H4.out.trans hs_) (And.intro hm_ hrj))
      clear hs_ hm_ hr_ hrj
      unfold quitP
      go_wp2_with fail
      exact ⟨rfl, F5, Hf.out.1, s5, Hf.out.2.1, .inr ⟨y, Hf.out.2.2, rfl⟩⟩
    have Hf := Lib.hid (And.intro (H4.out.trans hs_) (And.intro hm_ (Hr4.out.trans hr_)))
    clear hs_ hm_ hr_
    go_wp2_with fail
    first | go_end0 | refine bodyPost_ret (results_none rfl _ _ _) rfl ?_
    exact ⟨F5, Hf.out.1, s5, Hf.out.2.1, .inl ⟨(), Hf.out.2.2, rfl⟩⟩
set_option maxHeartbeats 8000000 in
set_option maxRecDepth 20000 in
theorem file29_any {w0 : World} {lo mb : Nat} {pv : Value} {s0 : MSt} {st : Nat} {ft : Int} {F0 : Value × Value} {len : Int} {view : List FileL} {vq : Option Addr} {vc kb ko : Nat} (hm : Mach w0 lo mb pv (.slice vq view.length vc) s0 st ft F0) (wf : WfS len s0) (hview : InpS w0 (fun k => k < mb) (.slice vq view.length vc) view kb ko) (hgv : goodF view = true) (base : Nat) (hlb : Lb base w0) (hbase : base ≤ mb) :
    Calls Tryz.prog 104 #[.pointer (some ⟨mb, 0, none⟩), .int .i64 29] w0 (VOut lo mb pv (.slice vq view.length vc) st ft F0 (fileR view 29 s0) (fun _ => .tuple #[]) w0) := by
  obtain ⟨r, hr⟩ : ∃ r, r = fileR view 29 s0 := ⟨_, rfl⟩
  rw [← hr]
  have H0 := Lib.hid (MStep.refl mb F0 w0)
  have M0 := Lib.hid hm
  have W0 := Lib.hid (And.intro wf (trivial : True))
  unfold fileR at hr
  have HLB := Lib.hid (fun w (F : Value × Value) (h : MStep mb F0 F w0 w) => hlb.mstep h hbase (fun k hk => by have := (hm.low.1 k hk).1; have := hm.lo.1; omega))
  have HV := Lib.hid (fun w (F : Value × Value) (h : MStep mb F0 F w0 w) => hview.keep h.chg (fun k hk e => by rcases e with e | e; omega; have := (hm.low.1 k e).1; have := hm.lo.1; omega))
  have hvl := (good_sizes hgv).1
  have Hgv := Lib.hid hgv
  have HG := Lib.hid (fun y w => give_any y w)
  clear hm wf hlb hview hgv
  rw [if_neg (by decide), if_neg (by decide), if_neg (by decide)] at hr
  have Hr0 := Lib.hid hr
  clear hr
  go_enter Tryz.func104, Tryz.ntmps104
  go_wp2_with fail
  refine (need_any 2 (by decide) M0.out W0.out.1.depth).mono ?_
  rintro e w1 ⟨F1, hs_, s1, hm_, (⟨a1, hr_, rfl⟩ | ⟨y, hr_, rfl⟩)⟩
  rotate_left
  · have hrj := Hr0.out
    rw [hr_] at hrj
    have Hf := Lib.hid (And.intro (H0.out.trans hs_) (And.intro hm_ hrj))
    clear hs_ hm_ hr_ hrj
    unfold quitP
    go_wp2_with fail
    exact ⟨rfl, F1, Hf.out.1, s1, Hf.out.2.1, .inr ⟨y, Hf.out.2.2, rfl⟩⟩
  have hrj := Hr0.out
  have hw_ := need_wf W0.out.1 2
  have hl_ := (need_len hr_).2
  rw [hr_] at hrj hw_
  rw [VR.then_ok] at hrj
  try dsimp only at hrj
  have H1 := Lib.hid (H0.out.trans hs_)
  have S1 := Lib.hid hs_
  have M1 := Lib.hid hm_
  have Hr1 := Lib.hid hrj
  have W1 := Lib.hid (show _ ∧ _ from hw_)
  have L1 := Lib.hid hl_
  clear hs_ hm_ hr_ hrj hw_ hl_
  go_wp2_with fail
  refine (mtext_any M1.out W1.out.1.depth (by have := L1.out; omega)).mono ?_
  rintro e w2 ⟨F2, hs_, s2, hm_, (⟨d2, hr_, rfl⟩ | ⟨y, hr_, rfl⟩)⟩
  rotate_left
  · have hrj := Hr1.out
    rw [hr_] at hrj
    have Hf := Lib.hid (And.intro (H1.out.trans hs_) (And.intro hm_ hrj))
    clear hs_ hm_ hr_ hrj
    unfold quitP
    go_wp2_with fail
    exact ⟨rfl, F2, Hf.out.1, s2, Hf.out.2.1, .inr ⟨y, Hf.out.2.2, rfl⟩⟩
  have hrj := Hr1.out
  have hw_ := txt_wf W1.out.1
  have hl_ := (show s1.stack.length - 1 ≤ s2.stack.length by rw [txt_off hr_, off_len]; exact Nat.le_refl _)
  rw [hr_] at hrj hw_
  rw [VR.then_ok] at hrj
  try dsimp only at hrj
  have H2 := Lib.hid (H1.out.trans hs_)
  have S2 := Lib.hid hs_
  have M2 := Lib.hid hm_
  have Hr2 := Lib.hid hrj
  have W2 := Lib.hid (show _ ∧ _ from hw_)
  have L2 := Lib.hid hl_
  clear hs_ hm_ hr_ hrj hw_ hl_
  have L2 := Lib.hid (Nat.le_trans (Nat.sub_le_sub_right L1.out 1) L2.out)
  go_wp2_with fail
  refine (mtext_any M2.out W2.out.1.depth (by have := L2.out; omega)).mono ?_
  rintro e w3 ⟨F3, hs_, s3, hm_, (⟨p3, hr_, rfl⟩ | ⟨y, hr_, rfl⟩)⟩
  rotate_left
  · have hrj := Hr2.out
    rw [hr_] at hrj
    have Hf := Lib.hid (And.intro (H2.out.trans hs_) (And.intro hm_ hrj))
    clear hs_ hm_ hr_ hrj
    unfold quitP
    go_wp2_with fail
    exact ⟨rfl, F3, Hf.out.1, s3, Hf.out.2.1, .inr ⟨y, Hf.out.2.2, rfl⟩⟩
  have hrj := Hr2.out
  have hw_ := txt_wf W2.out.1
  have hl_ := (show s2.stack.length - 1 ≤ s3.stack.length by rw [txt_off hr_, off_len]; exact Nat.le_refl _)
  rw [hr_] at hrj hw_
  rw [VR.then_ok] at hrj
  try dsimp only at hrj
  have H3 := Lib.hid (H2.out.trans hs_)
  have S3 := Lib.hid hs_
  have M3 := Lib.hid hm_
  have Hr3 := Lib.hid hrj
  have W3 := Lib.hid (show _ ∧ _ from hw_)
  have L3 := Lib.hid hl_
  clear hs_ hm_ hr_ hrj hw_ hl_
  have L3 := Lib.hid (Nat.le_trans (Nat.sub_le_sub_right L2.out 1) L3.out)
  have hd2 : d2.length ≤ 2048 := W2.out.2
  have hp3 : p3.length ≤ 2048 := W3.out.2
  have hm := M3.out
  obtain ⟨oq, oc, y0, y1, y2, y3, y52, y53, y54, y55, y56⟩ := hm.cells
  have yf := hm.free
  obtain ⟨oq', oc', hrow, hocm, ob, oo, hout⟩ := hm.row
  have hgo := good_sizes W3.out.1.out
  have e2 := cell_of_row w3 mb 2 _ _ (0, 0) hrow
  rw [show (machC pv (.slice vq view.length vc) (.slice oq' s3.out.length oc') F3.1 s3.loc F3.2 s3.next st s3.done ft)[2]? = some (.slice oq' s3.out.length oc') from rfl, y2] at e2
  simp only [Option.some.injEq, Value.slice.injEq] at e2
  obtain ⟨rfl, -, rfl⟩ := e2
  have HPt := Lib.hid (tput_any s3.out (p3, d2) (by omega) (fun x hx => by have := hgo.2 x hx; omega) (by show p3.length ≤ _; omega) (by show d2.length ≤ _; omega) _ _ ob oo w3 (HLB.out _ _ H3.out).mlx hout)
  have Hz := Hr3
  obtain ⟨on, hon⟩ : ∃ z, z = s3.out.length := ⟨_, rfl⟩
  rw [← hon] at y2 HPt
  clear hm hrow hout hgo hon y0 y1 y3 y52 y53 y54 y55 y56
  go_wp2_with fail
  refine HPt.out.mono ?_
  intro e w4 hmk
  obtain ⟨hc4, q4, n4, c4, kb4, ko4, hn4, rfl, hin⟩ := hmk.out
  try rw [← hn4] at hin
  obtain ⟨u, hu⟩ : ∃ u, u = putF s3.out (p3, d2) := ⟨_, rfl⟩
  rw [← hu] at hin hn4 Hz ⊢
  have Hc4 := Lib.hid hc4
  have Hin := Lib.hid hin
  have Hn4 := Lib.hid hn4
  have hup : ∀ y, u = .error y → y ≠ 0 := fun y hy => by
    rw [hu] at hy
    unfold putF at hy
    split at hy
    · exact make_err hy
    · cases hy; decide
  have Hup := Lib.hid hup
  clear hmk hc4 hin hn4 hu hup y2 HPt
  have hal_ := (Chg.refl NoB w4).alloc (.cells #[.slice q4 n4 c4] 25)
  have hb_ := heap_alloc_new w4 (.cells #[.slice q4 n4 c4] 25)
  obtain ⟨tb, hxb_⟩ : ∃ b, b = w4.heap.size := ⟨_, rfl⟩
  obtain ⟨w5, hw_⟩ : ∃ w_, w4.alloc (.cells #[.slice q4 n4 c4] 25) = w_ := ⟨_, rfl⟩
  have hz_ : w5.heap.size = tb + 1 := by rw [← hw_, hxb_]; exact alloc_size _ _
  rw [hw_] at hal_ hb_
  rw [← hxb_] at hb_
  have Hw5 := Lib.hid hw_
  have Hx5 := Lib.hid hxb_
  have Ha5 := Lib.hid hal_
  have Hb5 := Lib.hid hb_
  have Hz5 := Lib.hid hz_
  clear hal_ hb_ hxb_ hw_ hz_
  cases u with
  | error y =>
    have hne := Hup.out y rfl
    have hy' : (outE (.error y) : Int) = y := rfl
    rw [hy']
    have hn' : (y == 0) = false := by rw [beq_eq_false_iff_ne]; exact hne
    have hn2 : (y != 0) = true := by simp [bne, hn']
    have hz := Hz.out
    try simp only at hz
    replace Hz := Lib.hid hz
    have M5 := Lib.hid ((M3.out.keep Hc4.out).keep Ha5.out)
    have H5 := Lib.hid (H3.out.trans (MStep.of_chg (Hc4.out.trans Ha5.out)))
    clear hz hne hy' Hup
    go_upto_region 20 with fail
    rw [Hw5.out]
    go_wp2_with fail
    refine (HG.out _ _).mono ?_
    rintro e w' ⟨rfl, rfl⟩
    unfold quitP
    go_wp2_with fail
    exact ⟨rfl, F3, H5.out, s3, M5.out, .inr ⟨y, Hz.out, rfl⟩⟩
  | ok d =>
    have hn4 : n4 = d.length := Hn4.out
    subst hn4
    have hz := Hz.out
    try simp only at hz
    replace Hz := Lib.hid hz
    have hcc := Hc4.out.trans Ha5.out
    have hin5 : InpS w5 (NewB w3 w5) (.slice q4 d.length c4) d kb4 ko4 := (Hin.out.keep Ha5.out fun _ _ => id).mono fun k hk => ⟨hk.1, Nat.lt_of_lt_of_le hk.2 Ha5.out.size⟩
    have HS := Lib.hid (M3.out.setOut hcc hin5)
    have hm := M3.out.keep hcc
    have H5 := Lib.hid (H3.out)
    obtain ⟨oqx, ocx, y2⟩ : ∃ a b, w5.cell? ⟨mb, 2, none⟩ = some (.slice a s3.out.length b) := by obtain ⟨a, b, _, _, h, _⟩ := hm.cells; exact ⟨a, b, h⟩
    have yf2 := hm.free 2
    have t0 := var1 Hb5.out
    clear hz hcc hin5 hm Hup
    change Hid _ at HS
    go_upto_region 20 with fail
    rw [Hw5.out, ← Hx5.out]
    go_wp2_with fail
    first | go_end0 | refine bodyPost_ret (results_none rfl _ _ _) rfl ?_
    exact ⟨F3, H5.out.trans HS.out.2, _, HS.out.1, .inl ⟨(), Hz.out, rfl⟩⟩
end Go.Proofs.YthehpmffkkogpaaGreatDoor
