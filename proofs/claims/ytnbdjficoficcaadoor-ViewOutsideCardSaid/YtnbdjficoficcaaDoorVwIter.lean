/- The iterator that Outside makes: what stands under none of the places, file by file, until a round says no more; the document's Outside. Condition: texts of at most 2^18 bytes; the library's own variable holds some number. -/
import Derived.Test.YtnbdjficoficcaaDoorVwAlive
import Derived.Test.YtnbdjficoficcaaDoorKeepT

namespace Go.Proofs.YtnbdjficoficcaaDoor
set_option linter.unusedVariables false
open Go.ChangeShapes Go.WideShapes Go.ChangeAt Go.RowKit Go.Shelf
attribute [local go_sem] Oper.semAt_some
def insideF (ds : List (List UInt8)) (p : List UInt8) : Bool := ds.any fun d => (undL d p).2
def outF (ds : List (List UInt8)) (t : List FileL) : List (List UInt8) := (t.filter fun x => !insideF ds x.1).map (·.1)
theorem outF_snoc (ds : List (List UInt8)) (t : List FileL) (x : FileL) : outF ds (t ++ [x]) = outF ds t ++ (if insideF ds x.1 = true then [] else [x.1]) := by
  unfold outF
  rw [List.filter_append, List.map_append]
  congr 1
  by_cases h : insideF ds x.1 = true <;> simp [List.filter, h]
theorem outF_take {ds : List (List UInt8)} {t : List FileL} {k : Nat} (h : k < t.length) : outF ds (t.take (k + 1)) = outF ds (t.take k) ++ (if insideF ds t[k].1 = true then [] else [t[k].1]) := by
  rw [take_at h, outF_snoc]
theorem outF_pre {ds : List (List UInt8)} (a b : List FileL) : outF ds a <+: outF ds (a ++ b) := by
  unfold outF
  rw [List.filter_append, List.map_append]
  exact List.prefix_append _ _
theorem outF_len (ds : List (List UInt8)) (t : List FileL) : (outF ds t).length ≤ t.length := by
  unfold outF
  rw [List.length_map]
  exact List.length_filter_le _ _
theorem InpS.keepT {w w' : World} {S T : Nat → Prop} (hc : KeepT T w w') (hST : ∀ k, S k → ¬ T k) {v : Value} {xs : List FileL} {kb ko : Nat} (h : InpS w S v xs kb ko) : InpS w' S v xs kb ko := by
  obtain ⟨hsh, hat⟩ := h
  refine ⟨hsh, fun i hi => ?_⟩
  obtain ⟨q, c, _, _, _, hq⟩ := hsh
  have hne : xs ≠ [] := by rintro rfl; simp at hi
  have hS := (hq hne).2
  exact ⟨hc.cell (hat i hi).1 (hST kb hS), hc.cell (hat i hi).2 (hST kb hS)⟩
theorem TxtS.keepT {w w' : World} {S T : Nat → Prop} (hc : KeepT T w w') (hST : ∀ k, S k → ¬ T k) {v : Value} {xs : List (List UInt8)} {kb ko : Nat} (h : TxtS w S v xs kb ko) : TxtS w' S v xs kb ko := by
  obtain ⟨hsh, hat⟩ := h
  refine ⟨hsh, fun i hi => ?_⟩
  obtain ⟨q, c, _, _, _, hq⟩ := hsh
  have hne : xs ≠ [] := by rintro rfl; simp at hi
  exact hc.cell (hat i hi) (hST kb (hq hne).2)
theorem abides_chg {β : Type} {B : Nat} {J : β → World → Prop} (h : AbidesFrom B J) {s : β} {W W' : World} (hc : Chg NoB W W') (hs : J s W) : J s W' :=
  h s W W' none hs ⟨hc.os, hc.tape, hc.output, hc.size, fun k hk _ => hc.block k hk id⟩ fun r e => by cases e
set_option maxRecDepth 100000 in
set_option maxHeartbeats 4000000 in
theorem outside1_in (m l fb pb : Nat) (T S : Nat → Prop) (t : List FileL) (ds : List (List UInt8)) (ht : t.length ≤ 1048576) (hw : ∀ x ∈ t, x.1.length ≤ 131072) (hdl : ds.length ≤ 1048576) (hdw : ∀ d ∈ ds, d.length ≤ 262144) (fv pv : Value) (kb ko jb jo : Nat)
    (hST : ∀ k, S k → ¬ T k) (hfT : ¬ T fb) (hpT : ¬ T pb) (J Jx : List (List UInt8) → World → Prop) (W : World) (hJ : AbidesFrom W.heap.size J) (hm : ∀ W', KeepT T W W' → Pth.Ml W')
    (hY : ∀ pre x W, J pre W → pre.length < (outF ds t).length → YieldAt Fence.wide (m - 1) Tryd.prog l #[.string (tx x)] W fun e W' =>
      (e = .returned (.bool true) ∧ J (pre ++ [x]) W' ∧ KeepT T W W') ∨ (e = .returned (.bool false) ∧ Jx (pre ++ [x]) W'))
    (hf : W.cell? ⟨fb, 0, none⟩ = some fv) (hp : W.cell? ⟨pb, 0, none⟩ = some pv) (hs : InpS W S fv t kb ko) (hs2 : TxtS W S pv ds jb jo) (h0 : J [] W) :
    CallsIn Fence.wide m Tryd.prog 32 #[.func (.yield l) #[] #[], .pointer (some ⟨fb, 0, none⟩), .pointer (some ⟨pb, 0, none⟩)] W fun e W' => (∃ v, e = .returned v) ∧
      ((∃ ys, ys = outF ds t ∧ J ys W') ∨ (∃ pre, pre <+: outF ds t ∧ Jx pre W')) := by
  have Hs := Lib.hid hs
  have Hs2 := Lib.hid hs2
  obtain ⟨⟨q, c, rfl, h1, h2, h3⟩, hat⟩ := hs
  obtain ⟨⟨q2, c2, rfl, -, -, -⟩, -⟩ := hs2
  have H3 := Lib.hid h3
  unfold maxLen at h2
  obtain ⟨n, hn⟩ : ∃ n, n = t.length := ⟨_, rfl⟩
  rw [← hn] at h1 ht hf Hs
  have Hn := Lib.hid hn
  obtain ⟨n2, hn2⟩ : ∃ n, n = ds.length := ⟨_, rfl⟩
  rw [← hn2] at hp Hs2
  have HJ := Lib.hid hJ
  have HY := Lib.hid hY
  have HM := Lib.hid hm
  have Hw := Lib.hid hw
  have Hdl := Lib.hid hdl
  have Hdw := Lib.hid hdw
  have Hp := Lib.hid hp
  have Hf := Lib.hid hf
  have HpT := Lib.hid hpT
  have HfT := Lib.hid hfT
  have HST := Lib.hid hST
  have H0 := Lib.hid h0
  clear hn hn2 hJ hY hm hw hp hpT hfT hST h0 h3 hat hdl hdw
  refine callsIn_of_wp Tryd.func32 rfl trivial ?_ rfl
  simp only [Tryd.ntmps32, List.size_toArray, List.length_cons, List.length_nil, Nat.reduceAdd, Nat.reduceSub, Array.replicate_succ, Array.replicate_zero, List.push_toArray, List.append_toArray, List.nil_append, List.cons_append]
  gi_wp2
  clear hf
  gi_loopw [9] (fun i wr => ∃ k : Nat, k ≤ n ∧ i = .int .i64 k ∧ J (outF ds (t.take k)) wr ∧ KeepT T W wr) (fun i _ => n - (intOf i).toNat)
  case atStart => exact ⟨0, Nat.zero_le _, rfl, by rw [List.take_zero]; exact H0.out, KeepT.refl _ _⟩
  case round =>
    obtain ⟨k, hk, rfl, hJr, hkr⟩ := hrel
    have HJr := Lib.hid hJr
    have Hkr := Lib.hid hkr
    clear hJr hkr
    by_cases hlt : k < n
    · have hlt' : k < t.length := by rw [← Hn.out]; exact hlt
      obtain ⟨rfl, -⟩ := H3.out (by intro e; rw [e] at hlt'; simp at hlt')
      obtain ⟨-, hat⟩ := Hs.out.keepT Hkr.out HST.out
      obtain ⟨c0, c1⟩ := hat k hlt'
      have hxl := Hw.out _ (List.getElem_mem hlt')
      have Htk := Lib.hid (outF_take (ds := ds) hlt')
      have Hpre := Lib.hid (show outF ds (t.take (k + 1)) <+: outF ds t from by
        have := outF_pre (ds := ds) (t.take (k + 1)) (t.drop (k + 1))
        rwa [List.take_append_drop] at this)
      generalize t[k] = x at *
      obtain ⟨x1, x2⟩ := x
      simp only at c0 c1 hxl Htk
      have hal := (Chg.refl NoB wr).alloc (.cells #[.string (tx x1), .string (tx x2)] 47)
      have hbx := heap_alloc_new wr (.cells #[.string (tx x1), .string (tx x2)] 47)
      obtain ⟨g0, g1⟩ := var2 hbx
      have Hal := Lib.hid hal
      have Hk7 := Lib.hid (Hkr.out.trans (Chg.keepT hal fun _ => False.elim))
      have d0 := Hk7.out.cell Hp.out HpT.out
      have HU := Lib.hid (containsT_any 34 #[.pointer (some ⟨wr.heap.size, 0, none⟩)] (enters_of Tryd.func34 (by kernel_rfl) rfl) (fun d => (undL d x1).2) ds S _ jb jo _ Hdl.out (Hs2.out.keepT Hk7.out HST.out)
        (fun d hd W' hc => inside_any d x1 wr.heap.size W' (Hdw.out d hd) (by omega) (HM.out W' (Hk7.out.trans (Chg.keepT hc fun _ => False.elim))) (hc.keep g0)))
      have HU2 := Lib.hid ((callsIn_wide (n := m - 1)).2 HU.out)
      change Hid (CallsIn _ _ _ _ _ _ (SayB (insideF ds x1) _)) at HU2
      obtain ⟨u2, hu2⟩ : ∃ u, u = insideF ds x1 := ⟨_, rfl⟩
      rw [← hu2] at HU2 Htk
      have Hul := Lib.hid hxl
      clear hlt' hat hu2 hxl hal hbx HU
      cases u2 with
      | true =>
        have Htk' := Lib.hid (show outF ds (t.take (k + 1)) = outF ds (t.take k) by rw [Htk.out]; simp)
        gi_wp2
        refine ⟨trivial, fun h => (by cases h), ?_⟩
        refine HU2.out.mono ?_
        rintro e W3 ⟨rfl, hc3⟩
        gi_wp2
        refine ⟨fun _ h => (by cases h), ?_⟩
        gi_wp2
        go_roundw
        case rel => exact ⟨k + 1, by omega, by go_num, by rw [Htk'.out]; exact abides_chg HJ.out (Hal.out.trans hc3) HJr.out, Hk7.out.trans (Chg.keepT hc3 fun _ => False.elim)⟩
        case measure => simp [intOf]; omega
      | false =>
        have Htk' := Lib.hid (show outF ds (t.take (k + 1)) = outF ds (t.take k) ++ [x1] by rw [Htk.out]; rfl)
        have HYk := Lib.hid (fun W3 (hc3 : Chg NoB (wr.alloc (.cells #[.string (tx x1), .string (tx x2)] 47)) W3) => HY.out (outF ds (t.take k)) x1 W3 (abides_chg HJ.out (Hal.out.trans hc3) HJr.out) (by have h := Hpre.out.length_le; rw [Htk'.out, List.length_append] at h; simp at h; omega))
        gi_wp2
        refine ⟨trivial, fun h => (by cases h), ?_⟩
        refine HU2.out.mono ?_
        rintro e W3 ⟨rfl, hc3⟩
        obtain ⟨fn, tmps, assign, body, hy, hR⟩ := HYk.out W3 hc3
        have HR := Lib.hid hR
        have Hc3 := Lib.hid hc3
        have g0' := hc3.keep g0
        clear hc3 hR g0 g1 d0
        gi_wp2
        refine ⟨fun h => (by cases h), ?_⟩
        refine HR.out.mono ?_
        rintro e W4 (⟨rfl, hJ4, hk4⟩ | ⟨rfl, hx4⟩)
        · gi_wp2
          go_roundw
          case rel => exact ⟨k + 1, by omega, by go_num, by rw [Htk'.out]; exact hJ4, (Hk7.out.trans (Chg.keepT Hc3.out fun _ => False.elim)).trans hk4⟩
          case measure => simp [intOf]; omega
        · gi_wp2
          refine bodyPost_ret (results_none rfl _ _ _) rfl ?_
          exact ⟨⟨_, rfl⟩, .inr ⟨_, by rw [← Htk'.out]; exact Hpre.out, hx4⟩⟩
    · obtain rfl : k = n := by omega
      have htk : t.take k = t := by rw [Hn.out, List.take_length]
      rw [htk] at HJr
      clear htk hlt
      gi_wp2
      go_end0
      exact ⟨⟨_, rfl⟩, .inl ⟨_, rfl, HJr.out⟩⟩
theorem outside1_stops (m fb pb : Nat) (T S : Nat → Prop) (t : List FileL) (ds : List (List UInt8)) (ht : t.length ≤ 1048576) (hw : ∀ x ∈ t, x.1.length ≤ 131072) (hdl : ds.length ≤ 1048576) (hdw : ∀ d ∈ ds, d.length ≤ 262144) (fv pv : Value) (kb ko jb jo : Nat) (w : World)
    (hST : ∀ k, S k → ¬ T k) (hfT : ¬ T fb) (hpT : ¬ T pb) (hm : ∀ W', KeepT T w W' → Pth.Ml W') (hf : w.cell? ⟨fb, 0, none⟩ = some fv) (hp : w.cell? ⟨pb, 0, none⟩ = some pv) (hs : InpS w S fv t kb ko) (hs2 : TxtS w S pv ds jb jo) :
    SeqStopsK Fence.wide m Tryd.prog 32 #[.pointer (some ⟨fb, 0, none⟩), .pointer (some ⟨pb, 0, none⟩)] (fun x : List UInt8 => #[Value.string (tx x)]) (KeepT T) (fun ys => ys = outF ds t) (fun pre => pre <+: outF ds t) (outF ds t).length w := fun l J Jx W hW hJ hJx hY h0 => by
  have hc : Chg NoB w W := ⟨hW.os, hW.tape, hW.output, hW.size, fun k hk _ => hW.block k hk⟩
  refine (outside1_in m l fb pb T S t ds ht hw hdl hdw fv pv kb ko jb jo hST hfT hpT J Jx W (fun s A B row hs hg hr => hJ _ A B row hs hg hr) (fun W' h => hm W' ((Chg.keepT hc fun _ => False.elim).trans h)) (fun pre x V hj hl => hY pre x V hj hl) (hc.keep hf) (hc.keep hp) (hs.keep hc fun _ _ => id) (hs2.keep hc fun _ _ => id) h0).mono ?_
  rintro e W' ⟨hv, (⟨ys, rfl, hj⟩ | ⟨pre, hr, hj⟩)⟩
  · exact ⟨hv, .inl ⟨_, rfl, hj⟩⟩
  · exact ⟨hv, .inr ⟨_, hr, hj⟩⟩
/- the document's Outside -/
def OutT (l : List (List UInt8)) (w : World) (e : Ending) (w' : World) : Prop := Chg NoB w w' ∧ ∃ v', e = .returned v' ∧ w'.ownsRow w.heap.size 9 1 v' l.length (txV l)
set_option maxHeartbeats 4000000 in
set_option maxRecDepth 20000 in
theorem routside_any (t : List FileL) (ht : t.length ≤ 1048576) (hw : ∀ x ∈ t, x.1.length ≤ 262144) (ds : List (List UInt8)) (hdl : ds.length ≤ 1048576) (hdw : ∀ d ∈ ds, d.length ≤ 262144) (S : Nat → Prop) (v : Value) (kb ko : Nat) (S2 : Nat → Prop) (v2 : Value) (jb jo : Nat) (w : World) (hm : Pth.Ml w) (hs : InpS w S v t kb ko) (hs2 : TxtS w S2 v2 ds jb jo) :
    Calls Tryd.prog 16 #[.agg #[v], v2] w (OutT (outF ds t) w) := by
  have Hs := Lib.hid hs
  have Hs2 := Lib.hid hs2
  obtain ⟨⟨q, c, rfl, h1, h2, h3⟩, hat⟩ := hs
  obtain ⟨⟨q2, c2, rfl, g1, g2, g3⟩, hat2⟩ := hs2
  have H3 := Lib.hid h3
  have G3 := Lib.hid g3
  obtain ⟨n, hn⟩ : ∃ n, n = t.length := ⟨_, rfl⟩
  rw [← hn] at Hs h1 ht ⊢
  have Hn := Lib.hid hn
  obtain ⟨n2, hn2⟩ : ∃ n, n = ds.length := ⟨_, rfl⟩
  rw [← hn2] at Hs2 g1 hdl ⊢
  have Hn2 := Lib.hid hn2
  have Hm := Lib.hid hm
  have Hw := Lib.hid hw
  have Hdw := Lib.hid hdw
  unfold maxLen at h2 g2
  obtain ⟨lo, hlo⟩ : ∃ lo, lo = w.heap.size := ⟨_, rfl⟩
  have hal_ := (Chg.refl NoB w).alloc (.cells #[.slice q n c] 27)
  have hb_ := heap_alloc_new w (.cells #[.slice q n c] 27)
  obtain ⟨tb, hxb_⟩ : ∃ b, b = w.heap.size := ⟨_, rfl⟩
  obtain ⟨w1, hw_⟩ : ∃ w_, w.alloc (.cells #[.slice q n c] 27) = w_ := ⟨_, rfl⟩
  have hz_ : w1.heap.size = tb + 1 := by rw [← hw_, hxb_]; exact alloc_size _ _
  rw [hw_] at hal_ hb_
  rw [← hxb_] at hb_
  have Hw1 := Lib.hid hw_
  have Hx1 := Lib.hid hxb_
  have Ha1 := Lib.hid hal_
  have Hb1 := Lib.hid hb_
  have Hz1 := Lib.hid hz_
  clear hal_ hb_ hxb_ hw_ hz_
  obtain ⟨i0, hi, hz0, hz1, hz2⟩ := info_parts stringInfo
  have Hi := Lib.hid hi
  have Hz0 := Lib.hid hz0
  have Hzb1 := Lib.hid hz1
  have Hzb2 := Lib.hid hz2
  have Hord := Lib.hid (show tb < w1.heap.size ∧ lo = tb by have := Hx1.out; have := Hz1.out; omega)
  have Hlo := Lib.hid hlo
  have t0 := var1 Hb1.out
  clear hn hn2 hm hw hdw h3 g3 hat hat2 hi hz0 hz1 hz2 hlo
  go_enter Tryd.func16, Tryd.ntmps16
  go_upto_region 1 with fail
  rw [Hw1.out, ← Hx1.out]
  go_wp2_with fail
  clear t0
  go_loopw [5, 16] (fun f i wr => ∃ (k : Nat) (acc : List (List UInt8)), k ≤ n ∧ i = .int .i64 k ∧ acc = outF ds (t.take k) ∧ wr.ownsRow w1.heap.size 9 1 f acc.length (txV acc) ∧ Chg NoB w1 wr) (fun _ i _ => n - (intOf i).toNat)
  case atStart => exact ⟨0, [], Nat.zero_le _, rfl, by rw [List.take_zero]; rfl, World.ownsRow_nil _ _ _ _, Chg.refl _ _⟩
  case round =>
    obtain ⟨k, acc, hk, rfl, hacc, hrow, hcw⟩ := hrel
    obtain ⟨lq, lc, hf, -, -⟩ := row_shape hrow
    obtain ⟨al, hal⟩ : ∃ m, m = acc.length := ⟨_, rfl⟩
    rw [← hal] at hf hrow
    subst hf
    have Hacc := Lib.hid hacc
    have Hal := Lib.hid hal
    have Hrow := Lib.hid hrow
    have Hcw := Lib.hid hcw
    have halk : al ≤ 1048576 := by
      rw [hal, hacc]; refine Nat.le_trans (outF_len _ _) ?_; rw [List.length_take]; omega
    obtain ⟨wo, rfl⟩ : ∃ wo, wo = wr := ⟨_, rfl⟩
    clear hacc hrow hcw hal
    by_cases hlt : k < n
    · have hlt' : k < t.length := by rw [← Hn.out]; exact hlt
      obtain ⟨rfl, -⟩ := H3.out (by intro e; rw [e] at hlt'; simp at hlt')
      have hcc := Ha1.out.trans Hcw.out
      have c0 := hcc.keep (Hs.out.at' k hlt').1
      have c1 := hcc.keep (Hs.out.at' k hlt').2
      have Hxl := Lib.hid (Hw.out _ (List.getElem_mem hlt'))
      have Htk := Lib.hid (outF_take (ds := ds) hlt')
      generalize t[k] = x at *
      obtain ⟨x1, x2⟩ := x
      simp only at c0 c1 Hxl Htk
      change Hid (x1.length ≤ _) at Hxl
      clear hlt' hcc
      have hal_ := (Chg.refl NoB wo).alloc (.cells #[.string (tx x1), .string (tx x2)] 47)
      have hb_ := heap_alloc_new wo (.cells #[.string (tx x1), .string (tx x2)] 47)
      obtain ⟨fb, hxb_⟩ : ∃ b, b = wo.heap.size := ⟨_, rfl⟩
      obtain ⟨w3, hw_⟩ : ∃ w_, wo.alloc (.cells #[.string (tx x1), .string (tx x2)] 47) = w_ := ⟨_, rfl⟩
      have hz_ : w3.heap.size = fb + 1 := by rw [← hw_, hxb_]; exact alloc_size _ _
      rw [hw_] at hal_ hb_
      rw [← hxb_] at hb_
      have Hw3 := Lib.hid hw_
      have Hx3 := Lib.hid hxb_
      have Ha3 := Lib.hid hal_
      have Hb3 := Lib.hid hb_
      have Hz3 := Lib.hid hz_
      clear hal_ hb_ hxb_ hw_ hz_
      have Hc3 := Lib.hid (Hcw.out.trans Ha3.out)
      go_upto_region 5 with fail
      rw [Hw3.out, ← Hx3.out]
      clear c0 c1
      go_wp2_with fail
      go_loopw [8, 22] (fun b i wr => ∃ (j : Nat) (u : Bool), j ≤ n2 ∧ i = .int .i64 j ∧ b = .bool u ∧ u = insideF (ds.take j) x1 ∧ Chg NoB w3 wr) (fun _ i _ => n2 - (intOf i).toNat)
      case atStart => exact ⟨0, false, Nat.zero_le _, rfl, rfl, by rw [List.take_zero]; rfl, Chg.refl _ _⟩
      case round =>
        obtain ⟨j, u, hj, rfl, rfl, hu, hcj⟩ := hrel
        have Hu := Lib.hid hu
        have Hcj := Lib.hid hcj
        clear hu hcj
        by_cases hjl : j < n2
        · have hjl' : j < ds.length := by rw [← Hn2.out]; exact hjl
          obtain ⟨rfl, -⟩ := G3.out (by intro e; rw [e] at hjl'; simp at hjl')
          have hcc := Ha1.out.trans (Hc3.out.trans Hcj.out)
          have d0 := hcc.keep (Hs2.out.at' j hjl')
          have Hdl := Lib.hid (Hdw.out _ (List.getElem_mem hjl'))
          have Hst := Lib.hid (show insideF (ds.take (j + 1)) x1 = (insideF (ds.take j) x1 || (undL ds[j] x1).2) by unfold insideF; rw [take_at hjl', List.any_append]; simp)
          generalize ds[j] = d at *
          have HU := Lib.hid (runder_any d x1 wr Hdl.out Hxl.out (ml_keep Hm.out hcc))
          generalize (undL d x1).1 = z1 at *
          generalize (undL d x1).2 = z2 at *
          have f0 := (var2 (row_kept Hcj.out Hb3.out id)).1
          clear hjl' hcc
          go_wp2_with fail
          refine HU.out.mono ?_
          rintro e w5 ⟨hc5, rfl⟩
          have Hc5 := Lib.hid (Hcj.out.trans hc5)
          clear hc5 d0 f0
          cases u with
          | true =>
            go_wp2_with fail
            go_roundw
            case rel => exact ⟨j + 1, true, by omega, by go_num, rfl, by rw [Hst.out, ← Hu.out]; rfl, Hc5.out⟩
            case measure => simp [intOf]; omega
          | false =>
            go_wp2_with fail
            go_roundw
            case rel => exact ⟨j + 1, z2, by omega, by go_num, rfl, by rw [Hst.out, ← Hu.out]; rfl, Hc5.out⟩
            case measure => simp [intOf]; omega
        · obtain rfl : n2 = j := by omega
          have hu2 : u = insideF ds x1 := by have h := Hu.out; rwa [Hn2.out, List.take_of_length_le (Nat.le_refl _)] at h
          rw [← hu2] at Htk
          have f0 := (var2 (row_kept Hcj.out Hb3.out id)).1
          clear hu2 hjl
          cases u with
          | true =>
            go_wp2_with fail
            go_roundw
            case rel => exact ⟨k + 1, acc, by omega, by go_num, by rw [Htk.out, Hacc.out]; simp, by rw [← Hal.out]; exact ownsRow_chg Hrow.out (Ha3.out.trans Hcj.out) fun _ _ => id, Hc3.out.trans Hcj.out⟩
            case measure => simp [intOf]; omega
          | false =>
            have halA := (Chg.refl NoB wr).alloc (.cells #[.string (tx x1)] 9)
            have HownA := Lib.hid (ownsRow_chg Hrow.out (Ha3.out.trans (Hcj.out.trans halA)) fun _ _ => id)
            have HcA := Lib.hid (Hc3.out.trans (Hcj.out.trans halA))
            have M1 := Lib.hid (show al + 1 ≤ maxLen by unfold maxLen; omega)
            have M2 := Lib.hid (show (al + 1) * 16 ≤ 140737488355328 by omega)
            have HloA := Lib.hid (show w1.heap.size ≤ (wr.alloc (.cells #[.string (tx x1)] 9)).heap.size from HcA.out.size)
            have Hlit := Lib.hid (show ∀ (i : Nat) (u : Value), [Value.string (tx x1)][i]? = some u → (wr.alloc (.cells #[.string (tx x1)] 9)).cell? ((⟨wr.heap.size, 0, none⟩ : Addr).add i) = some u from fun i u hi => by
              match i, hi with
              | 0, hi => cases hi; rw [add_zero_off]; exact var1 (heap_alloc_new wr (.cells #[.string (tx x1)] 9)))
            have H1c := Lib.hid (txV_one [x1])
            clear halA
            go_wp2_with (at_builtin; refine wpList_append_at _ rfl _ _ 33 rfl w1.heap.size 9 i0 (.string ⟨#[]⟩) 1 16 Tryd.underlying33 Hi.out Hz0.out Hzb1.out Hzb2.out rfl (by decide) _ al _ rfl HownA.out _ 1 1 [.string (tx x1)] rfl rfl Hlit.out H1c.out M1.out M2.out HloA.out ?_; intro v11 w11 hown11 hgr11 hpl11)
            have Hch11 : Hid (Chg NoB w1 w11) := Lib.hid (HcA.out.grown hgr11 fun j hj => .inr (World.ownsRow.lt HownA.out j hj).1)
            have Hown11 : Hid (w11.ownsRow w1.heap.size 9 1 v11 (acc ++ [x1]).length (txV (acc ++ [x1]))) := Lib.hid (by rw [txV_snoc, List.length_append, ← Hal.out]; exact hown11)
            clear hown11 hgr11 hpl11
            go_wp2_with fail
            go_roundw
            case rel => exact ⟨k + 1, acc ++ [x1], by omega, by go_num, by rw [Htk.out, Hacc.out]; rfl, Hown11.out, Hch11.out⟩
            case measure => simp [intOf]; omega
    · obtain rfl : n = k := by omega
      have hacc : acc = outF ds t := by have h := Hacc.out; rwa [Hn.out, List.take_of_length_le (Nat.le_refl _)] at h
      go_wp2_with fail
      go_ret
      refine ⟨Ha1.out.trans Hcw.out, _, rfl, ?_⟩
      rw [← hacc, ← Hal.out]
      exact ownsRow_low Ha1.out.size Hrow.out
end Go.Proofs.YtnbdjficoficcaaDoor
