/- The contract of the document's Assemble. Conditions: the library's variables read as listed. -/
import Derived.Test.YtaihgciokfkonaaDoorAmRApp
import Derived.Test.YtaihgciokfkonaaDoorAmInsL
import Derived.Test.YtaihgciokfkonaaDoorCdCheckR
import Derived.Deep.QuietTactic
import Derived.BigQuiet

namespace Go.Proofs.YtaihgciokfkonaaDoor
set_option linter.unusedVariables false
open Go.ChangeShapes Go.WideShapes Go.ChangeAt Go.RowKit
theorem linesF_one {l : List (List UInt8)} {s : SrcL} (t : List UInt8) (h : linesF l 0 ⟨[], []⟩ = .ok s) : linesF (l ++ [t]) 0 ⟨[], []⟩ = match addF s t ((l.length : Int) + 1) with
    | .error e => .error ((l.length : Int) + 1, e)
    | .ok s' => .ok s' := by
  rw [linesF_app, h]
  simp only [Nat.zero_add]
  rw [linesF]
  cases addF s t ((l.length : Int) + 1) <;> rfl
theorem linesF_stop {l : List (List UInt8)} {k : Nat} {x : Int × Int} (h : linesF (l.take k) 0 ⟨[], []⟩ = .error x) : linesF l 0 ⟨[], []⟩ = .error x := by
  conv => lhs; rw [← List.take_append_drop k l, linesF_app, h]
theorem flatL_at : ∀ (a : List (List UInt8 × Int)) (i : Nat) (hi : i < a.length), (flatL a)[i * 2]? = some (.string (tx a[i].1)) ∧ (flatL a)[i * 2 + 1]? = some (.int .i64 a[i].2)
  | x :: r, 0, _ => ⟨rfl, rfl⟩
  | x :: r, i + 1, hi => by
    obtain ⟨h1, h2⟩ := flatL_at r i (by simpa using hi)
    have e : (i + 1) * 2 = i * 2 + 2 := by omega
    refine ⟨?_, ?_⟩
    · rw [e]; simpa [flatL] using h1
    · rw [e]; simpa [flatL] using h2
theorem hasK_snoc (l : List (List UInt8 × Int)) (x : List UInt8 × Int) (n : List UInt8) : hasK (l ++ [x]) n = (hasK l n || x.1 == n) := by
  unfold hasK; simp
theorem hasK_mem {l : List (List UInt8 × Int)} {n : List UInt8} {i : Nat} (hi : i < l.length) (h : l[i].1 = n) : hasK l n = true := by
  unfold hasK
  exact List.any_eq_true.2 ⟨l[i], List.getElem_mem hi, by simp [h]⟩
theorem own_q {w : World} {base n c size : Nat} {q : Option Addr} {t : TypeId} {l : List Value} (h : w.ownsRow base t size (.slice q n c) n l) (h0 : n ≠ 0) : ∃ g, q = some ⟨g, 0, none⟩ := by
  rcases h.2 with ⟨e, -⟩ | ⟨g, cap, cur, e, -⟩
  · cases e; exact absurd rfl h0
  · cases e; exact ⟨g, rfl⟩
theorem own_free {w : World} {base g n cap : Nat} {xs : List Value} {t : TypeId} {z : Nat} (h : w.ownsRow base t z (.slice (some ⟨g, 0, none⟩) n cap) n xs) : ∀ j, w.frozen? ⟨g, j, none⟩ = false := by
  rcases h.2 with ⟨e, _⟩ | ⟨g', cap', cur, e, hb, hh, _⟩
  · cases e
  · cases e
    exact row_free hh
theorem flatI_set : ∀ (l : List InsL) (m : Nat) (y : InsL), flatI (l.set m y) = (((flatI l).set (m * 3) (.int .i64 y.op)).set (m * 3 + 1) (.int .i64 y.n)).set (m * 3 + 2) (.string (tx y.s))
  | [], m, y => by simp [flatI]
  | x :: r, 0, y => rfl
  | x :: r, m + 1, y => by
    have e : (m + 1) * 3 = m * 3 + 3 := by omega
    rw [List.set_cons_succ, flatI, flatI_set r m y, e]
    rfl
theorem row_ins {w : World} {base g c n : Nat} {l : List InsL} (h : w.ownsRow base 38 3 (.slice (some ⟨g, 0, none⟩) n c) n (flatI l)) (m : Nat) (y : InsL) :
    (((w.setCell ⟨g, m * 3, none⟩ (.int .i64 y.op)).setCell ⟨g, m * 3 + 1, none⟩ (.int .i64 y.n)).setCell ⟨g, m * 3 + 2, none⟩ (.string (tx y.s))).ownsRow base 38 3 (.slice (some ⟨g, 0, none⟩) n c) n (flatI (l.set m y)) := by
  have hlen := h.1
  rcases h.2 with ⟨e, h0⟩ | ⟨g', cap, cur, e, k2, k3, k4, k5, k6, k7⟩
  · cases e
  · injection e with e1 e2 e3
    injection e1 with e1
    injection e1 with e1
    subst e1
    have hset := heap_set (heap_set (heap_set k3 (i := m * 3) (.int .i64 y.op)) (i := m * 3 + 1) (.int .i64 y.n)) (i := m * 3 + 2) (.string (tx y.s))
    refine ⟨by rw [← hlen, flatI_len, flatI_len, List.length_set], .inr ⟨g, cap, _, by rw [e3], k2, hset, k4, k5, by simpa using k6, ?_⟩⟩
    rw [flatI_set l m y, ← k7]
    simp only [Array.toList_setIfInBounds, List.take_set]
theorem set_mid {α : Type} (p : List α) (x y : α) (r : List α) {k : Nat} (h : p.length = k) : (p ++ x :: r).set k y = (p ++ [y]) ++ r := by
  subst h
  rw [List.set_append_right _ _ (Nat.le_refl _), Nat.sub_self, List.set_cons_zero, List.append_assoc]
  rfl
theorem flatI_mid (p : List InsL) (x : InsL) (r : List InsL) {k : Nat} (h : p.length = k) : (flatI (p ++ x :: r))[k * 3]? = some (.int .i64 x.op) ∧ (flatI (p ++ x :: r))[k * 3 + 1]? = some (.int .i64 x.n) ∧ (flatI (p ++ x :: r))[k * 3 + 2]? = some (.string (tx x.s)) := by
  have h3 : (flatI p).length = k * 3 := by rw [flatI_len, h]
  rw [flatI_app]
  refine ⟨?_, ?_, ?_⟩
  · rw [List.getElem?_append_right (by omega), h3, Nat.sub_self]; rfl
  · rw [List.getElem?_append_right (by omega), h3, Nat.add_sub_cancel_left]; rfl
  · rw [List.getElem?_append_right (by omega), h3, Nat.add_sub_cancel_left]; rfl
theorem atK_mem {ls : List (List UInt8 × Int)} {n : List UInt8} {a : Int} (h : atK ls n = some a) : ∃ x ∈ ls, x.2 = a := by
  unfold atK at h
  cases hf : ls.find? (fun x => x.1 == n) with
  | none => rw [hf] at h; cases h
  | some y => rw [hf] at h; cases h; exact ⟨y, List.mem_of_find?_eq_some hf, rfl⟩
/- behind k lines -/
structure SrcK (ls : List (List UInt8)) (k : Nat) (s : SrcL) : Prop where
  fine : linesF (ls.take k) 0 ⟨[], []⟩ = .ok s
  nd : (s.labs.map Prod.fst).Nodup
  ln : s.list.length ≤ k
  lb : s.labs.length ≤ k
  nn : ∀ x ∈ s.labs, 0 ≤ x.2 ∧ x.2 ≤ (k : Int)
  wf : ∀ z ∈ s.list, z.ins.wf
theorem SrcK.zero (ls : List (List UInt8)) : SrcK ls 0 ⟨[], []⟩ := ⟨rfl, by simp, Nat.le_refl _, Nat.le_refl _, by simp, by simp⟩
theorem SrcK.step {ls : List (List UInt8)} {k : Nat} {s s' : SrcL} {t : List UInt8} (h : SrcK ls k s) (hk : k < ls.length) (ht : ls.take (k + 1) = ls.take k ++ [t]) (hu : t.length ≤ 65536) (ha : addF s t ((k : Int) + 1) = .ok s') : SrcK ls (k + 1) s' := by
  have hlen : (ls.take k).length = k := by rw [List.length_take]; omega
  have hbd : s'.list.length ≤ s.list.length + 1 ∧ s'.labs.length ≤ s.labs.length + 1 := by
    unfold addF at ha
    split at ha
    · cases ha; omega
    · split at ha
      · split at ha
        · cases ha
        · cases ha; simp
      · split at ha
        · cases ha
        · cases ha; simp
  have hmore : (∀ x ∈ s'.labs, 0 ≤ x.2 ∧ x.2 ≤ ((k + 1 : Nat) : Int)) ∧ ∀ z ∈ s'.list, z.ins.wf := by
    have hn := h.nn
    have hw := h.wf
    have hl := h.ln
    have hn' : ∀ x ∈ s.labs, 0 ≤ x.2 ∧ x.2 ≤ ((k + 1 : Nat) : Int) := fun x hx => by have := hn x hx; omega
    unfold addF at ha
    split at ha
    · cases ha; exact ⟨hn', hw⟩
    · split at ha
      · split at ha
        · cases ha
        · cases ha
          refine ⟨fun x hx => ?_, hw⟩
          rcases List.mem_append.1 hx with hx | hx
          · exact hn' x hx
          · rw [List.mem_singleton] at hx
            subst hx
            constructor <;> simp only <;> omega
      · split at ha
        · cases ha
        · rename_i x hi
          cases ha
          refine ⟨hn', fun z hz => ?_⟩
          rcases List.mem_append.1 hz with hz | hz
          · exact hw z hz
          · rw [List.mem_singleton] at hz
            subst hz
            exact insF_wf hi hu
  refine ⟨?_, addF_apart ha h.nd, by have := h.ln; omega, by have := h.lb; omega, hmore.1, hmore.2⟩
  rw [ht, linesF_one t h.fine, hlen, ha]
theorem SrcK.stop {ls : List (List UInt8)} {k : Nat} {s : SrcL} {t : List UInt8} {e : Int} (h : SrcK ls k s) (hk : k < ls.length) (ht : ls.take (k + 1) = ls.take k ++ [t]) (ha : addF s t ((k : Int) + 1) = .error e) : linesF ls 0 ⟨[], []⟩ = .error ((k : Int) + 1, e) := by
  have hlen : (ls.take k).length = k := by rw [List.length_take]; omega
  refine linesF_stop (k := k + 1) ?_
  rw [ht, linesF_one t h.fine, hlen, ha]
/- the line is read as an instruction; W the world, HCW what changed from w2 on -/
set_option maxHeartbeats 8000000 in
set_option maxRecDepth 20000 in
theorem rasm_main (t : List UInt8) (base : Nat) (w : World) (hlb : Lb base w) (hs : t.length ≤ 65536) : Calls Tryd.prog 11 #[.string (tx t)] w (ProgP (asmF t) w) := by
  have hzt : (tx t).size = t.length := tx_size t
  have H := Lib.hid hlb
  have hs' : ¬ ((65536 : Int) < (t.length : Int)) := by omega
  have HL := Lib.hid (fun w => feeds_any t w (by omega))
  have Hd := Lib.hid (show asmF t = match linesF (Pth.pcs 10 t) 0 ⟨[], []⟩ with
    | .error x => ([], x.1, x.2)
    | .ok r => endF r by unfold asmF; rw [if_neg (by omega)]; cases linesF (Pth.pcs 10 t) 0 ⟨[], []⟩ <;> rfl)
  have Hsm := Lib.hid (fun u (hu : u ∈ Pth.pcs 10 t) => show u.length ≤ 65536 from Nat.le_trans (Pth.pcs_small 10 t u hu) (by omega))
  have hpl := Pth.pcs_len 10 t
  clear hlb
  go_enter Tryd.func11, Tryd.ntmps11
  go_wp2_with fail
  refine (HL.out _).mono ?_
  rintro e w2 ⟨hc2, vL, rfl, hrowL⟩
  obtain ⟨qL, cL, rfl, -, -⟩ := row_shape hrowL
  generalize asmF t = R at *
  generalize Pth.pcs 10 t = ls at *
  obtain ⟨L, hL⟩ : ∃ n, n = ls.length := ⟨_, rfl⟩
  have hLb : L ≤ 65537 := by omega
  rw [← hL] at hrowL ⊢
  have HL2 := Lib.hid hL
  have HrowL := Lib.hid hrowL
  have Hc2 := Lib.hid hc2
  have hcellL := fun g (hg : qL = some ⟨g, 0, none⟩) => World.ownsRow.cells (g := g) hrowL (by rw [hg]; rfl)
  have hqL : L ≠ 0 → ∃ g, qL = some ⟨g, 0, none⟩ := by
    intro h0
    rcases hrowL.2 with ⟨e, -⟩ | ⟨g, cap, cur, e, -⟩
    · cases e; exact absurd rfl h0
    · cases e; exact ⟨g, rfl⟩
  have HcellL := Lib.hid hcellL
  have HqL := Lib.hid hqL
  clear hrowL hc2 hcellL hqL hL HL hpl
  go_wp2_with fail
  go_loopw [5, 6, 7, 8, 29] (fun p wn ln lb iv wr => ∃ (k : Nat) (s : SrcL), k ≤ L ∧ iv = .int .i64 k ∧ SrcK ls k s ∧ SrcR wr w2.heap.size p wn ln lb s ∧ Chg NoB w2 wr) (fun _ _ _ _ iv _ => L - (intOf iv).toNat)
  case atStart => exact ⟨0, ⟨[], []⟩, Nat.zero_le _, rfl, SrcK.zero _, SrcR.nil _ _, Chg.refl _ _⟩
  case round =>
    obtain ⟨k, s, hk, rfl, hsk, hsr, hc⟩ := hrel
    obtain ⟨qp, cp, rfl, -, -⟩ := row_shape hsr.ins
    obtain ⟨qw, cw, rfl, -, -⟩ := row_shape hsr.want
    obtain ⟨qn, cn, rfl, -, -⟩ := row_shape hsr.no
    obtain ⟨qb, cb, rfl, -, -⟩ := row_shape hsr.lab
    have Hsk := Lib.hid hsk
    have Hsr := Lib.hid hsr
    have Hc := Lib.hid hc
    clear hsk hsr hc
    by_cases hlt : k < L
    · have hkl : k < ls.length := by rw [← HL2.out]; exact hlt
      obtain ⟨gL, rfl⟩ := HqL.out (by omega)
      have hc0 := HcellL.out gL rfl k (.string (tx ls[k])) (txV_at hkl)
      rw [add_zero_off] at hc0
      replace hc0 := Hc.out.keep hc0
      have hul := Hsm.out _ (List.getElem_mem hkl)
      have Htake := Lib.hid (take_at hkl)
      generalize ls[k] = u at *
      have hzu : (tx u).size = u.length := tx_size u
      have en := txQ u
      by_cases hu0 : u = []
      · subst hu0
        have Hst := Lib.hid (Hsk.out.step hkl Htake.out hul (s' := s) (by unfold addF; rw [if_pos (.inl rfl)]))
        go_wp2_with fail
        go_roundw
        case rel => exact ⟨k + 1, s, by omega, by go_num, Hst.out, Hsr.out, Hc.out⟩
        case measure => simp [intOf]; omega
      · have hu0b : (u == []) = false := by simpa using hu0
        obtain ⟨m, hm⟩ : ∃ m, u.length = m + 1 := ⟨u.length - 1, by have := List.length_pos_iff.2 hu0; omega⟩
        rw [hm] at hzu
        have h0 : (0 : Nat) < (tx u).size := by omega
        obtain ⟨c, hb0⟩ : ∃ c, (tx u)[0] = c := ⟨_, rfl⟩
        have hcu : u.head? = some c := by
          rw [← hb0, List.head?_eq_getElem?]
          exact List.getElem?_eq_getElem (by omega)
        by_cases hc59 : c = 59
        · have Hst := Lib.hid (Hsk.out.step hkl Htake.out hul (s' := s) (by unfold addF; rw [if_pos (.inr (by rw [hcu, hc59]))]))
          have hcb : ((c.toNat : Int) == 59) = true := by rw [hc59]; rfl
          clear hc59 hcu hu0
          go_wp2_with fail
          go_roundw
          case rel => exact ⟨k + 1, s, by omega, by go_num, Hst.out, Hsr.out, Hc.out⟩
          case measure => simp [intOf]; omega
        · have hmk : m < (tx u).size := by omega
          have hcb : ((c.toNat : Int) == 59) = false := by
            rw [beq_eq_false_iff_ne]; intro e; apply hc59; exact UInt8.toNat_inj.1 (by have : (59 : UInt8).toNat = 59 := rfl; omega)
          obtain ⟨z, hz⟩ : ∃ z, (tx u)[m] = z := ⟨_, rfl⟩
          have hzl : u.getLast? = some z := by
            rw [← hz, List.getLast?_eq_getElem?, hm]
            exact List.getElem?_eq_getElem (by omega)
          have hq2 : IntKind.i64.wrap (m : Int) = (m : Int) := by rw [IntKind.wrap_i64]; omega
          have hq3 : wrap64 (m : Int) = (m : Int) := by unfold wrap64; omega
          by_cases hz58 : z = 58
          · have hzb : ((z.toNat : Int) == 58) = true := by rw [hz58]; rfl
            have hcut : (tx u).extract 0 m = tx (u.take m) := by rw [cutAB, List.drop_zero]
            have hdl : u.dropLast = u.take m := by rw [List.dropLast_eq_take, hm]; rfl
            have hmk2 : markF u = Pth.nameL (u.take m) := by unfold markF; rw [hzl, hz58, hdl]; simp
            have Hdl := Lib.hid hdl
            clear hzl hz58 hm hdl
            go_wp2_with fail
            refine (nameRP (u.take m) wr (by rw [List.length_take]; omega)).mono ?_
            rintro e w3 ⟨rfl, hc3⟩
            have Hc3 := Lib.hid (Hc.out.trans hc3)
            have HcR3 := Lib.hid hc3
            clear hc3
            cases hN : Pth.nameL (u.take m) with
            | false =>
              have hmark : markF u = false := hmk2.trans hN
              clear hmk2 hN
              go_wp2_with fail
              refine (rins_any u base w3 (H.out.keep (Hc2.out.trans Hc3.out)) hul).mono ?_
              rintro e w4 ⟨hc4, he4⟩
              have Hc4 := Lib.hid ((Hc3.out).trans hc4)
              have Hadd := Lib.hid (show addF s u ((k : Int) + 1) = match insF u with
                  | none => .error 50
                  | some x => .ok ⟨s.labs, s.list ++ [⟨(k : Int) + 1, x.1, x.2⟩]⟩ by
                unfold addF
                rw [if_neg (by rintro (h | h); exact hu0 h; exact hc59 (Option.some.inj (hcu.symm.trans h))), if_neg (by rw [hmark]; simp)]
                cases insF u <;> rfl)
              generalize insF u = o at *
              cases o with
              | none =>
                obtain ⟨op, n, sx, lx, rfl⟩ := he4
                have Hstop := Lib.hid (Hsk.out.stop hkl Htake.out Hadd.out)
                clear hc4 Hadd
                go_wp2_with fail
                go_ret3
                exact ⟨Hc2.out.trans (Hc4.out.above (S := fun _ => False) ((Chg.refl _ _).alloc _) fun _ h => h.elim),    .slice none 0 0, by rw [Hd.out, Hstop.out]; rfl, by rw [Hd.out, Hstop.out]; exact World.ownsRow_nil _ _ _ _⟩
              | some y =>
                obtain ⟨⟨yo, yn, ys⟩, yl⟩ := y
                replace he4 : e = .returned (.tuple #[.agg #[.int .i64 yo, .int .i64 yn, .string (tx ys)], .string (tx yl), .bool true]) := he4
                subst he4
                have Hst := Lib.hid (Hsk.out.step hkl Htake.out hul Hadd.out)
                have Hsr4 := Lib.hid (Hsr.out.keep ((HcR3.out).trans hc4))
                have hln := Hsk.out.ln
                obtain ⟨ns, hns⟩ : ∃ n, n = s.list.length := ⟨_, rfl⟩
                rw [← hns] at hln ⊢
                have Hns := Lib.hid hns
                have hal_ := (Chg.refl NoB w4).alloc (.cells #[.int .i64 yo, .int .i64 yn, .string (tx ys)] 38)
                have hb_ := heap_alloc_new w4 (.cells #[.int .i64 yo, .int .i64 yn, .string (tx ys)] 38)
                obtain ⟨b13, hxb_⟩ : ∃ b, b = w4.heap.size := ⟨_, rfl⟩
                obtain ⟨w5, hw_⟩ : ∃ w_, w4.alloc (.cells #[.int .i64 yo, .int .i64 yn, .string (tx ys)] 38) = w_ := ⟨_, rfl⟩
                have hz_ : w5.heap.size = b13 + 1 := by rw [← hw_, hxb_]; exact alloc_size _ _
                rw [hw_] at hal_ hb_
                rw [← hxb_] at hb_
                have Hw13 := Lib.hid hw_
                have Hx13 := Lib.hid hxb_
                have Ha13 := Lib.hid hal_
                have Hb13 := Lib.hid hb_
                have Hz13 := Lib.hid hz_
                clear hal_ hb_ hxb_ hw_ hz_
                obtain ⟨d0, d1, d2⟩ := var3 Hb13.out
                have Hsr5 := Lib.hid (Hsr4.out.keep Ha13.out)
                have Hc5 := Lib.hid (Hc4.out.trans Ha13.out)
                clear hc4 Hadd hns
                go_upto_region 20 with fail
                rw [Hw13.out, ← Hx13.out]
                go_upto_region 22 with fail
                have hal_ := (Chg.refl NoB w5).alloc (.cells #[.int .i64 yo, .int .i64 yn, .string (tx ys)] 38)
                have hb_ := heap_alloc_new w5 (.cells #[.int .i64 yo, .int .i64 yn, .string (tx ys)] 38)
                obtain ⟨b14, hxb_⟩ : ∃ b, b = w5.heap.size := ⟨_, rfl⟩
                obtain ⟨w6, hw_⟩ : ∃ w_, w5.alloc (.cells #[.int .i64 yo, .int .i64 yn, .string (tx ys)] 38) = w_ := ⟨_, rfl⟩
                have hz_ : w6.heap.size = b14 + 1 := by rw [← hw_, hxb_]; exact alloc_size _ _
                rw [hw_] at hal_ hb_
                rw [← hxb_] at hb_
                have Hw14 := Lib.hid hw_
                have Hx14 := Lib.hid hxb_
                have Ha14 := Lib.hid hal_
                have Hb14 := Lib.hid hb_
                have Hz14 := Lib.hid hz_
                clear hal_ hb_ hxb_ hw_ hz_
                have Hsr6 := Lib.hid (Hsr5.out.keep Ha14.out)
                have Hc6 := Lib.hid (Hc5.out.trans Ha14.out)
                have HoI := Lib.hid (show w6.ownsRow w2.heap.size 38 3 (.slice qp ns cp) ns (flatI (s.list.map LineL.ins)) by rw [Hns.out]; exact Hsr6.out.ins)
                go_upto_region 23 with (at_builtin; go_loud (rw [← Hx14.out, Hw14.out]); go_loud (refine wpList_ins (v := .slice qp ns cp) (y := ⟨yo, yn, ys⟩) rfl _ _ rfl rfl rfl HoI.out Hb14.out (by omega) Hc6.out.size ?_); intro v7 w7 hown7 hch7)
                obtain ⟨q7, c7, rfl, -, -⟩ := row_shape hown7
                have HI7 := Lib.hid hown7
                have HW7 := Lib.hid (ownsRow_chg Hsr6.out.want hch7 fun k e x => own_apart Hsr6.out.want HoI.out (by decide) k e x)
                have HN7 := Lib.hid (ownsRow_chg Hsr6.out.no hch7 fun k e x => own_apart Hsr6.out.no HoI.out (by decide) k e x)
                have HL7 := Lib.hid (ownsRow_chg Hsr6.out.lab hch7 fun k e x => own_apart Hsr6.out.lab HoI.out (by decide) k e x)
                have Hc7 := Lib.hid (Hc6.out.above hch7 fun k e => (World.ownsRow.lt HoI.out k e).1)
                clear hown7 hch7
                have hal_ := (Chg.refl NoB w7).alloc (.cells #[.string (tx yl)] 9)
                have hb_ := heap_alloc_new w7 (.cells #[.string (tx yl)] 9)
                obtain ⟨b15, hxb_⟩ : ∃ b, b = w7.heap.size := ⟨_, rfl⟩
                obtain ⟨w8, hw_⟩ : ∃ w_, w7.alloc (.cells #[.string (tx yl)] 9) = w_ := ⟨_, rfl⟩
                have hz_ : w8.heap.size = b15 + 1 := by rw [← hw_, hxb_]; exact alloc_size _ _
                rw [hw_] at hal_ hb_
                rw [← hxb_] at hb_
                have Hw15 := Lib.hid hw_
                have Hx15 := Lib.hid hxb_
                have Ha15 := Lib.hid hal_
                have Hb15 := Lib.hid hb_
                have Hz15 := Lib.hid hz_
                clear hal_ hb_ hxb_ hw_ hz_
                have HoW := Lib.hid (show w8.ownsRow w2.heap.size 9 1 (.slice qw ns cw) ns (txV (s.list.map LineL.lab)) by rw [Hns.out]; exact ownsRow_chg HW7.out Ha15.out fun _ _ => id)
                have HI8 := Lib.hid (ownsRow_chg HI7.out Ha15.out fun _ _ => id)
                have HN8 := Lib.hid (ownsRow_chg HN7.out Ha15.out fun _ _ => id)
                have HL8 := Lib.hid (ownsRow_chg HL7.out Ha15.out fun _ _ => id)
                have Hc8 := Lib.hid (Hc7.out.trans Ha15.out)
                have HnW := Lib.hid (show ns = (s.list.map LineL.lab).length by rw [List.length_map]; exact Hns.out)
                go_upto_region 24 with (at_builtin; go_loud (rw [← Hx15.out, Hw15.out]); go_loud (refine wpList_txt1 (v := .slice qw ns cw) (y := yl) rfl _ _ rfl rfl rfl HnW.out rfl HoW.out Hb15.out (by omega) Hc8.out.size ?_); intro v9 w9 hown9 hg9)
                obtain ⟨q9, c9, rfl, -, -⟩ := row_shape hown9
                have hch9 := (Chg.refl _ w8).grown hg9 fun j hj => .inl hj
                have HW9 := Lib.hid hown9
                have HI9 := Lib.hid (ownsRow_chg HI8.out hch9 fun k e x => own_apart HI8.out HoW.out (by decide) k e x)
                have HN9 := Lib.hid (ownsRow_chg HN8.out hch9 fun k e x => own_apart HN8.out HoW.out (by decide) k e x)
                have HL9 := Lib.hid (ownsRow_chg HL8.out hch9 fun k e x => own_apart HL8.out HoW.out (by decide) k e x)
                have Hc9 := Lib.hid (Hc8.out.above hch9 fun k e => (World.ownsRow.lt HoW.out k e).1)
                clear hown9 hg9 hch9
                have hal_ := (Chg.refl NoB w9).alloc (.cells #[.int .i64 ((k : Int) + 1)] 3)
                have hb_ := heap_alloc_new w9 (.cells #[.int .i64 ((k : Int) + 1)] 3)
                obtain ⟨b16, hxb_⟩ : ∃ b, b = w9.heap.size := ⟨_, rfl⟩
                obtain ⟨w10, hw_⟩ : ∃ w_, w9.alloc (.cells #[.int .i64 ((k : Int) + 1)] 3) = w_ := ⟨_, rfl⟩
                have hz_ : w10.heap.size = b16 + 1 := by rw [← hw_, hxb_]; exact alloc_size _ _
                rw [hw_] at hal_ hb_
                rw [← hxb_] at hb_
                have Hw16 := Lib.hid hw_
                have Hx16 := Lib.hid hxb_
                have Ha16 := Lib.hid hal_
                have Hb16 := Lib.hid hb_
                have Hz16 := Lib.hid hz_
                clear hal_ hb_ hxb_ hw_ hz_
                have HoN := Lib.hid (show w10.ownsRow w2.heap.size 3 1 (.slice qn ns cn) ns (s.list.map fun z => .int .i64 z.no) by rw [Hns.out]; exact ownsRow_chg HN9.out Ha16.out fun _ _ => id)
                have HI10 := Lib.hid (ownsRow_chg HI9.out Ha16.out fun _ _ => id)
                have HW10 := Lib.hid (ownsRow_chg HW9.out Ha16.out fun _ _ => id)
                have HL10 := Lib.hid (ownsRow_chg HL9.out Ha16.out fun _ _ => id)
                have Hc10 := Lib.hid (Hc9.out.trans Ha16.out)
                go_wp2_with (at_builtin; go_loud (rw [← Hx16.out, Hw16.out]); go_loud (refine wpList_no (v := .slice qn ns cn) (l := s.list) (y := ⟨(k : Int) + 1, ⟨yo, yn, ys⟩, yl⟩) rfl _ _ rfl rfl rfl HoN.out Hb16.out (by omega) Hc10.out.size ?_); intro v11 w11 hown11 hch11)
                go_roundw
                case rel =>
                  have hl1 : (s.list ++ [(⟨(k : Int) + 1, ⟨yo, yn, ys⟩, yl⟩ : LineL)]).length = ns + 1 := by rw [List.length_append, ← Hns.out]; rfl
                  refine ⟨k + 1, ⟨s.labs, s.list ++ [⟨(k : Int) + 1, ⟨yo, yn, ys⟩, yl⟩]⟩, by omega, by go_num, Hst.out, ⟨?_, ?_, ?_, ?_⟩, Hc10.out.above hch11 fun j e => (World.ownsRow.lt HoN.out j e).1⟩
                  · have h := ownsRow_chg HI10.out hch11 fun k e x => own_apart HI10.out HoN.out (by decide) k e x
                    simp only [hl1, List.map_append, List.map_cons, List.map_nil]
                    exact h
                  · have h := ownsRow_chg HW10.out hch11 fun k e x => own_apart HW10.out HoN.out (by decide) k e x
                    simp only [hl1, List.map_append, List.map_cons, List.map_nil]
                    exact h
                  · simp only [hl1]
                    exact hown11
                  · exact ownsRow_chg HL10.out hch11 fun k e x => own_apart HL10.out HoN.out (by decide) k e x
                case measure => simp [intOf]; omega
            | true =>
              have hmark : markF u = true := hmk2.trans hN
              have Hadd := Lib.hid (show addF s u ((k : Int) + 1) = if hasK s.labs (u.take m) = true then .error 11 else .ok ⟨s.labs ++ [(u.take m, (s.list.length : Int))], s.list⟩ by
                unfold addF
                rw [if_neg (by rintro (h | h); exact hu0 h; exact hc59 (Option.some.inj (hcu.symm.trans h))), if_pos hmark, Hdl.out])
              have Hsr3 := Lib.hid (Hsr.out.keep HcR3.out)
              have hln := Hsk.out.ln
              have hlb := Hsk.out.lb
              clear hmk2 hN hmark hu0 hcu hc59 HcR3
              obtain ⟨nl, hnl⟩ : ∃ n, n = s.labs.length := ⟨_, rfl⟩
              obtain ⟨ns, hns⟩ : ∃ n, n = s.list.length := ⟨_, rfl⟩
              have HB3 := Lib.hid (show w3.ownsRow w2.heap.size 53 2 (.slice qb nl cb) nl (flatL s.labs) by rw [hnl]; exact Hsr3.out.lab)
              rw [← hnl] at hlb ⊢
              rw [← hns] at hln Hadd ⊢
              have Hns := Lib.hid hns
              have Hnl := Lib.hid hnl
              obtain ⟨nm, hnm⟩ : ∃ n, n = u.take m := ⟨_, rfl⟩
              rw [← hnm] at hcut Hadd
              have en2 := txQ nm
              clear hns hnl hnm Hdl
              go_wp2_with fail
              go_loopw [57] (fun iv wq => ∃ j : Nat, j ≤ nl ∧ iv = .int .i64 j ∧ hasK (s.labs.take j) nm = false ∧ Chg NoB w3 wq) (fun iv _ => nl - (intOf iv).toNat)
              case atStart => exact ⟨0, Nat.zero_le _, rfl, rfl, Chg.refl _ _⟩
              case round =>
                rename World => wq
                obtain ⟨j, hj, rfl, hno, hcq⟩ := hrel
                have Hno := Lib.hid hno
                have Hcq := Lib.hid hcq
                clear hno hcq
                by_cases hjl : j < nl
                · have hjj : j < s.labs.length := by rw [← Hnl.out]; exact hjl
                  obtain ⟨gb, rfl⟩ := own_q HB3.out (by omega)
                  obtain ⟨a0, a1⟩ := flatL_at s.labs j hjj
                  have p0 := Hcq.out.keep (World.ownsRow.cells (g := gb) HB3.out rfl _ _ a0)
                  have p1 := Hcq.out.keep (World.ownsRow.cells (g := gb) HB3.out rfl _ _ a1)
                  rw [add_zero_off] at p0 p1
                  have Hhas := Lib.hid (fun h => hasK_mem (n := nm) hjj h)
                  have Hsn := Lib.hid (show hasK (s.labs.take (j + 1)) nm = (s.labs[j].1 == nm) by rw [take_at hjj, hasK_snoc, Hno.out]; rfl)
                  clear a0 a1
                  generalize s.labs[j] = y at *
                  obtain ⟨yn, ya⟩ := y
                  simp only at p0 p1 Hhas Hsn
                  have en3 := txQ yn
                  have hal_ := (Chg.refl NoB wq).alloc (.cells #[.string (tx yn), .int .i64 ya] 53)
                  have hb_ := heap_alloc_new wq (.cells #[.string (tx yn), .int .i64 ya] 53)
                  obtain ⟨b12, hxb_⟩ : ∃ b, b = wq.heap.size := ⟨_, rfl⟩
                  obtain ⟨w5, hw_⟩ : ∃ w_, wq.alloc (.cells #[.string (tx yn), .int .i64 ya] 53) = w_ := ⟨_, rfl⟩
                  have hz_ : w5.heap.size = b12 + 1 := by rw [← hw_, hxb_]; exact alloc_size _ _
                  rw [hw_] at hal_ hb_
                  rw [← hxb_] at hb_
                  have Hw12 := Lib.hid hw_
                  have Hx12 := Lib.hid hxb_
                  have Ha12 := Lib.hid hal_
                  have Hb12 := Lib.hid hb_
                  have Hz12 := Lib.hid hz_
                  clear hal_ hb_ hxb_ hw_ hz_
                  obtain ⟨e0, e1⟩ := var2 Hb12.out
                  have Hc5 := Lib.hid ((Hc3.out.trans Hcq.out).trans Ha12.out)
                  have Hcq5 := Lib.hid (Hcq.out.trans Ha12.out)
                  go_upto_region 15 with fail
                  rw [Hw12.out, ← Hx12.out]
                  clear p0 p1
                  by_cases hyn : yn = nm
                  · subst hyn
                    have Hstop := Lib.hid (Hsk.out.stop hkl Htake.out (e := 11) (by rw [Hadd.out, if_pos (Hhas.out rfl)]))
                    clear Hadd Hsn
                    go_wp2_with fail
                    go_quiet (fail)
                    have HcD := Lib.hid (Hc5.out.drewN nq)
                    generalize w5.drewN nq = w6 at *
                    go_wp2_with fail
                    go_ret3
                    exact ⟨Hc2.out.trans HcD.out, .slice none 0 0, by rw [Hd.out, Hstop.out]; rfl, by rw [Hd.out, Hstop.out]; exact World.ownsRow_nil _ _ _ _⟩
                  · have hynb : (yn == nm) = false := by simpa using hyn
                    rw [hynb] at Hsn
                    clear hyn
                    go_wp2_with fail
                    go_quiet (fail)
                    have HcD := Lib.hid (Hcq5.out.drewN nq)
                    generalize w5.drewN nq = w6 at *
                    go_wp2_with fail
                    go_roundw
                    case rel => exact ⟨j + 1, by omega, by go_num, Hsn.out, HcD.out⟩
                    case measure => simp [intOf]; omega
                · obtain rfl : j = nl := by omega
                  rw [Hnl.out, List.take_length] at Hno
                  rw [if_neg (by rw [Hno.out]; decide)] at Hadd
                  have Hst := Lib.hid (Hsk.out.step hkl Htake.out hul Hadd.out)
                  have hal_ := (Chg.refl NoB wq).alloc (.cells #[.string (tx nm), .int .i64 ns] 53)
                  have hb_ := heap_alloc_new wq (.cells #[.string (tx nm), .int .i64 ns] 53)
                  obtain ⟨b14, hxb_⟩ : ∃ b, b = wq.heap.size := ⟨_, rfl⟩
                  obtain ⟨w5, hw_⟩ : ∃ w_, wq.alloc (.cells #[.string (tx nm), .int .i64 ns] 53) = w_ := ⟨_, rfl⟩
                  have hz_ : w5.heap.size = b14 + 1 := by rw [← hw_, hxb_]; exact alloc_size _ _
                  rw [hw_] at hal_ hb_
                  rw [← hxb_] at hb_
                  have Hw14 := Lib.hid hw_
                  have Hx14 := Lib.hid hxb_
                  have Ha14 := Lib.hid hal_
                  have Hb14 := Lib.hid hb_
                  have Hz14 := Lib.hid hz_
                  clear hal_ hb_ hxb_ hw_ hz_
                  have Hc5 := Lib.hid ((Hc3.out.trans Hcq.out).trans Ha14.out)
                  have Hsr5 := Lib.hid ((Hsr3.out.keep Hcq.out).keep Ha14.out)
                  have HI5 := Lib.hid (show w5.ownsRow w2.heap.size 38 3 (.slice qp ns cp) ns (flatI (s.list.map LineL.ins)) by rw [Hns.out]; exact Hsr5.out.ins)
                  have HW5 := Lib.hid (show w5.ownsRow w2.heap.size 9 1 (.slice qw ns cw) ns (txV (s.list.map LineL.lab)) by rw [Hns.out]; exact Hsr5.out.want)
                  have HN5 := Lib.hid (show w5.ownsRow w2.heap.size 3 1 (.slice qn ns cn) ns (s.list.map fun z => .int .i64 z.no) by rw [Hns.out]; exact Hsr5.out.no)
                  have HB5 := Lib.hid (ownsRow_chg HB3.out (Hcq.out.trans Ha14.out) fun _ _ => id)
                  clear Hadd
                  go_wp2_with (at_builtin; go_loud (rw [← Hx14.out, Hw14.out]); go_loud (refine wpList_lbl (v := .slice qb j cb) (y := (nm, (ns : Int))) rfl _ _ rfl rfl rfl HB5.out Hb14.out (by omega) Hc5.out.size ?_); intro v7 w7 hown7 hch7)
                  go_roundw
                  case rel =>
                    have hl1 : (s.labs ++ [(nm, (ns : Int))]).length = j + 1 := by rw [List.length_append, ← Hnl.out]; rfl
                    refine ⟨k + 1, ⟨s.labs ++ [(nm, (ns : Int))], s.list⟩, by omega, by go_num, Hst.out, ⟨?_, ?_, ?_, ?_⟩, Hc5.out.above hch7 fun j e => (World.ownsRow.lt HB5.out j e).1⟩
                    · show World.ownsRow _ _ _ _ _ s.list.length _
                      rw [← Hns.out]
                      exact ownsRow_chg HI5.out hch7 fun k e x => own_apart HI5.out HB5.out (by decide) k e x
                    · show World.ownsRow _ _ _ _ _ s.list.length _
                      rw [← Hns.out]
                      exact ownsRow_chg HW5.out hch7 fun k e x => own_apart HW5.out HB5.out (by decide) k e x
                    · show World.ownsRow _ _ _ _ _ s.list.length _
                      rw [← Hns.out]
                      exact ownsRow_chg HN5.out hch7 fun k e x => own_apart HN5.out HB5.out (by decide) k e x
                    · simp only [hl1]
                      exact hown7
                  case measure => simp [intOf]; omega
          · have hzb : ((z.toNat : Int) == 58) = false := by
              rw [beq_eq_false_iff_ne]; intro e; apply hz58; exact UInt8.toNat_inj.1 (by have : (58 : UInt8).toNat = 58 := rfl; omega)
            have hmark : markF u = false := by unfold markF; rw [hzl]; simp [hz58]
            clear hzl hz58 hm
            go_wp2_with fail
            refine (rins_any u base wr (H.out.keep (Hc2.out.trans Hc.out)) hul).mono ?_
            rintro e w4 ⟨hc4, he4⟩
            have Hc4 := Lib.hid ((Hc.out).trans hc4)
            have Hadd := Lib.hid (show addF s u ((k : Int) + 1) = match insF u with
                | none => .error 50
                | some x => .ok ⟨s.labs, s.list ++ [⟨(k : Int) + 1, x.1, x.2⟩]⟩ by
              unfold addF
              rw [if_neg (by rintro (h | h); exact hu0 h; exact hc59 (Option.some.inj (hcu.symm.trans h))), if_neg (by rw [hmark]; simp)]
              cases insF u <;> rfl)
            generalize insF u = o at *
            cases o with
            | none =>
              obtain ⟨op, n, sx, lx, rfl⟩ := he4
              have Hstop := Lib.hid (Hsk.out.stop hkl Htake.out Hadd.out)
              clear hc4 Hadd
              go_wp2_with fail
              go_ret3
              exact ⟨Hc2.out.trans (Hc4.out.above (S := fun _ => False) ((Chg.refl _ _).alloc _) fun _ h => h.elim),    .slice none 0 0, by rw [Hd.out, Hstop.out]; rfl, by rw [Hd.out, Hstop.out]; exact World.ownsRow_nil _ _ _ _⟩
            | some y =>
              obtain ⟨⟨yo, yn, ys⟩, yl⟩ := y
              replace he4 : e = .returned (.tuple #[.agg #[.int .i64 yo, .int .i64 yn, .string (tx ys)], .string (tx yl), .bool true]) := he4
              subst he4
              have Hst := Lib.hid (Hsk.out.step hkl Htake.out hul Hadd.out)
              have Hsr4 := Lib.hid (Hsr.out.keep ((Chg.refl NoB wr).trans hc4))
              have hln := Hsk.out.ln
              obtain ⟨ns, hns⟩ : ∃ n, n = s.list.length := ⟨_, rfl⟩
              rw [← hns] at hln ⊢
              have Hns := Lib.hid hns
              have hal_ := (Chg.refl NoB w4).alloc (.cells #[.int .i64 yo, .int .i64 yn, .string (tx ys)] 38)
              have hb_ := heap_alloc_new w4 (.cells #[.int .i64 yo, .int .i64 yn, .string (tx ys)] 38)
              obtain ⟨b13, hxb_⟩ : ∃ b, b = w4.heap.size := ⟨_, rfl⟩
              obtain ⟨w5, hw_⟩ : ∃ w_, w4.alloc (.cells #[.int .i64 yo, .int .i64 yn, .string (tx ys)] 38) = w_ := ⟨_, rfl⟩
              have hz_ : w5.heap.size = b13 + 1 := by rw [← hw_, hxb_]; exact alloc_size _ _
              rw [hw_] at hal_ hb_
              rw [← hxb_] at hb_
              have Hw13 := Lib.hid hw_
              have Hx13 := Lib.hid hxb_
              have Ha13 := Lib.hid hal_
              have Hb13 := Lib.hid hb_
              have Hz13 := Lib.hid hz_
              clear hal_ hb_ hxb_ hw_ hz_
              obtain ⟨d0, d1, d2⟩ := var3 Hb13.out
              have Hsr5 := Lib.hid (Hsr4.out.keep Ha13.out)
              have Hc5 := Lib.hid (Hc4.out.trans Ha13.out)
              clear hc4 Hadd hns
              go_upto_region 20 with fail
              rw [Hw13.out, ← Hx13.out]
              go_upto_region 22 with fail
              have hal_ := (Chg.refl NoB w5).alloc (.cells #[.int .i64 yo, .int .i64 yn, .string (tx ys)] 38)
              have hb_ := heap_alloc_new w5 (.cells #[.int .i64 yo, .int .i64 yn, .string (tx ys)] 38)
              obtain ⟨b14, hxb_⟩ : ∃ b, b = w5.heap.size := ⟨_, rfl⟩
              obtain ⟨w6, hw_⟩ : ∃ w_, w5.alloc (.cells #[.int .i64 yo, .int .i64 yn, .string (tx ys)] 38) = w_ := ⟨_, rfl⟩
              have hz_ : w6.heap.size = b14 + 1 := by rw [← hw_, hxb_]; exact alloc_size _ _
              rw [hw_] at hal_ hb_
              rw [← hxb_] at hb_
              have Hw14 := Lib.hid hw_
              have Hx14 := Lib.hid hxb_
              have Ha14 := Lib.hid hal_
              have Hb14 := Lib.hid hb_
              have Hz14 := Lib.hid hz_
              clear hal_ hb_ hxb_ hw_ hz_
              have Hsr6 := Lib.hid (Hsr5.out.keep Ha14.out)
              have Hc6 := Lib.hid (Hc5.out.trans Ha14.out)
              have HoI := Lib.hid (show w6.ownsRow w2.heap.size 38 3 (.slice qp ns cp) ns (flatI (s.list.map LineL.ins)) by rw [Hns.out]; exact Hsr6.out.ins)
              go_upto_region 23 with (at_builtin; go_loud (rw [← Hx14.out, Hw14.out]); go_loud (refine wpList_ins (v := .slice qp ns cp) (y := ⟨yo, yn, ys⟩) rfl _ _ rfl rfl rfl HoI.out Hb14.out (by omega) Hc6.out.size ?_); intro v7 w7 hown7 hch7)
              obtain ⟨q7, c7, rfl, -, -⟩ := row_shape hown7
              have HI7 := Lib.hid hown7
              have HW7 := Lib.hid (ownsRow_chg Hsr6.out.want hch7 fun k e x => own_apart Hsr6.out.want HoI.out (by decide) k e x)
              have HN7 := Lib.hid (ownsRow_chg Hsr6.out.no hch7 fun k e x => own_apart Hsr6.out.no HoI.out (by decide) k e x)
              have HL7 := Lib.hid (ownsRow_chg Hsr6.out.lab hch7 fun k e x => own_apart Hsr6.out.lab HoI.out (by decide) k e x)
              have Hc7 := Lib.hid (Hc6.out.above hch7 fun k e => (World.ownsRow.lt HoI.out k e).1)
              clear hown7 hch7
              have hal_ := (Chg.refl NoB w7).alloc (.cells #[.string (tx yl)] 9)
              have hb_ := heap_alloc_new w7 (.cells #[.string (tx yl)] 9)
              obtain ⟨b15, hxb_⟩ : ∃ b, b = w7.heap.size := ⟨_, rfl⟩
              obtain ⟨w8, hw_⟩ : ∃ w_, w7.alloc (.cells #[.string (tx yl)] 9) = w_ := ⟨_, rfl⟩
              have hz_ : w8.heap.size = b15 + 1 := by rw [← hw_, hxb_]; exact alloc_size _ _
              rw [hw_] at hal_ hb_
              rw [← hxb_] at hb_
              have Hw15 := Lib.hid hw_
              have Hx15 := Lib.hid hxb_
              have Ha15 := Lib.hid hal_
              have Hb15 := Lib.hid hb_
              have Hz15 := Lib.hid hz_
              clear hal_ hb_ hxb_ hw_ hz_
              have HoW := Lib.hid (show w8.ownsRow w2.heap.size 9 1 (.slice qw ns cw) ns (txV (s.list.map LineL.lab)) by rw [Hns.out]; exact ownsRow_chg HW7.out Ha15.out fun _ _ => id)
              have HI8 := Lib.hid (ownsRow_chg HI7.out Ha15.out fun _ _ => id)
              have HN8 := Lib.hid (ownsRow_chg HN7.out Ha15.out fun _ _ => id)
              have HL8 := Lib.hid (ownsRow_chg HL7.out Ha15.out fun _ _ => id)
              have Hc8 := Lib.hid (Hc7.out.trans Ha15.out)
              have HnW := Lib.hid (show ns = (s.list.map LineL.lab).length by rw [List.length_map]; exact Hns.out)
              go_upto_region 24 with (at_builtin; go_loud (rw [← Hx15.out, Hw15.out]); go_loud (refine wpList_txt1 (v := .slice qw ns cw) (y := yl) rfl _ _ rfl rfl rfl HnW.out rfl HoW.out Hb15.out (by omega) Hc8.out.size ?_); intro v9 w9 hown9 hg9)
              obtain ⟨q9, c9, rfl, -, -⟩ := row_shape hown9
              have hch9 := (Chg.refl _ w8).grown hg9 fun j hj => .inl hj
              have HW9 := Lib.hid hown9
              have HI9 := Lib.hid (ownsRow_chg HI8.out hch9 fun k e x => own_apart HI8.out HoW.out (by decide) k e x)
              have HN9 := Lib.hid (ownsRow_chg HN8.out hch9 fun k e x => own_apart HN8.out HoW.out (by decide) k e x)
              have HL9 := Lib.hid (ownsRow_chg HL8.out hch9 fun k e x => own_apart HL8.out HoW.out (by decide) k e x)
              have Hc9 := Lib.hid (Hc8.out.above hch9 fun k e => (World.ownsRow.lt HoW.out k e).1)
              clear hown9 hg9 hch9
              have hal_ := (Chg.refl NoB w9).alloc (.cells #[.int .i64 ((k : Int) + 1)] 3)
              have hb_ := heap_alloc_new w9 (.cells #[.int .i64 ((k : Int) + 1)] 3)
              obtain ⟨b16, hxb_⟩ : ∃ b, b = w9.heap.size := ⟨_, rfl⟩
              obtain ⟨w10, hw_⟩ : ∃ w_, w9.alloc (.cells #[.int .i64 ((k : Int) + 1)] 3) = w_ := ⟨_, rfl⟩
              have hz_ : w10.heap.size = b16 + 1 := by rw [← hw_, hxb_]; exact alloc_size _ _
              rw [hw_] at hal_ hb_
              rw [← hxb_] at hb_
              have Hw16 := Lib.hid hw_
              have Hx16 := Lib.hid hxb_
              have Ha16 := Lib.hid hal_
              have Hb16 := Lib.hid hb_
              have Hz16 := Lib.hid hz_
              clear hal_ hb_ hxb_ hw_ hz_
              have HoN := Lib.hid (show w10.ownsRow w2.heap.size 3 1 (.slice qn ns cn) ns (s.list.map fun z => .int .i64 z.no) by rw [Hns.out]; exact ownsRow_chg HN9.out Ha16.out fun _ _ => id)
              have HI10 := Lib.hid (ownsRow_chg HI9.out Ha16.out fun _ _ => id)
              have HW10 := Lib.hid (ownsRow_chg HW9.out Ha16.out fun _ _ => id)
              have HL10 := Lib.hid (ownsRow_chg HL9.out Ha16.out fun _ _ => id)
              have Hc10 := Lib.hid (Hc9.out.trans Ha16.out)
              go_wp2_with (at_builtin; go_loud (rw [← Hx16.out, Hw16.out]); go_loud (refine wpList_no (v := .slice qn ns cn) (l := s.list) (y := ⟨(k : Int) + 1, ⟨yo, yn, ys⟩, yl⟩) rfl _ _ rfl rfl rfl HoN.out Hb16.out (by omega) Hc10.out.size ?_); intro v11 w11 hown11 hch11)
              go_roundw
              case rel =>
                have hl1 : (s.list ++ [(⟨(k : Int) + 1, ⟨yo, yn, ys⟩, yl⟩ : LineL)]).length = ns + 1 := by rw [List.length_append, ← Hns.out]; rfl
                refine ⟨k + 1, ⟨s.labs, s.list ++ [⟨(k : Int) + 1, ⟨yo, yn, ys⟩, yl⟩]⟩, by omega, by go_num, Hst.out, ⟨?_, ?_, ?_, ?_⟩, Hc10.out.above hch11 fun j e => (World.ownsRow.lt HoN.out j e).1⟩
                · have h := ownsRow_chg HI10.out hch11 fun k e x => own_apart HI10.out HoN.out (by decide) k e x
                  simp only [hl1, List.map_append, List.map_cons, List.map_nil]
                  exact h
                · have h := ownsRow_chg HW10.out hch11 fun k e x => own_apart HW10.out HoN.out (by decide) k e x
                  simp only [hl1, List.map_append, List.map_cons, List.map_nil]
                  exact h
                · simp only [hl1]
                  exact hown11
                · exact ownsRow_chg HL10.out hch11 fun k e x => own_apart HL10.out HoN.out (by decide) k e x
              case measure => simp [intOf]; omega
    · obtain rfl : k = L := by omega
      have Hfine := Lib.hid (show linesF ls 0 ⟨[], []⟩ = .ok s by have := Hsk.out.fine; rwa [HL2.out, List.take_length] at this)
      rw [Hfine.out] at Hd
      simp only at Hd
      have Hln := Hsk.out.ln
      have Hlb := Hsk.out.lb
      have Hnd := Lib.hid Hsk.out.nd
      have Hnn := Lib.hid Hsk.out.nn
      have Hwf := Lib.hid Hsk.out.wf
      clear Hfine Hsk HL2 HrowL HcellL HqL Hsm hlt H
      obtain ⟨nl, hnl⟩ : ∃ n, n = s.labs.length := ⟨_, rfl⟩
      obtain ⟨ns, hns⟩ : ∃ n, n = s.list.length := ⟨_, rfl⟩
      have HI := Lib.hid (show wr.ownsRow w2.heap.size 38 3 (.slice qp ns cp) ns (flatI (s.list.map LineL.ins)) by rw [hns]; exact Hsr.out.ins)
      have HW := Lib.hid (show wr.ownsRow w2.heap.size 9 1 (.slice qw ns cw) ns (txV (s.list.map LineL.lab)) by rw [hns]; exact Hsr.out.want)
      have HN := Lib.hid (show wr.ownsRow w2.heap.size 3 1 (.slice qn ns cn) ns (s.list.map fun z => .int .i64 z.no) by rw [hns]; exact Hsr.out.no)
      have HB := Lib.hid (show wr.ownsRow w2.heap.size 53 2 (.slice qb nl cb) nl (flatL s.labs) by rw [hnl]; exact Hsr.out.lab)
      have HKW := Lib.hid (fun (W : World) (h : Chg (fun j => (Value.slice qp ns cp).ownBlock = some j) wr W) => ownsRow_chg HW.out h fun k e x => own_apart HW.out HI.out (by decide) k e x)
      have HKN := Lib.hid (fun (W : World) (h : Chg (fun j => (Value.slice qp ns cp).ownBlock = some j) wr W) => ownsRow_chg HN.out h fun k e x => own_apart HN.out HI.out (by decide) k e x)
      have HKB := Lib.hid (fun (W : World) (h : Chg (fun j => (Value.slice qp ns cp).ownBlock = some j) wr W) => ownsRow_chg HB.out h fun k e x => own_apart HB.out HI.out (by decide) k e x)
      have HKC := Lib.hid (fun (W : World) (h : Chg (fun j => (Value.slice qp ns cp).ownBlock = some j) wr W) => Hc.out.above h fun k e => (World.ownsRow.lt HI.out k e).1)
      rw [← hnl] at Hlb ⊢
      rw [← hns] at Hln ⊢
      have Hns := Lib.hid hns
      have Hnl := Lib.hid hnl
      clear hns hnl Hsr HW HN HB
      go_wp2_with fail
      go_loopw [109] (fun iv wq => ∃ (j : Nat) (p : List InsL), j ≤ ns ∧ iv = .int .i64 j ∧ fillF s.labs (s.list.take j) = .ok p ∧ p.length = j ∧ wq.ownsRow w2.heap.size 38 3 (.slice qp ns cp) ns (flatI (p ++ (s.list.drop j).map LineL.ins)) ∧ Chg (fun j => (Value.slice qp ns cp).ownBlock = some j) wr wq) (fun iv _ => ns - (intOf iv).toNat)
      case atStart => exact ⟨0, [], Nat.zero_le _, rfl, rfl, rfl, HI.out, Chg.refl _ _⟩
      case round =>
        rename World => wq
        obtain ⟨j, p, hj, rfl, hf, hpl, hor, hcq⟩ := hrel
        have Hpl := Lib.hid hpl
        have Hor := Lib.hid hor
        have Hcq := Lib.hid hcq
        have Hf := Lib.hid hf
        clear hf hpl hor hcq
        by_cases hjl : j < ns
        · have hjj : j < s.list.length := by rw [← Hns.out]; exact hjl
          have HWq := Lib.hid (HKW.out _ Hcq.out)
          have HNq := Lib.hid (HKN.out _ Hcq.out)
          have HBq := Lib.hid (HKB.out _ Hcq.out)
          have HCq := Lib.hid (HKC.out _ Hcq.out)
          obtain ⟨gw, rfl⟩ := own_q HWq.out (by omega)
          obtain ⟨gn, rfl⟩ := own_q HNq.out (by omega)
          obtain ⟨gp, rfl⟩ := own_q Hor.out (by omega)
          have pw := World.ownsRow.cells (g := gw) HWq.out rfl j (.string (tx s.list[j].lab)) (by rw [txV_at (by rw [List.length_map]; exact hjj), List.getElem_map])
          have pn := World.ownsRow.cells (g := gn) HNq.out rfl j (.int .i64 s.list[j].no) (by rw [List.getElem?_map, List.getElem?_eq_getElem hjj]; rfl)
          have hdr : s.list.drop j = s.list[j] :: s.list.drop (j + 1) := List.drop_eq_getElem_cons hjj
          rw [add_zero_off] at pw pn
          have Hsn := Lib.hid (fillF_snoc s.labs (s.list.take j) s.list[j] p Hf.out)
          rw [← take_at hjj] at Hsn
          have Hff := Lib.hid (fun e (h : fillF s.labs (s.list.take (j + 1)) = .error e) => by
            have := fillF_err s.labs (s.list.take (j + 1)) (s.list.drop (j + 1)) e h
            rw [List.take_append_drop] at this
            exact this)
          rw [hdr, List.map_cons] at Hor
          clear hdr
          generalize s.list[j] = x at *
          obtain ⟨no, ⟨op, n, sx⟩, lb⟩ := x
          simp only at pw pn Hsn Hor
          have en := txQ lb
          by_cases hl0 : lb = []
          · subst hl0
            replace Hsn := Lib.hid (show fillF s.labs (s.list.take (j + 1)) = .ok (p ++ [⟨op, n, sx⟩]) by rw [Hsn.out]; rfl)
            go_wp2_with fail
            go_roundw
            case rel => exact ⟨j + 1, p ++ [⟨op, n, sx⟩], by omega, by go_num, Hsn.out, by rw [List.length_append, Hpl.out]; rfl, by have := Hor.out; rw [List.append_assoc]; exact this, Hcq.out⟩
            case measure => simp [intOf]; omega
          · have hl0b : (lb == []) = false := by simpa using hl0
            rw [if_neg hl0] at Hsn
            clear hl0
            have HLK := Lib.hid (lastK_at (ls := s.labs) lb Hnd.out)
            go_wp2_with fail
            go_loopw [17, 119] (fun av iv wz => ∃ i : Nat, i ≤ nl ∧ iv = .int .i64 i ∧ av = .int .i64 (lastK (s.labs.take i) lb) ∧ Chg NoB wq wz) (fun _ iv _ => nl - (intOf iv).toNat)
            case atStart => exact ⟨0, Nat.zero_le _, rfl, rfl, Chg.refl _ _⟩
            case round =>
              rename World => wz
              obtain ⟨i, hi, rfl, rfl, hcz⟩ := hrel
              have Hcz := Lib.hid hcz
              clear hcz
              by_cases hil : i < nl
              · have hii : i < s.labs.length := by rw [← Hnl.out]; exact hil
                obtain ⟨gb, rfl⟩ := own_q HBq.out (by omega)
                obtain ⟨a0, a1⟩ := flatL_at s.labs i hii
                have p0 := Hcz.out.keep (World.ownsRow.cells (g := gb) HBq.out rfl _ _ a0)
                have p1 := Hcz.out.keep (World.ownsRow.cells (g := gb) HBq.out rfl _ _ a1)
                rw [add_zero_off] at p0 p1
                have Hsl := Lib.hid (lastK_snoc (s.labs.take i) s.labs[i] lb)
                rw [← take_at hii] at Hsl
                clear a0 a1
                generalize s.labs[i] = y at *
                obtain ⟨yn, ya⟩ := y
                simp only at p0 p1 Hsl
                have en3 := txQ yn
                have hal_ := (Chg.refl NoB wz).alloc (.cells #[.string (tx yn), .int .i64 ya] 53)
                have hb_ := heap_alloc_new wz (.cells #[.string (tx yn), .int .i64 ya] 53)
                obtain ⟨b19, hxb_⟩ : ∃ b, b = wz.heap.size := ⟨_, rfl⟩
                obtain ⟨w5, hw_⟩ : ∃ w_, wz.alloc (.cells #[.string (tx yn), .int .i64 ya] 53) = w_ := ⟨_, rfl⟩
                have hz_ : w5.heap.size = b19 + 1 := by rw [← hw_, hxb_]; exact alloc_size _ _
                rw [hw_] at hal_ hb_
                rw [← hxb_] at hb_
                have Hw19 := Lib.hid hw_
                have Hx19 := Lib.hid hxb_
                have Ha19 := Lib.hid hal_
                have Hb19 := Lib.hid hb_
                have Hz19 := Lib.hid hz_
                clear hal_ hb_ hxb_ hw_ hz_
                obtain ⟨e0, e1⟩ := var2 Hb19.out
                have Hcz5 := Lib.hid (Hcz.out.trans Ha19.out)
                have pw5 := Hcz5.out.keep pw
                go_upto_region 34 with fail
                rw [Hw19.out, ← Hx19.out]
                clear p0 p1 pw pn
                by_cases hyn : yn = lb
                · have hynb : (yn == lb) = true := by simp [hyn]
                  rw [if_pos hyn] at Hsl
                  clear hyn
                  go_wp2_with fail
                  go_quiet (fail)
                  have HcD := Lib.hid (Hcz5.out.drewN nq)
                  have e1' := ((Chg.refl NoB w5).drewN nq).keep e1
                  clear e0 e1 pw5
                  generalize w5.drewN nq = w6 at *
                  go_wp2_with fail
                  go_roundw
                  case rel => exact ⟨i + 1, by omega, by go_num, by rw [Hsl.out], HcD.out⟩
                  case measure => simp [intOf]; omega
                · have hynb : (yn == lb) = false := by simpa using hyn
                  rw [if_neg hyn] at Hsl
                  clear hyn
                  go_wp2_with fail
                  go_quiet (fail)
                  have HcD := Lib.hid (Hcz5.out.drewN nq)
                  clear e0 e1 pw5
                  generalize w5.drewN nq = w6 at *
                  go_wp2_with fail
                  go_roundw
                  case rel => exact ⟨i + 1, by omega, by go_num, by rw [Hsl.out], HcD.out⟩
                  case measure => simp [intOf]; omega
              · obtain rfl : i = nl := by omega
                have hlk : lastK (s.labs.take i) lb = (atK s.labs lb).getD (-1) := by rw [Hnl.out, List.take_length]; exact HLK.out
                rw [hlk]
                clear hlk HLK
                have HzC := Lib.hid (HCq.out.trans Hcz.out)
                cases hat : atK s.labs lb with
                | none =>
                  have Hend := Lib.hid (show endF s = ([], no, 31) by
                    unfold endF
                    rw [Hff.out no (by rw [Hsn.out, hat])])
                  have pn2 := Hcz.out.keep pn
                  clear hat pw pn
                  simp only [Option.getD_none]
                  go_wp2_with fail
                  go_quiet (fail)
                  have HcQ := Lib.hid (HzC.out.drewN nq)
                  generalize wz.drewN nq = w6 at *
                  go_wp2_with fail
                  go_ret3
                  exact ⟨Hc2.out.trans HcQ.out, .slice none 0 0, by rw [Hd.out, Hend.out]; rfl, by rw [Hd.out, Hend.out]; exact World.ownsRow_nil _ _ _ _⟩
                | some a =>
                  have ha0 : 0 ≤ a ∧ a ≤ (k : Int) := by
                    obtain ⟨x, hx, rfl⟩ := atK_mem hat
                    have := Hnn.out x hx
                    omega
                  replace Hsn := Lib.hid (show fillF s.labs (s.list.take (j + 1)) = .ok (p ++ [⟨op, a, sx⟩]) by rw [Hsn.out, hat])
                  obtain ⟨a0, a1, a2⟩ := flatI_mid p (⟨op, n, sx⟩ : InsL) ((s.list.drop (j + 1)).map LineL.ins) Hpl.out
                  have Hoz := Lib.hid (ownsRow_chg Hor.out Hcz.out fun _ _ => id)
                  have t0 := World.ownsRow.cells (g := gp) Hoz.out rfl _ _ a0
                  have t1 := World.ownsRow.cells (g := gp) Hoz.out rfl _ _ a1
                  have t2 := World.ownsRow.cells (g := gp) Hoz.out rfl _ _ a2
                  rw [add_zero_off] at t0 t1 t2
                  simp only at t0 t1 t2
                  clear hat pw pn a0 a1 a2
                  simp only [Option.getD_some]
                  have hal_ := (Chg.refl NoB wz).alloc (.cells #[.int .i64 op, .int .i64 n, .string (tx sx)] 38)
                  have hb_ := heap_alloc_new wz (.cells #[.int .i64 op, .int .i64 n, .string (tx sx)] 38)
                  obtain ⟨b20, hxb_⟩ : ∃ b, b = wz.heap.size := ⟨_, rfl⟩
                  obtain ⟨w5, hw_⟩ : ∃ w_, wz.alloc (.cells #[.int .i64 op, .int .i64 n, .string (tx sx)] 38) = w_ := ⟨_, rfl⟩
                  have hz_ : w5.heap.size = b20 + 1 := by rw [← hw_, hxb_]; exact alloc_size _ _
                  rw [hw_] at hal_ hb_
                  rw [← hxb_] at hb_
                  have Hw20 := Lib.hid hw_
                  have Hx20 := Lib.hid hxb_
                  have Ha20 := Lib.hid hal_
                  have Hb20 := Lib.hid hb_
                  have Hz20 := Lib.hid hz_
                  clear hal_ hb_ hxb_ hw_ hz_
                  obtain ⟨d0, d1, d2⟩ := var3 Hb20.out
                  have fr20 := row_free Hb20.out
                  have Ho5 := Lib.hid (ownsRow_chg Hoz.out Ha20.out fun _ _ => id)
                  have fr4 := own_free Ho5.out
                  have v0 := Ha20.out.keep t0
                  have v1 := Ha20.out.keep t1
                  have v2 := Ha20.out.keep t2
                  have hne : ¬ b20 = gp := by have := (World.ownsRow.lt Hoz.out gp rfl).2; have := Hx20.out; omega
                  have hne' : ¬ gp = b20 := fun e => hne e.symm
                  have Hst6 := Lib.hid (((Chg.refl (fun k => k = b20) w5).setCell (p := ⟨b20, 1, none⟩) (.inl rfl) (.int .i64 a)))
                  have Hne' := Lib.hid hne'
                  have Hrow := Lib.hid (row_ins (ownsRow_chg Ho5.out Hst6.out fun j hj e => Hne'.out (by cases hj; exact e)) j ⟨op, a, sx⟩)
                  rw [set_mid _ _ _ _ Hpl.out] at Hrow
                  have hbz : wr.heap.size ≤ b20 := by have := Hcq.out.size; have := Hcz.out.size; have := Hx20.out; omega
                  have hB : (Value.slice (some ⟨gp, 0, none⟩) ns cp).ownBlock = some gp := rfl
                  have hz0 := Hcq.out.trans (Chg.mono (T := fun j => (Value.slice (some ⟨gp, 0, none⟩) ns cp).ownBlock = some j) (Hcz.out.trans Ha20.out) fun _ _ h => h.elim)
                  have hz1 := hz0.setCell (p := ⟨b20, 1, none⟩) (.inr hbz) (.int .i64 a)
                  have HwC := Lib.hid (fun x0 x1 x2 => ((hz1.setCell (p := ⟨gp, j * 3, none⟩) (.inl hB) x0).setCell (p := ⟨gp, j * 3 + 1, none⟩) (.inl hB) x1).setCell (p := ⟨gp, j * 3 + 2, none⟩) (.inl hB) x2)
                  clear hbz hB hz0 hz1
                  clear Ho5
                  go_upto_region 40 with fail
                  rw [Hw20.out, ← Hx20.out]
                  go_wp2_with fail
                  go_roundw
                  case rel => exact ⟨j + 1, p ++ [⟨op, a, sx⟩], by omega, by go_num, Hsn.out, by rw [List.length_append, Hpl.out]; rfl, Hrow.out, HwC.out _ _ _⟩
                  case measure => simp [intOf]; omega
        · obtain rfl : j = ns := by omega
          have Hfa := Lib.hid (show fillF s.labs s.list = .ok p by have := Hf.out; rwa [Hns.out, List.take_length] at this)
          have hor : wq.ownsRow w2.heap.size 38 3 (.slice qp p.length cp) p.length (flatI p) := by
            have := Hor.out
            rw [show s.list.drop j = [] by rw [Hns.out]; exact List.drop_length, List.map_nil, List.append_nil] at this
            rw [Hpl.out]; exact this
          have HNq := Lib.hid (HKN.out _ Hcq.out)
          have HCq := Lib.hid (HKC.out _ Hcq.out)
          have hwf : ∀ i (hi : i < p.length), p[i].wf := fun i hi => fill_wf (fun x hx => by have := Hnn.out x hx; omega) Hfa.out Hwf.out _ (List.getElem_mem hi)
          obtain ⟨kb, hins⟩ := InsS.of_row hor hwf
          have HC := Lib.hid (refCheck_any p _ _ kb 0 wq hins)
          rw [Hpl.out] at HC
          have Hend := Lib.hid (show endF s = if (checkF p).2 = 30 then ([], ((s.list.map LineL.no).getD (checkF p).1.toNat 0), 30) else if (checkF p).2 ≠ 0 then ([], 0, (checkF p).2) else (p, 0, 0) by
            unfold endF; rw [Hfa.out])
          have Hsay := checkF_says p
          have H30 := Lib.hid (fun h => check30 (p := p) h)
          have Hor2 := Lib.hid (show ∀ W, Chg NoB wq W → W.ownsRow w2.heap.size 38 3 (.slice qp j cp) p.length (flatI p) from fun W h => by
            have := ownsRow_chg hor h fun _ _ => id
            rw [Hpl.out] at this ⊢; exact this)
          clear hwf hor hins hjl
          generalize checkF p = ck at *
          obtain ⟨at', er⟩ := ck
          simp only at Hsay Hend HC
          go_wp2_with fail
          refine HC.out.mono ?_
          rintro e w3 ⟨rfl, hc3⟩
          have Hc3 := Lib.hid hc3
          have Hc23 := Lib.hid (HCq.out.trans hc3)
          clear hc3 HC
          rcases Hsay with h | h | h
          · subst h
            rw [if_neg (by decide), if_neg (by decide)] at Hend
            go_wp2_with fail
            go_ret3
            exact ⟨Hc2.out.trans Hc23.out, .slice qp j cp, by rw [Hd.out, Hend.out]; rfl, by rw [Hd.out, Hend.out]; exact ownsRow_low Hc2.out.size (Hor2.out _ Hc3.out)⟩
          · subst h
            rw [if_neg (by decide), if_pos (by decide)] at Hend
            go_wp2_with fail
            go_ret3
            exact ⟨Hc2.out.trans Hc23.out, .slice none 0 0, by rw [Hd.out, Hend.out]; rfl, by rw [Hd.out, Hend.out]; exact World.ownsRow_nil _ _ _ _⟩
          · subst h
            rw [if_pos rfl] at Hend
            obtain ⟨i, hi, hil⟩ := H30.out rfl
            replace hi : at' = (i : Int) := hi
            subst hi
            have hin : i < j := by rw [← Hpl.out]; exact hil
            have hik : i < s.list.length := by rw [← Hns.out]; exact hin
            obtain ⟨gn, rfl⟩ := own_q HNq.out (by omega)
            have pn := World.ownsRow.cells (g := gn) HNq.out rfl i (.int .i64 s.list[i].no) (by rw [List.getElem?_map, List.getElem?_eq_getElem hik]; rfl)
            rw [add_zero_off] at pn
            replace pn := Hc3.out.keep pn
            have Hno := Lib.hid (show (s.list.map LineL.no).getD i 0 = s.list[i].no by
              rw [List.getD_eq_getElem?_getD, List.getElem?_map, List.getElem?_eq_getElem hik]; rfl)
            generalize s.list[i].no = no at *
            have l0 : (i : Int) < (j : Int) := by omega
            clear hik hil hin
            go_wp2_with fail
            go_quiet (fail)
            have HcQ := Lib.hid (Hc23.out.drewN nq)
            generalize w3.drewN nq = w6 at *
            go_wp2_with fail
            go_ret3
            exact ⟨Hc2.out.trans HcQ.out, .slice none 0 0, by rw [Hd.out, Hend.out]; simp only [Int.toNat_natCast, Hno.out]; rfl, by rw [Hd.out, Hend.out]; exact World.ownsRow_nil _ _ _ _⟩
set_option maxHeartbeats 4000000 in
set_option maxRecDepth 20000 in
theorem rasm_any (t : List UInt8) (base : Nat) (w : World) (hlb : Lb base w) (hs : t.length ≤ 131072) : Calls Tryd.prog 11 #[.string (tx t)] w (ProgP (asmF t) w) := by
  by_cases h : t.length ≤ 65536
  · exact rasm_main t base w hlb h
  · rw [show asmF t = ([], 0, 3) by unfold asmF; rw [if_pos (by omega)]]
    have hzt : (tx t).size = t.length := tx_size t
    have hl : (65536 : Int) < (t.length : Int) := by omega
    clear hlb
    go_enter Tryd.func11, Tryd.ntmps11
    go_wp2_with fail
    go_ret3
    exact ⟨Chg.refl _ _, .slice none 0 0, rfl, World.ownsRow_nil _ _ _ _⟩
end Go.Proofs.YtaihgciokfkonaaDoor
