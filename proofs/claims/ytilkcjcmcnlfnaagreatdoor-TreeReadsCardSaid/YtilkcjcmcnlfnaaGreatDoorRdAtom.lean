/- The contract of the reader's atom. Condition: at most 2^20 bytes; the library's variables. -/
import Derived.Test.YtilkcjcmcnlfnaaGreatDoorNdLib
import Derived.Test.YtilkcjcmcnlfnaaGreatDoorNdCopies
import Derived.Test.YtilkcjcmcnlfnaaGreatDoorApp
namespace Go.Proofs.YtilkcjcmcnlfnaaGreatDoor
set_option linter.unusedVariables false
open Go.ChangeShapes Go.WideShapes Go.ChangeAt Go.RowKit
/- the reader at block b has these bytes before it -/
def Rd (w : World) (b : Nat) (s : List UInt8) : Prop := w.heap[b]? = some (.cells #[.string (tx s)] 93 (0, 0))
def OneB (b : Nat) : Nat → Prop := fun k => k = b
def nodeZ : Value := .agg #[.bool false, .string ⟨#[]⟩, .slice none 0 0]
/- what is new -/
def NewB (w w' : World) : Nat → Prop := fun x => w.heap.size ≤ x ∧ x < w'.heap.size
/- new since lo, and no cell of it frozen -/
def Nw (lo : Nat) (w : World) (x : Nat) : Prop := (lo ≤ x ∧ x < w.heap.size) ∧ ∀ j, w.frozen? ⟨x, j, none⟩ = false
theorem Nw.keep {lo : Nat} {w w' : World} {T : Nat → Prop} {x : Nat} (h : Nw lo w x) (hc : Chg T w w') (hx : ¬ T x) : Nw lo w' x :=
  ⟨⟨h.1.1, Nat.lt_of_lt_of_le h.1.2 hc.size⟩, fun j => (World.frozen?_of_block (w := w) (a := ⟨x, j, none⟩) (hc.block x h.1.2 hx)).trans (h.2 j)⟩
theorem Nw.le {lo N : Nat} {w : World} {x : Nat} (h : Nw N w x) (hl : lo ≤ N) : Nw lo w x := ⟨⟨Nat.le_trans hl h.1.1, h.1.2⟩, h.2⟩
def NewZ (w w' : World) : Nat → Prop := Nw w.heap.size w'
/- what a reading answers -/
def RdP (b : Nat) (r : Except Int (Nd × List UInt8)) (w : World) (e : Ending) (w' : World) : Prop := Chg (OneB b) w w' ∧ match r with
  | .error y => e = .returned (.tuple #[nodeZ, .int .i64 y])
  | .ok (n, rest) => ∃ v, e = .returned (.tuple #[v, .int .i64 0]) ∧ Rd w' b rest ∧ NdV w' (NewZ w w') v n
theorem tx_drop (s : List UInt8) (n : Nat) : (tx s).extract n (tx s).size = tx (s.drop n) := by
  rw [Lib.extract_eq, tx_list, tx_size, List.take_of_length_le (by rw [List.length_drop]; omega)]
  rfl
theorem tx_take (s : List UInt8) (n : Nat) : (tx s).extract 0 n = tx (s.take n) := by
  rw [Lib.extract_eq, tx_list]
  simp [tx]
theorem Rd.cell {w : World} {b : Nat} {s : List UInt8} (h : Rd w b s) : w.cell? ⟨b, 0, none⟩ = some (.string (tx s)) := by rw [cell_of_row _ b 0 _ _ (0, 0) h]; rfl
theorem Rd.free {w : World} {b : Nat} {s : List UInt8} (h : Rd w b s) : w.frozen? ⟨b, 0, none⟩ = false := by unfold Rd at h; simp [World.frozen?, h]
theorem Rd.keep {w w' : World} {b : Nat} {s : List UInt8} (h : Rd w b s) (hc : Chg NoB w w') : Rd w' b s := row_kept hc h id
theorem Rd.set {w : World} {b : Nat} {s : List UInt8} (h : Rd w b s) (r : List UInt8) : Rd (w.setCell ⟨b, 0, none⟩ (.string (tx r))) b r ∧ Chg (OneB b) w (w.setCell ⟨b, 0, none⟩ (.string (tx r))) :=
  ⟨heap_set h _, (Chg.refl (OneB b) w).setCell (p := ⟨b, 0, none⟩) (.inl rfl) _⟩
theorem atomNew (w : World) (a : List UInt8) (ha : a.length ≤ maxLen) (S : Nat → Prop) : NdV w S (.agg #[.bool true, .string (tx a), .slice none 0 0]) (.mk true ⟨a.toArray⟩ []) :=
  ⟨by show (tx a).size ≤ _; rw [tx_size]; exact ha, _, 0, 0, rfl, NdS.nil _ _⟩
/- a result in a box -/
theorem box3 {w : World} {b : Nat} {x0 x1 x2 : Value} {t : TypeId} (h : w.heap[b]? = some (.cells #[x0, x1, x2] t (0, 0))) (u0 u1 u2 : Value) :
    (((w.setCell ⟨b, 0, none⟩ u0).setCell ⟨b, 1, none⟩ u1).setCell ⟨b, 2, none⟩ u2).heap[b]? = some (.cells #[u0, u1, u2] t (0, 0)) :=
  heap_set (heap_set (heap_set h u0) u1) u2
theorem box3_chg {S : Nat → Prop} {a w : World} {b : Nat} (h : Chg S a w) (hb : a.heap.size ≤ b) (u0 u1 u2 : Value) : Chg S a (((w.setCell ⟨b, 0, none⟩ u0).setCell ⟨b, 1, none⟩ u1).setCell ⟨b, 2, none⟩ u2) :=
  ((h.setCell (p := ⟨b, 0, none⟩) (.inr hb) u0).setCell (p := ⟨b, 1, none⟩) (.inr hb) u1).setCell (p := ⟨b, 2, none⟩) (.inr hb) u2
theorem row_free {w : World} {b : Nat} {cs : Array Value} {t : TypeId} (h : w.heap[b]? = some (.cells cs t (0, 0))) : ∀ j, w.frozen? ⟨b, j, none⟩ = false := fun j => by simp [World.frozen?, h]
def atR (s : List UInt8) : Except Int (Nd × List UInt8) := match atomL s with
  | none => .error 5
  | some (a, r) => .ok (.mk true ⟨a.toArray⟩ [], r)
theorem atR_cut {s : List UInt8} (h : cutC 58 s = none) : atR s = .error 5 := by
  unfold atR atomL
  rw [h]
theorem atR_num {s c r : List UInt8} (h : cutC 58 s = some (c, r)) (hn : ∀ n : Nat, numL c = some n → r.length < n) : atR s = .error 5 := by
  unfold atR atomL
  rw [h]
  simp only
  cases hc : numL c with
  | none => rfl
  | some n =>
    simp only
    rw [if_pos (hn n hc)]
theorem atR_ok {s c r : List UInt8} {n : Nat} (h : cutC 58 s = some (c, r)) (hn : numL c = some n) (hl : n ≤ r.length) : atR s = .ok (.mk true ⟨(r.take n).toArray⟩ [], r.drop n) := by
  unfold atR atomL
  rw [h]
  simp only
  rw [hn]
  simp only
  rw [if_neg (by omega)]
theorem cut_len {c : UInt8} {l p r : List UInt8} (h : cutC c l = some (p, r)) : p.length ≤ l.length ∧ r.length ≤ l.length := by
  obtain ⟨rfl, _⟩ := cutC_some.1 h
  simp only [List.length_append, List.length_cons]
  omega
theorem new_any (a : ByteArray) (w : World) : Calls Tryz.prog 59 #[.string a] w fun e w' => e = .returned (.agg #[.bool true, .string a, .slice none 0 0]) ∧ Chg NoB w w' := by
  have hblk := heap_alloc_new w (.cells #[.bool false, .string ⟨#[]⟩, .slice none 0 0] 71)
  have hal := (Chg.refl NoB w).alloc (.cells #[.bool false, .string ⟨#[]⟩, .slice none 0 0] 71)
  obtain ⟨d0, d1, d2⟩ := var3 hblk
  have df := row_free hblk
  have Hblk := Lib.hid hblk
  have Hal := Lib.hid hal
  clear hblk hal
  go_enter Tryz.func59, Tryz.ntmps59
  go_wp2_with fail
  exact bodyPost_ret (v := .agg #[.bool true, .string a, .slice none 0 0]) (by simp [results, Tryz.results59, go_sem]) rfl ⟨rfl, (Chg.refl NoB w).alloc _⟩
set_option maxHeartbeats 1000000 in
set_option maxRecDepth 20000 in
theorem atom_any (b : Nat) (s : List UInt8) (base : Nat) (w : World) (h : Rd w b s) (hb : base ≤ b) (hl : Lb base w) (hs : s.length ≤ 1048576) :
    Calls Tryz.prog 108 #[.pointer (some ⟨b, 0, none⟩)] w (RdP b (atR s) w) := by
  have H := Lib.hid h
  have Hl := Lib.hid hl
  have hal := (Chg.refl NoB w).alloc (.cells #[.bool false, .string ⟨#[]⟩, .slice none 0 0] 71)
  have hblk := heap_alloc_new w (.cells #[.bool false, .string ⟨#[]⟩, .slice none 0 0] 71)
  obtain ⟨vb, hvb⟩ : ∃ vb, vb = w.heap.size := ⟨_, rfl⟩
  rw [← hvb] at hblk
  have Hvb := Lib.hid hvb
  have Hal := Lib.hid hal
  have Hblk := Lib.hid hblk
  have hH1 := h.keep hal
  have hLib := hl.keep hal
  have HH1 := Lib.hid hH1
  have HL1 := Lib.hid hLib
  have hbv : b < vb := by rw [hvb]; exact lt_of_block h
  clear h hl hal hblk hvb hH1 hLib
  go_enter Tryz.func108, Tryz.ntmps108
  go_upto_region 1 with fail
  rw [← Hvb.out]
  generalize w.alloc (.cells #[.bool false, .string ⟨#[]⟩, .slice none 0 0] 71) = w1 at *
  have c1 := HH1.out.cell
  have Hcut := Lib.hid (cutR_any s base w1 HL1.out hs)
  cases hc : cutC 58 s with
  | none =>
    have Hat := Lib.hid (atR_cut hc)
    rw [hc] at Hcut
    clear hc
    go_wp2_with fail
    refine Hcut.out.mono ?_
    rintro e w2 ⟨hc2, rfl⟩
    have Hc2 := Lib.hid hc2
    have hblk2 := row_kept hc2 Hblk.out id
    obtain ⟨d0, d1, d2⟩ := var3 hblk2
    have df := row_free hblk2
    have Hblk2 := Lib.hid hblk2
    clear hc2 hblk2
    go_wp2_with fail
    obtain ⟨e0, e1, e2⟩ := var3 (box3 Hblk2.out (.bool false) (.string ⟨#[]⟩) (.slice none 0 0))
    have hfin := box3_chg (b := vb) ((Hal.out.trans Hc2.out).mono (T := OneB b) fun _ _ x => x.elim) (by rw [Hvb.out]; exact Nat.le_refl _) (.bool false) (.string ⟨#[]⟩) (.slice none 0 0)
    generalize ((w2.setCell ⟨vb, 0, none⟩ (.bool false)).setCell ⟨vb, 1, none⟩ (.string ⟨#[]⟩)).setCell ⟨vb, 2, none⟩ (.slice none 0 0) = wf at *
    refine bodyPost_ret (v := .tuple #[nodeZ, .int .i64 5]) (by simp [results, Tryz.results108, go_sem, e0, e1, e2, nodeZ]) rfl ⟨hfin, ?_⟩
    rw [Hat.out]
  | some cr =>
    obtain ⟨c, r⟩ := cr
    obtain ⟨hcl, hrl⟩ := cut_len hc
    rw [hc] at Hcut
    have hcs : (tx c).size ≤ 281474976710656 := by rw [tx_size]; omega
    have HC := Lib.hid hc
    have Hcs := Lib.hid hcs
    have Hdig : ∀ w2, Lb base w2 → Calls Tryz.prog 124 #[.string (tx c)] w2 (DigP (digP c) w2) := fun w2 h2 => by
      have := digits_any (tx c) base w2 h2 Hcs.out
      rwa [tx_list] at this
    have HDig := Lib.hid Hdig
    have hrs : (tx r).size = r.length := tx_size r
    have hnum := digP_num (l := c) (m := r.length) (by omega)
    have Hnum := Lib.hid hnum
    clear hc hcs Hdig hnum
    go_wp2_with fail
    refine Hcut.out.mono ?_
    rintro e w2 ⟨hc2, rfl⟩
    have Hc2 := Lib.hid hc2
    have hblk2 := row_kept hc2 Hblk.out id
    have Hblk2 := Lib.hid hblk2
    have HL2 := Lib.hid (HL1.out.keep hc2)
    have HH2 := Lib.hid (HH1.out.keep hc2)
    have Hd2 := Lib.hid (HDig.out w2 HL2.out)
    clear hc2 hblk2
    rcases Hnum.out with ⟨n, hdn, hnl, hnn⟩ | ⟨hbad, hd | ⟨n, hdn, hn⟩⟩
    · rw [hdn] at Hd2
      have Hat := Lib.hid (atR_ok HC.out hnn hnl)
      have c2 := HH2.out.cell
      have hx1 : (tx r).extract n r.length = tx (r.drop n) := by have := tx_drop r n; rwa [tx_size] at this
      have hx2 : (tx r).extract 0 n = tx (r.take n) := tx_take r n
      have hn2 : ¬ (n : Int) < 0 := by omega
      have hn3 : ¬ ((r.length : Nat) : Int) < (n : Int) := by omega
      have htl : (r.take n).length ≤ maxLen := by rw [List.length_take]; unfold maxLen; omega
      have Htl := Lib.hid htl
      clear hdn hnn htl
      go_wp2_with fail
      refine Hd2.out.mono ?_
      rintro e w3 ⟨hc3, rfl⟩
      have Hc3 := Lib.hid (Hc2.out.trans hc3)
      have hblk3 := row_kept hc3 Hblk2.out id
      have hrd3 := HH2.out.keep hc3
      have c3 := hrd3.cell
      have f3 := hrd3.free
      have Hblk3 := Lib.hid hblk3
      have Hrd3 := Lib.hid hrd3
      clear hc3 hblk3 hrd3
      go_wp2_with fail
      obtain ⟨s1, s2⟩ := Hrd3.out.set (r.drop n)
      have hblk4 := row_kept s2 Hblk3.out (by show ¬ vb = b; omega)
      generalize w3.setCell ⟨b, 0, none⟩ (.string (tx (r.drop n))) = w4 at *
      have S1 := Lib.hid s1
      have S2 := Lib.hid s2
      have Hblk4 := Lib.hid hblk4
      clear s1 s2 hblk4 c3 f3
      refine (new_any _ _).mono ?_
      rintro e w5 ⟨rfl, hc5⟩
      have Hc5 := Lib.hid hc5
      have hblk5 := row_kept hc5 Hblk4.out id
      obtain ⟨d0, d1, d2⟩ := var3 hblk5
      have df := row_free hblk5
      have Hblk5 := Lib.hid hblk5
      clear hc5 hblk5
      go_wp2_with fail
      obtain ⟨e0, e1, e2⟩ := var3 (box3 Hblk5.out (.bool true) (.string (tx (r.take n))) (.slice none 0 0))
      have hpre : Chg (OneB b) w w5 := ((Hal.out.trans Hc3.out).mono (T := OneB b) fun _ _ x => x.elim).trans (S2.out.trans (Hc5.out.mono fun _ _ x => x.elim))
      have hfin := box3_chg (b := vb) hpre (by rw [Hvb.out]; exact Nat.le_refl _) (.bool true) (.string (tx (r.take n))) (.slice none 0 0)
      have hst := st3 w5 (g := vb) 0 (.bool true) (.string (tx (r.take n))) (.slice none 0 0)
      have hrd := row_kept hst (row_kept Hc5.out S1.out id) (by show ¬ b = vb; omega)
      generalize ((w5.setCell ⟨vb, 0, none⟩ (.bool true)).setCell ⟨vb, 1, none⟩ (.string (tx (r.take n)))).setCell ⟨vb, 2, none⟩ (.slice none 0 0) = wf at *
      refine bodyPost_ret (v := .tuple #[.agg #[.bool true, .string (tx (r.take n)), .slice none 0 0], .int .i64 0]) (by simp [results, Tryz.results108, go_sem, e0, e1, e2]) rfl ⟨hfin, ?_⟩
      rw [Hat.out]
      exact ⟨_, rfl, hrd, atomNew _ _ Htl.out _⟩
    · rw [hd] at Hd2
      have Hat := Lib.hid (atR_num HC.out hbad)
      clear hbad hd
      go_wp2_with fail
      refine Hd2.out.mono ?_
      rintro e w3 ⟨hc3, rfl⟩
      have Hc3 := Lib.hid (Hc2.out.trans hc3)
      have hblk3 := row_kept hc3 Hblk2.out id
      obtain ⟨d0, d1, d2⟩ := var3 hblk3
      have df := row_free hblk3
      have Hblk3 := Lib.hid hblk3
      clear hc3 hblk3
      go_wp2_with fail
      obtain ⟨e0, e1, e2⟩ := var3 (box3 Hblk3.out (.bool false) (.string ⟨#[]⟩) (.slice none 0 0))
      have hfin := box3_chg (b := vb) ((Hal.out.trans Hc3.out).mono (T := OneB b) fun _ _ x => x.elim) (by rw [Hvb.out]; exact Nat.le_refl _) (.bool false) (.string ⟨#[]⟩) (.slice none 0 0)
      generalize ((w3.setCell ⟨vb, 0, none⟩ (.bool false)).setCell ⟨vb, 1, none⟩ (.string ⟨#[]⟩)).setCell ⟨vb, 2, none⟩ (.slice none 0 0) = wf at *
      refine bodyPost_ret (v := .tuple #[nodeZ, .int .i64 5]) (by simp [results, Tryz.results108, go_sem, e0, e1, e2, nodeZ]) rfl ⟨hfin, ?_⟩
      rw [Hat.out]
    · rw [hdn] at Hd2
      have Hat := Lib.hid (atR_num HC.out hbad)
      clear hbad hdn
      rcases hn with hn | hn
      all_goals
        go_wp2_with fail
        refine Hd2.out.mono ?_
        rintro e w3 ⟨hc3, rfl⟩
        have Hc3 := Lib.hid (Hc2.out.trans hc3)
        have hblk3 := row_kept hc3 Hblk2.out id
        obtain ⟨d0, d1, d2⟩ := var3 hblk3
        have df := row_free hblk3
        have Hblk3 := Lib.hid hblk3
        clear hc3 hblk3
        go_wp2_with fail
        obtain ⟨e0, e1, e2⟩ := var3 (box3 Hblk3.out (.bool false) (.string ⟨#[]⟩) (.slice none 0 0))
        have hfin := box3_chg (b := vb) ((Hal.out.trans Hc3.out).mono (T := OneB b) fun _ _ x => x.elim) (by rw [Hvb.out]; exact Nat.le_refl _) (.bool false) (.string ⟨#[]⟩) (.slice none 0 0)
        generalize ((w3.setCell ⟨vb, 0, none⟩ (.bool false)).setCell ⟨vb, 1, none⟩ (.string ⟨#[]⟩)).setCell ⟨vb, 2, none⟩ (.slice none 0 0) = wf at *
        refine bodyPost_ret (v := .tuple #[nodeZ, .int .i64 5]) (by simp [results, Tryz.results108, go_sem, e0, e1, e2, nodeZ]) rfl ⟨hfin, ?_⟩
        rw [Hat.out]
end Go.Proofs.YtilkcjcmcnlfnaaGreatDoor
