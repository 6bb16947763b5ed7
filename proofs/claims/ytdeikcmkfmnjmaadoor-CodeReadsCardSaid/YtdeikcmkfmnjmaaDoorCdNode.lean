/- The contract of node: an instruction's list. Condition: the lists of words and of powers read as the program's text lays them. -/
import Derived.Test.YtdeikcmkfmnjmaaDoorCdFind
import Derived.Test.YtdeikcmkfmnjmaaDoorKbRow
import Derived.Test.YtdeikcmkfmnjmaaDoorSxListN
import Derived.Lib.ItoaLen
namespace Go.Proofs.YtdeikcmkfmnjmaaDoor
set_option linter.unusedVariables false
open Go.ChangeShapes Go.WideShapes Go.ChangeAt Go.RowKit
def atomF (l : List UInt8) : Nd := .mk true (tx l) []
def kidsF (x : InsL) : List Nd := if takesF x.op = 0 then [atomF (wordL x.op)] else if takesF x.op = 2 then [atomF (wordL x.op), atomF x.s] else [atomF (wordL x.op), atomF (Lib.itoa x.n)]
def nodeF (x : InsL) : Nd := .mk false ⟨#[]⟩ (kidsF x)
/- what this layer wants of the variables -/
structure Ev (base : Nat) (w : World) : Prop where
  lw : Lw base w
  wd : Wd base w
theorem Ev.on {base : Nat} {w w' : World} (h : Ev base w) (hb : Below base w w') : Ev base w' := ⟨h.lw.on hb, h.wd.on hb⟩
theorem Ev.chg {S : Nat → Prop} {base : Nat} {w w' : World} (h : Ev base w) (hc : Chg S w w') (hS : ∀ k, S k → base ≤ k) : Ev base w' := ⟨h.lw.chg hc hS, h.wd.chg hc hS⟩
theorem Ev.keep {base : Nat} {w w' : World} (h : Ev base w) (hc : Chg NoB w w') : Ev base w' := h.chg hc fun _ => False.elim
theorem nds_one (w : World) (a : ByteArray) (ha : a.size ≤ maxLen) : NdS (w.alloc (.cells #[.bool true, .string a, .slice none 0 0] 49)) (fun x => x = w.heap.size) (.slice (some ⟨w.heap.size, 0, none⟩) 1 1) [.mk true a []] w.heap.size 0 := by
  have c := fun i => cell_of_row (w.alloc (.cells #[.bool true, .string a, .slice none 0 0] 49)) w.heap.size i _ _ (0, 0) (heap_alloc_new w _)
  refine ⟨⟨_, 1, rfl, Nat.le_refl _, by decide, fun _ => rfl⟩, fun i hi => ?_⟩
  match i, hi with
  | 0, _ => exact NdC.of rfl ha (by rw [c]; rfl) (by rw [c]; rfl) (by rw [c]; rfl) (NdS.nil _ _)
theorem nds_two (w : World) (a b : ByteArray) (ha : a.size ≤ maxLen) (hb : b.size ≤ maxLen) : NdS (w.alloc (.cells #[.bool true, .string a, .slice none 0 0, .bool true, .string b, .slice none 0 0] 49)) (fun x => x = w.heap.size) (.slice (some ⟨w.heap.size, 0, none⟩) 2 2) [.mk true a [], .mk true b []] w.heap.size 0 := by
  have c := fun i => cell_of_row (w.alloc (.cells #[.bool true, .string a, .slice none 0 0, .bool true, .string b, .slice none 0 0] 49)) w.heap.size i _ _ (0, 0) (heap_alloc_new w _)
  refine ⟨⟨_, 2, rfl, Nat.le_refl _, by decide, fun _ => rfl⟩, fun i hi => ?_⟩
  match i, hi with
  | 0, _ => exact NdC.of rfl ha (by rw [c]; rfl) (by rw [c]; rfl) (by rw [c]; rfl) (NdS.nil _ _)
  | 1, _ => exact NdC.of rfl hb (by rw [c]; rfl) (by rw [c]; rfl) (by rw [c]; rfl) (NdS.nil _ _)
def NodeP (x : InsL) (w : World) (e : Ending) (w' : World) : Prop := Chg NoB w w' ∧ ∃ v, e = .returned v ∧ NdV w' (NewB w w') v (nodeF x)
theorem node_fin {x : InsL} {w w9 : World} {vr : Nat} {q : Option Addr} {l c kb ko : Nat} (hc : Chg NoB w w9) (hvr : w.heap.size ≤ vr) (hs : NdS w9 (fun y => vr < y ∧ y < w9.heap.size) (.slice q l c) (kidsF x) kb ko) :
    NodeP x w (.returned (.agg #[.bool false, .string ⟨#[]⟩, .slice q l c])) (((w9.setCell ⟨vr, 0, none⟩ (.bool false)).setCell ⟨vr, 1, none⟩ (.string ⟨#[]⟩)).setCell ⟨vr, 2, none⟩ (.slice q l c)) := by
  have hst := st3 w9 (g := vr) 0 (.bool false) (.string ⟨#[]⟩) (.slice q l c)
  have z := hst.size
  refine ⟨box3_chg (b := vr) hc hvr _ _ _, _, rfl, Nat.zero_le _, _, kb, ko, rfl, (hs.keep hst fun y hy e => ?_).mono fun y hy => ?_⟩
  · have : y = vr := e
    omega
  · exact (⟨by omega, Nat.lt_of_lt_of_le hy.2 z⟩ : w.heap.size ≤ y ∧ y < _)
set_option maxHeartbeats 2000000 in
set_option maxRecDepth 20000 in
theorem cnode_any (x : InsL) (hx : x.wf) (hsb : x.s.length ≤ 131072) (base : Nat) (w : World) (h : Ev base w) : Calls Tryd.prog 28 #[x.val] w (NodeP x w) := by
  obtain ⟨op, n, s⟩ := x
  obtain ⟨⟨ho1, ho2⟩, ⟨hn1, hn2⟩, -⟩ := hx
  have hkf : kidsF ⟨op, n, s⟩ = if takesF op = 0 then [atomF (wordL op)] else if takesF op = 2 then [atomF (wordL op), atomF s] else [atomF (wordL op), atomF (Lib.itoa n)] := rfl
  have Hkf := Lib.hid hkf
  simp only [InsL.val] at *
  have hal1 := (Chg.refl NoB w).alloc (.cells #[.int .i64 op, .int .i64 n, .string (tx s)] 39)
  have hb1 := heap_alloc_new w (.cells #[.int .i64 op, .int .i64 n, .string (tx s)] 39)
  have hs1 := alloc_size w (.cells #[.int .i64 op, .int .i64 n, .string (tx s)] 39)
  obtain ⟨ib, hib⟩ : ∃ ib, ib = w.heap.size := ⟨_, rfl⟩
  rw [← hib] at hb1 hs1
  have Hib := Lib.hid hib
  have Hal1 := Lib.hid hal1
  have H1 := Lib.hid hs1
  have Hb1 := Lib.hid hb1
  have Hev := Lib.hid h
  clear hkf hib hal1 hb1 h hs1
  go_enter Tryd.func28, Tryd.ntmps28
  go_upto_region 1 with fail
  rw [← Hib.out]
  generalize w.alloc (.cells #[.int .i64 op, .int .i64 n, .string (tx s)] 39) = w1 at *
  have hal2 := (Chg.refl NoB w1).alloc (.cells #[.bool false, .string ⟨#[]⟩, .slice none 0 0] 49)
  have hb2 := heap_alloc_new w1 (.cells #[.bool false, .string ⟨#[]⟩, .slice none 0 0] 49)
  have hlt2 := lt_of_block hb2
  rw [H1.out] at hb2 hlt2
  have hi2 := row_kept hal2 Hb1.out id
  obtain ⟨vr, hvr⟩ : ∃ vr, vr = ib + 1 := ⟨_, rfl⟩
  rw [← hvr] at hb2 hlt2 ⊢
  have Hvr := Lib.hid hvr
  have Hc2 := Lib.hid (Hal1.out.trans hal2)
  have Hi2 := Lib.hid hi2
  have Hr2 := Lib.hid hb2
  clear hal2 hb2 hi2 hvr
  generalize w1.alloc (.cells #[.bool false, .string ⟨#[]⟩, .slice none 0 0] 49) = w2 at *
  obtain ⟨i0, i1, i2⟩ := var3 Hi2.out
  have Hword := Lib.hid (word_any op base w2 (Hev.out.keep Hc2.out).wd)
  go_wp2_with fail
  refine Hword.out.mono ?_
  rintro e w3 ⟨rfl, hc3⟩
  have Hatom := Lib.hid (new_any (tx (wordL op)) w3)
  go_wp2_with fail
  refine Hatom.out.mono ?_
  rintro e w4 ⟨rfl, hc4⟩
  have hal5 := (hc3.trans hc4).alloc (.cells #[.bool true, .string (tx (wordL op)), .slice none 0 0] 49)
  have hb5 := heap_alloc_new w4 (.cells #[.bool true, .string (tx (wordL op)), .slice none 0 0] 49)
  obtain ⟨ab, hab⟩ : ∃ ab, ab = w4.heap.size := ⟨_, rfl⟩
  rw [← hab] at hb5
  have hc5 : Chg NoB w2 (w4.alloc (.cells #[.bool true, .string (tx (wordL op)), .slice none 0 0] 49)) := hal5
  have Hc5 := Lib.hid (Hc2.out.trans hc5)
  have Hi5 := Lib.hid (row_kept hc5 Hi2.out id)
  have Hr5 := Lib.hid (row_kept hc5 Hr2.out id)
  have Ha5 := Lib.hid hb5
  have Hab := Lib.hid hab
  have hz5 : vr < ab := by have := (hc3.trans hc4).size; omega
  clear hc3 hc4 hal5 hb5 hc5 hab i0 i1 i2 Hword Hatom
  obtain ⟨i0, i1, i2⟩ := var3 Hi5.out
  have hwl := wordL_len op
  have hta : (tx (wordL op)).size ≤ maxLen := by rw [tx_size]; unfold maxLen; omega
  have Hta := Lib.hid hta
  clear hwl hta
  go_upto_region 2 with fail
  rw [← Hab.out]
  generalize w4.alloc (.cells #[.bool true, .string (tx (wordL op)), .slice none 0 0] 49) = w5 at *
  have Ht := Lib.hid (takes_any op w5)
  go_wp2_with fail
  refine Ht.out.mono ?_
  rintro e w6 ⟨rfl, hc6⟩
  have Hc6 := Lib.hid (Hc5.out.trans hc6)
  have Hi6 := Lib.hid (row_kept hc6 Hi5.out id)
  have Hr6 := Lib.hid (row_kept hc6 Hr5.out id)
  have Ha6 := Lib.hid (row_kept hc6 Ha5.out id)
  clear hc6 i0 i1 i2 Ht
  obtain ⟨i0, i1, i2⟩ := var3 Hi6.out
  obtain ⟨a0, a1, a2⟩ := var3 Ha6.out
  generalize takesF op = t at *
  by_cases h0 : t = 0
  · subst h0
    rw [if_pos rfl] at Hkf
    go_wp2_with fail
    have hn8 := nds_one w6 (tx (wordL op)) Hta.out
    refine (list_new [atomF (wordL op)] (by rw [Nd.counts, Nd.counts]; unfold atomF; rw [Nd.count, Nd.counts]; have := Hta.out; rw [tx_size] at this ⊢; have := wordL_len op; omega) _ _ _ _ _ hn8).mono ?_
    rintro e w9 ⟨hc9, v9, rfl, hv9⟩
    obtain ⟨-, sl9, kb9, ko9, rfl, hs9⟩ := hv9
    simp only [Nd.leaf, Nd.atom, Nd.kids] at *
    obtain ⟨l9, hl9⟩ : ∃ l, l = ([atomF (wordL op)] : List Nd).length := ⟨_, rfl⟩
    obtain ⟨q9, c9, rfl, -, -, -⟩ := hs9.sh
    rw [← hl9] at hs9 ⊢
    have hz8 := alloc_size w6 (.cells #[.bool true, .string (tx (wordL op)), .slice none 0 0] 49)
    have hc89 := ((Chg.refl NoB w6).alloc (.cells #[.bool true, .string (tx (wordL op)), .slice none 0 0] 49)).trans hc9
    have hr9 := row_kept hc89 Hr6.out id
    obtain ⟨d0, d1, d2⟩ := var3 hr9
    have df := row_free hr9
    have hc10 := Hc6.out.trans hc89
    have hvw : w.heap.size ≤ vr := by have := Hib.out; have := Hvr.out; omega
    have hsz := (Hc6.out).size
    have hvl := lt_of_block Hr6.out
    have hs10 : NdS w9 (fun y => vr < y ∧ y < w9.heap.size) (.slice q9 l9 c9) (kidsF ⟨op, n, s⟩) kb9 ko9 := by
      rw [Hkf.out]
      refine hs9.mono fun y hy => ?_
      have h1 := hy.1
      exact ⟨by omega, hy.2⟩
    clear hs9 hl9 hc9 hn8
    go_wp2_with fail
    have hfin := node_fin (x := ⟨op, n, s⟩) (vr := vr) (q := q9) (l := l9) (c := c9) (kb := kb9) (ko := ko9) hc10 hvw hs10
    obtain ⟨e0, e1, e2⟩ := var3 (box3 hr9 (.bool false) (.string ⟨#[]⟩) (.slice q9 l9 c9))
    generalize ((w9.setCell ⟨vr, 0, none⟩ (.bool false)).setCell ⟨vr, 1, none⟩ (.string ⟨#[]⟩)).setCell ⟨vr, 2, none⟩ (.slice q9 l9 c9) = wf at *
    exact bodyPost_ret (v := .agg #[.bool false, .string ⟨#[]⟩, .slice q9 l9 c9]) (by simp [results, Tryd.results28, go_sem, e0, e1, e2]) rfl hfin
  · rw [if_neg h0] at Hkf
    have h0b : (t == 0) = false := by rw [beq_eq_false_iff_ne]; exact h0
    by_cases h2 : t = 2
    · subst h2
      rw [if_pos rfl] at Hkf
      clear h0 h0b
      have ix := i2
      clear i0 i1 i2
      go_upto_region 6 with fail
      have hcount : Nd.counts [atomF (wordL op), atomF s] ≤ 1048576 := by
        simp only [Nd.counts, atomF, Nd.count]
        have h1 : (tx (wordL op)).size ≤ 5 := by rw [tx_size]; exact wordL_len op
        have h2 : (tx s).size ≤ 131072 := by rw [tx_size]; exact hsb
        omega
      have hts : (tx s).size ≤ maxLen := Nat.le_trans (by rw [tx_size]; exact hsb : (tx s).size ≤ 131072) (by decide)
      have Hcount := Lib.hid hcount
      have Hts := Lib.hid hts
      have hne : ¬ ab = vr ∧ ¬ ib = vr := by have := Hvr.out; exact ⟨by omega, by omega⟩
      have Hne := Lib.hid hne
      have Hr := Lib.hid Hr6.out
      have hA := And.intro a0 (And.intro a1 (And.intro a2 ix))
      clear hcount hts hne
      go_region_held3 (fun w' => w'.cell? ⟨ab, 0, none⟩ = some (.bool true) ∧ w'.cell? ⟨ab, 1, none⟩ = some (.string (tx (wordL op))) ∧ w'.cell? ⟨ab, 2, none⟩ = some (.slice none 0 0) ∧ w'.cell? ⟨ib, 2, none⟩ = some (.string (tx s)))
        (first | exact hA | exact hB | exact hC | exact hD | exact hE)
        (first
          | (go_at_call 38; refine (new_any (tx s) w6.drew).mono ?_; rintro e w7 ⟨rfl, hc7'⟩; have hc7 : Chg NoB w6 w7 := ((Chg.refl NoB w6).drew).trans hc7'; have hB := And.intro (hc7.keep a0) (And.intro (hc7.keep a1) (And.intro (hc7.keep a2) (hc7.keep ix))); have hc7r := hc7.alloc (.cells #[.bool true, .string (tx (wordL op)), .slice none 0 0, .bool true, .string (tx s), .slice none 0 0] 49); have hC := And.intro (hc7r.keep a0) (And.intro (hc7r.keep a1) (And.intro (hc7r.keep a2) (hc7r.keep ix))))
          | (go_at_call 30; refine (list_new [atomF (wordL op), atomF s] Hcount.out _ _ _ _ _ (nds_two w7 (tx (wordL op)) (tx s) Hta.out Hts.out)).mono ?_; rintro e w9 ⟨hc9, v9, rfl, hv9⟩; obtain ⟨-, sl9, kb9, ko9, rfl, hs9⟩ := hv9; obtain ⟨q9, c9, e9, -, -, -⟩ := hs9.sh; replace e9 : sl9 = .slice q9 2 c9 := e9; subst e9; simp only [Nd.leaf, Nd.atom, Nd.kids] at *; have hc89 := (hc7.alloc (.cells #[.bool true, .string (tx (wordL op)), .slice none 0 0, .bool true, .string (tx s), .slice none 0 0] 49)).trans hc9; have hr9 := row_kept hc89 Hr.out id; obtain ⟨d0, d1, d2⟩ := var3 hr9; have df := row_free hr9; have hD := And.intro (hc89.keep a0) (And.intro (hc89.keep a1) (And.intro (hc89.keep a2) (hc89.keep ix))); have hst := st3 w9 (g := vr) 0 (.bool false) (.string ⟨#[]⟩) (.slice q9 2 c9); have hE := And.intro (hst.cell hD.1 Hne.out.1) (And.intro (hst.cell hD.2.1 Hne.out.1) (And.intro (hst.cell hD.2.2.1 Hne.out.1) (hst.cell hD.2.2.2 Hne.out.2)))))
      all_goals
        clear hA hB hC hD hE hc7r
        have hc10 := Hc6.out.trans hc89
        have hvw : w.heap.size ≤ vr := by have := Hib.out; have := Hvr.out; omega
        have hz6 := hc7.size
        have hvl := lt_of_block Hr6.out
        have hza := alloc_size w7 (.cells #[.bool true, .string (tx (wordL op)), .slice none 0 0, .bool true, .string (tx s), .slice none 0 0] 49)
        have hs10 : NdS w9 (fun y => vr < y ∧ y < w9.heap.size) (.slice q9 2 c9) (kidsF ⟨op, n, s⟩) kb9 ko9 := by
          rw [Hkf.out]
          refine hs9.mono fun y hy => ?_
          have h1 := hy.1
          exact ⟨by omega, hy.2⟩
        clear hs9 hc9
        go_wp2_with fail
        have hfin := node_fin (x := ⟨op, n, s⟩) (vr := vr) (q := q9) (l := 2) (c := c9) (kb := kb9) (ko := ko9) hc10 hvw hs10
        obtain ⟨e0, e1, e2⟩ := var3 (box3 hr9 (.bool false) (.string ⟨#[]⟩) (.slice q9 2 c9))
        generalize ((w9.setCell ⟨vr, 0, none⟩ (.bool false)).setCell ⟨vr, 1, none⟩ (.string ⟨#[]⟩)).setCell ⟨vr, 2, none⟩ (.slice q9 2 c9) = wf at *
        exact bodyPost_ret (v := .agg #[.bool false, .string ⟨#[]⟩, .slice q9 2 c9]) (by simp [results, Tryd.results28, go_sem, e0, e1, e2]) rfl hfin
    · rw [if_neg h2] at Hkf
      have h2b : (t == 2) = false := by rw [beq_eq_false_iff_ne]; exact h2
      clear h0 h2
      have ix := i1
      clear i0 i1 i2
      go_upto_region 7 with fail
      have hcount : Nd.counts [atomF (wordL op), atomF (Lib.itoa n)] ≤ 1048576 := by
        simp only [Nd.counts, atomF, Nd.count]
        have h1 : (tx (wordL op)).size ≤ 5 := by rw [tx_size]; exact wordL_len op
        have h2 : (tx (Lib.itoa n)).size ≤ 131072 := by rw [tx_size]; exact Nat.le_trans (Lib.itoa_length_le n hn1 hn2) (by decide)
        omega
      have hts : (tx (Lib.itoa n)).size ≤ maxLen := Nat.le_trans (by rw [tx_size]; exact Nat.le_trans (Lib.itoa_length_le n hn1 hn2) (by decide) : (tx (Lib.itoa n)).size ≤ 131072) (by decide)
      have Hcount := Lib.hid hcount
      have Hts := Lib.hid hts
      have hne : ¬ ab = vr ∧ ¬ ib = vr := by have := Hvr.out; exact ⟨by omega, by omega⟩
      have Hne := Lib.hid hne
      have Hr := Lib.hid Hr6.out
      have hA := And.intro a0 (And.intro a1 (And.intro a2 ix))
      clear hcount hts hne
      go_region_held3 (fun w' => w'.cell? ⟨ab, 0, none⟩ = some (.bool true) ∧ w'.cell? ⟨ab, 1, none⟩ = some (.string (tx (wordL op))) ∧ w'.cell? ⟨ab, 2, none⟩ = some (.slice none 0 0) ∧ w'.cell? ⟨ib, 1, none⟩ = some (.int .i64 n))
        (first | exact hA | exact hB | exact hB' | exact hC | exact hD | exact hE)
        (first
          | (go_at_call 39; refine (itoaW_any n hn1 hn2 base w6.drew ((Hev.out.keep Hc6.out).lw.keep ((Chg.refl NoB w6).drew))).mono ?_; rintro e wi ⟨rfl, hci'⟩; have hci : Chg NoB w6 wi := ((Chg.refl NoB w6).drew).trans hci'; have hB := And.intro (hci.keep a0) (And.intro (hci.keep a1) (And.intro (hci.keep a2) (hci.keep ix))))
          | (go_at_call 38; refine (new_any (tx (Lib.itoa n)) wi).mono ?_; rintro e w7 ⟨rfl, hc7'⟩; have hc7 : Chg NoB w6 w7 := hci.trans hc7'; have hB' := And.intro (hc7.keep a0) (And.intro (hc7.keep a1) (And.intro (hc7.keep a2) (hc7.keep ix))); have hc7r := hc7.alloc (.cells #[.bool true, .string (tx (wordL op)), .slice none 0 0, .bool true, .string (tx (Lib.itoa n)), .slice none 0 0] 49); have hC := And.intro (hc7r.keep a0) (And.intro (hc7r.keep a1) (And.intro (hc7r.keep a2) (hc7r.keep ix))))
          | (go_at_call 30; refine (list_new [atomF (wordL op), atomF (Lib.itoa n)] Hcount.out _ _ _ _ _ (nds_two w7 (tx (wordL op)) (tx (Lib.itoa n)) Hta.out Hts.out)).mono ?_; rintro e w9 ⟨hc9, v9, rfl, hv9⟩; obtain ⟨-, sl9, kb9, ko9, rfl, hs9⟩ := hv9; obtain ⟨q9, c9, e9, -, -, -⟩ := hs9.sh; replace e9 : sl9 = .slice q9 2 c9 := e9; subst e9; simp only [Nd.leaf, Nd.atom, Nd.kids] at *; have hc89 := (hc7.alloc (.cells #[.bool true, .string (tx (wordL op)), .slice none 0 0, .bool true, .string (tx (Lib.itoa n)), .slice none 0 0] 49)).trans hc9; have hr9 := row_kept hc89 Hr.out id; obtain ⟨d0, d1, d2⟩ := var3 hr9; have df := row_free hr9; have hD := And.intro (hc89.keep a0) (And.intro (hc89.keep a1) (And.intro (hc89.keep a2) (hc89.keep ix))); have hst := st3 w9 (g := vr) 0 (.bool false) (.string ⟨#[]⟩) (.slice q9 2 c9); have hE := And.intro (hst.cell hD.1 Hne.out.1) (And.intro (hst.cell hD.2.1 Hne.out.1) (And.intro (hst.cell hD.2.2.1 Hne.out.1) (hst.cell hD.2.2.2 Hne.out.2)))))
      all_goals
        clear hA hB hC hD hE hc7r hB' hci
        have hc10 := Hc6.out.trans hc89
        have hvw : w.heap.size ≤ vr := by have := Hib.out; have := Hvr.out; omega
        have hz6 := hc7.size
        have hvl := lt_of_block Hr6.out
        have hza := alloc_size w7 (.cells #[.bool true, .string (tx (wordL op)), .slice none 0 0, .bool true, .string (tx (Lib.itoa n)), .slice none 0 0] 49)
        have hs10 : NdS w9 (fun y => vr < y ∧ y < w9.heap.size) (.slice q9 2 c9) (kidsF ⟨op, n, s⟩) kb9 ko9 := by
          rw [Hkf.out]
          refine hs9.mono fun y hy => ?_
          have h1 := hy.1
          exact ⟨by omega, hy.2⟩
        clear hs9 hc9
        go_wp2_with fail
        have hfin := node_fin (x := ⟨op, n, s⟩) (vr := vr) (q := q9) (l := 2) (c := c9) (kb := kb9) (ko := ko9) hc10 hvw hs10
        obtain ⟨e0, e1, e2⟩ := var3 (box3 hr9 (.bool false) (.string ⟨#[]⟩) (.slice q9 2 c9))
        generalize ((w9.setCell ⟨vr, 0, none⟩ (.bool false)).setCell ⟨vr, 1, none⟩ (.string ⟨#[]⟩)).setCell ⟨vr, 2, none⟩ (.slice q9 2 c9) = wf at *
        exact bodyPost_ret (v := .agg #[.bool false, .string ⟨#[]⟩, .slice q9 2 c9]) (by simp [results, Tryd.results28, go_sem, e0, e1, e2]) rfl hfin
end Go.Proofs.YtdeikcmkfmnjmaaDoor
