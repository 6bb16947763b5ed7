/- Proved: the statement CodeBack holds for every list of instructions. Conditions: the listed package variables read as the program's text lays them (the card ties them); nothing else. -/
import Derived.Test.YtdeikcmkfmnjmaaDoorCdDec
import Derived.Test.YtdeikcmkfmnjmaaDoorCdLb
import Derived.Test.YtdeikcmkfmnjmaaDoorCdSame
import Derived.Test.YtdeikcmkfmnjmaaDoorCdAlive
import Derived.Test.YtdeikcmkfmnjmaaDoorCdStep
import Derived.Laws.AppendOwnNone
namespace Go.Proofs.YtdeikcmkfmnjmaaDoor
open Go.ChangeShapes Go.WideShapes Go.ChangeAt Go.RowKit
set_option linter.unusedVariables false
open Go.ChangeMaps (open_string shut_string)
set_option maxRecDepth 20000 in
theorem open_nil' {H : Type} {enc : TypeId × Value → H} {W : World} {base : Nat} {v : Value} {d : DataW H} {p : List MemPlace} (hv : Value.okWide Tryd.prog W .any base 27 v) (h : DataW.Trod enc Tryd.prog W 0 (fun _ => true) true 27 v d p) : ∀ l c, v = .slice none l c → c = 0 := by
  obtain ⟨a0, len0, cap0, rfl⟩ := okWide_slice Tryd.underlying27 hv
  obtain ⟨fuel, hf⟩ := h
  have hf : DataW.trod enc Tryd.prog W 0 (fun _ => true) true fuel 27 [.slice a0 len0 cap0] = some (d, p) := by simpa [Value.cells] using hf
  intro l c e0
  rcases DataW.trod_slice Tryd.underlying27 hf with ⟨e, _⟩ | ⟨a, len, cap, elems, rest, n, hfn, e, hx, _, hl, hm, hlen, hel, _, _⟩
  · simp only [List.cons.injEq, and_true] at e
    rw [e] at e0
    cases e0
    rfl
  · simp only [List.cons.injEq, and_true] at e
    rw [e] at e0
    cases e0
theorem InsS.newsAll {w : World} {S : Nat → Prop} {ad : Addr} {len c : Nat} {ps : List InsL} {kb ko : Nat} (h : InsS w S (.slice (some ad) len c) ps kb ko) : ∀ j u, (flatI ps)[j]? = some u → w.cell? (ad.add j) = some u := by
  by_cases h0 : ps = []
  · subst h0
    intro j u hj
    simp [flatI] at hj
  · obtain ⟨q, c', e, _, _, h3⟩ := h.sh
    obtain ⟨rfl, _⟩ := h3 h0
    simp only [Value.slice.injEq, Option.some.injEq] at e
    obtain ⟨rfl, _, _⟩ := e
    exact h.news_take ps.length (Nat.le_refl _) |> fun g => by rwa [List.take_length] at g
theorem encF_cases (ps : List InsL) : ((encF ps).2 = 0 ∧ (checkF ps).2 = 0 ∧ ∃ ys, (encF ps).1 = tx ys ∧ decR ys = .ok (progF ps)) ∨ ((encF ps).2 ≠ 0 ∧ (encF ps).1 = ⟨#[]⟩) := by
  unfold encF
  by_cases hc : (checkF ps).2 = 0
  · rw [if_pos hc]
    cases hp : putN (progF ps) 0 [] with
    | error e =>
      right
      obtain ⟨g0, g1⟩ := putN_err _ _ _ _ hp
      exact ⟨by show e ≠ 0; omega, rfl⟩
    | ok ys =>
      left
      exact ⟨rfl, hc, ys, rfl, dec_enc hp⟩
  · rw [if_neg hc]
    exact .inr ⟨hc, rfl⟩
set_option maxHeartbeats 8000000 in
set_option maxRecDepth 20000 in
theorem codeBack_all (ps : List InsL) (v : Value) (kb ko : Nat) (W : World) (hs : InsS W (OldB W) v ps kb ko) (hzc : ∀ l c, v = .slice none l c → c = 0) (hev : Ev W.heap.size W) (hlb : Lb W.heap.size W) :
    Calls Tryd.prog 6 #[v] W fun e w' => e = .returned (.bool true) ∧ Chg NoB W w' := by
  have Hs := Lib.hid hs
  obtain ⟨⟨q, c, rfl, h1, h2, h3⟩, hat'⟩ := hs
  have Hzc : Hid (q = none → c = 0) := Lib.hid fun e => hzc _ _ (by rw [e])
  clear hat' h3 hzc
  obtain ⟨len, hlen⟩ : ∃ len, len = ps.length := ⟨_, rfl⟩
  rw [← hlen] at Hs h1 ⊢
  have Hlen := Lib.hid hlen
  have Hev := Lib.hid hev
  have Hlb' := Lib.hid hlb
  unfold maxLen at h2
  clear hev hlen hlb
  go_enter Tryd.func6, Tryd.ntmps6
  go_wp2_with fail
  refine (alive_any _ W Hev.out).mono ?_
  rintro e w2 ⟨rfl, hc2⟩
  have Hc2 := Lib.hid hc2
  have Hgr := Lib.hid (great_any ps _ _ kb ko w2 (Hs.out.keep hc2 fun _ _ => id))
  clear hc2
  go_wp2_with fail
  by_cases hg : 131072 < sumF ps
  · rw [decide_eq_true hg] at Hgr
    refine Hgr.out.mono ?_
    rintro e w3 ⟨rfl, hc3⟩
    go_wp2_with fail
    go_ret
    exact ⟨rfl, Hc2.out.trans hc3⟩
  · rw [decide_eq_false hg] at Hgr
    have Hlb : Hid (ps.length ≤ 131072) := Lib.hid (by have := sumF_len ps; omega)
    clear hg
    refine Hgr.out.mono ?_
    rintro e w3 ⟨rfl, hc3⟩
    have Hc3 := Lib.hid (Hc2.out.trans hc3)
    have Hs3 := Lib.hid (Hs.out.keep Hc3.out fun _ _ => id)
    clear hc3 Hgr
    obtain ⟨i0, hi, hz0, hz1, hz2⟩ := info_parts insInfo
    have Hi := Lib.hid hi
    have Hz0 := Lib.hid hz0
    have Hz1 := Lib.hid hz1
    have Hz2 := Lib.hid hz2
    have O5 := Lib.hid (own_nil w3 w3.heap.size (Nat.le_refl _))
    have hal5 := (Chg.refl NoB w3).alloc (.cells #[] 39)
    have Hal5 := Lib.hid hal5
    have hb5 : w3.heap.size ≤ (w3.alloc (.cells #[] 39)).heap.size := hal5.size
    have M1 := Lib.hid (show 0 + len ≤ maxLen by unfold maxLen; omega)
    have M2 := Lib.hid (show (0 + len) * 32 ≤ 140737488355328 by have := Hlb.out; have := Hlen.out; omega)
    have hmine : ∀ (v7 : Value) (w7 : World), w7.ownsRow w3.heap.size 39 3 v7 (0 + len) ([] ++ flatI ps) → Chg NoB w3 w7 → Hid (Chg NoB W w7) ∧ ∃ kb7, Hid (InsS w7 (fun k => w3.heap.size ≤ k ∧ k < w7.heap.size) v7 ps kb7 0) := fun v7 w7 ho hc => by
      have ho' : w7.ownsRow w3.heap.size 39 3 v7 ps.length (flatI ps) := by
        have := ho
        rw [Nat.zero_add, List.nil_append, Hlen.out] at this
        exact this
      obtain ⟨kb7, h7⟩ := InsS.of_row ho' fun i hi => (Hs.out.at' i hi).1
      exact ⟨Lib.hid (Hc3.out.trans hc), kb7, Lib.hid h7⟩
    clear hi hz0 hz1 hz2 hal5
    cases q with
    | none =>
      have hc0 : c = 0 := Hzc.out rfl
      subst hc0
      have hl0 : len = 0 := by omega
      subst hl0
      have hps : ps = [] := List.eq_nil_of_length_eq_zero Hlen.out.symm
      have Hps := Lib.hid hps
      clear hps
      go_upto_region 6 with (at_builtin; go_must (refine wpList_append_own_none rfl _ _ 27 rfl w3.heap.size 39 i0 3 Tryd.underlying27 Hi.out _ 0 [] rfl O5.out rfl ?_))
      obtain ⟨v7, hv7⟩ : ∃ v7, v7 = Value.slice (some ⟨w3.heap.size, 0, none⟩) 0 0 := ⟨_, rfl⟩
      have ho7 : (w3.alloc (.cells #[] 39)).ownsRow w3.heap.size 39 3 v7 (0 + 0) ([] ++ flatI ps) := by
        rw [Hps.out, hv7]
        exact O5.out
      have hc57 := Hal5.out
      rw [← hv7]
      clear hv7
      generalize w3.alloc (.cells #[] 39) = w7 at ho7 hc57 ⊢
      obtain ⟨Hc7, kb7, Hs7⟩ := hmine v7 w7 ho7 hc57
      clear ho7 hc57 hmine
      have He := Lib.hid (encode_any ps _ _ kb7 0 W.heap.size w7 (Hev.out.keep Hc7.out) (by have := Hlb.out; omega) Hs7.out)
      have HsP := Lib.hid (Hs.out.keep Hc7.out fun _ _ => id)
      obtain ⟨se, hse⟩ : ∃ s, s = encF ps := ⟨_, rfl⟩
      rw [← hse] at He
      have Hse := Lib.hid hse
      obtain ⟨s1, s2⟩ := se
      simp only at He
      clear hse
      go_wp2_with fail
      refine He.out.mono ?_
      rintro e w8 ⟨hc8, rfl⟩
      have Hc8 := Lib.hid (Hc7.out.trans hc8)
      have Hsm := Lib.hid (same_any ps ps _ _ _ _ kb7 0 kb ko w8 (Hs7.out.keep hc8 fun _ _ => id) (HsP.out.keep hc8 fun _ _ => id) (by have := Hlb.out; omega))
      clear hc8 He
      go_wp2_with fail
      refine Hsm.out.mono ?_
      rintro e w9 ⟨⟨b, rfl, hb⟩, hc9⟩
      obtain rfl : b = true := hb.2 rfl
      have Hc9 := Lib.hid (Hc8.out.trans hc9)
      clear hb hc9 Hsm Hs7 HsP Hc7 Hc8
      by_cases hy : s2 = 0
      · subst hy
        obtain ⟨hck, ys, hys, hdr⟩ : (checkF ps).2 = 0 ∧ ∃ ys, s1 = tx ys ∧ decR ys = .ok (progF ps) := by
          rcases encF_cases ps with ⟨_, h2, h3⟩ | ⟨h1, _⟩
          · rw [← Hse.out] at h3; exact ⟨h2, h3⟩
          · rw [← Hse.out] at h1; exact absurd rfl h1
        subst hys
        have hcd : cdecF ys = .ok ps := cdecF_of hdr hck (fun x hx => by obtain ⟨i, hi, rfl⟩ := List.getElem_of_mem hx; exact (Hs.out.at' i hi).1)
        have hyl : ys.length ≤ 1048576 := by have := (decR_ok hdr).1; omega
        have hl1 : 1 ≤ 0 := by rw [Hlen.out]; exact (check_ok hck).1.1
        omega
      · have hs1 : s1 = ⟨#[]⟩ := by
          rcases encF_cases ps with ⟨h1, _⟩ | ⟨_, h2⟩
          · rw [← Hse.out] at h1; exact absurd h1 hy
          · rw [← Hse.out] at h2; exact h2
        subst hs1
        have hyb : (s2 != 0) = true := by rw [bne_iff_ne]; exact hy
        clear hy Hse
        go_wp2_with fail
        go_ret
        exact ⟨rfl, Hc9.out⟩
    | some ad =>
      have hnews := Hs3.out.newsAll
      have hnews5 : ∀ j u, (flatI ps)[j]? = some u → (w3.alloc (.cells #[] 39)).cell? (ad.add j) = some u := fun j u hj => Hal5.out.keep (hnews j u hj)
      have Hnews := Lib.hid hnews5
      have Hfl : Hid ((flatI ps).length = len * 3) := Lib.hid (by rw [flatI_len, Hlen.out])
      clear hnews hnews5
      go_upto_region 6 with (at_builtin; go_must (refine wpList_append_at _ rfl _ _ 27 rfl w3.heap.size 39 i0 (.agg #[.int .i64 0, .int .i64 0, .string ⟨#[]⟩]) 3 32 Tryd.underlying27 Hi.out Hz0.out Hz1.out Hz2.out rfl (by decide) _ 0 _ rfl O5.out ad len c (flatI ps) rfl Hfl.out Hnews.out (flatI_one _) M1.out M2.out hb5 ?_); intro v7 w7 ho7 hg7 _; have hc57 := grow_chg Hal5.out O5.out hg7; clear hg7)
      obtain ⟨Hc7, kb7, Hs7⟩ := hmine v7 w7 ho7 hc57
      clear ho7 hc57 hmine
      have He := Lib.hid (encode_any ps _ _ kb7 0 W.heap.size w7 (Hev.out.keep Hc7.out) (by have := Hlb.out; omega) Hs7.out)
      have HsP := Lib.hid (Hs.out.keep Hc7.out fun _ _ => id)
      obtain ⟨se, hse⟩ : ∃ s, s = encF ps := ⟨_, rfl⟩
      rw [← hse] at He
      have Hse := Lib.hid hse
      obtain ⟨s1, s2⟩ := se
      simp only at He
      clear hse
      go_wp2_with fail
      refine He.out.mono ?_
      rintro e w8 ⟨hc8, rfl⟩
      have Hc8 := Lib.hid (Hc7.out.trans hc8)
      have Hsm := Lib.hid (same_any ps ps _ _ _ _ kb7 0 kb ko w8 (Hs7.out.keep hc8 fun _ _ => id) (HsP.out.keep hc8 fun _ _ => id) (by have := Hlb.out; omega))
      clear hc8 He
      go_wp2_with fail
      refine Hsm.out.mono ?_
      rintro e w9 ⟨⟨b, rfl, hb⟩, hc9⟩
      obtain rfl : b = true := hb.2 rfl
      have Hc9 := Lib.hid (Hc8.out.trans hc9)
      clear hb hc9 Hsm Hs7 HsP Hc7 Hc8
      by_cases hy : s2 = 0
      · subst hy
        obtain ⟨hck, ys, hys, hdr⟩ : (checkF ps).2 = 0 ∧ ∃ ys, s1 = tx ys ∧ decR ys = .ok (progF ps) := by
          rcases encF_cases ps with ⟨_, h2, h3⟩ | ⟨h1, _⟩
          · rw [← Hse.out] at h3; exact ⟨h2, h3⟩
          · rw [← Hse.out] at h1; exact absurd rfl h1
        subst hys
        have hcd : cdecF ys = .ok ps := cdecF_of hdr hck (fun x hx => by obtain ⟨i, hi, rfl⟩ := List.getElem_of_mem hx; exact (Hs.out.at' i hi).1)
        have hyl : ys.length ≤ 1048576 := by have := (decR_ok hdr).1; omega
        have hl1 : 1 ≤ len := by rw [Hlen.out]; exact (check_ok hck).1.1
        have Hcd := Lib.hid hcd
        have Hyl := Lib.hid hyl
        have hdec := fun (w' : World) (h : Chg NoB W w') => cdec_any ys W.heap.size w' (Hlb'.out.keep h) (Hev.out.wd.keep h) hyl
        rw [hcd] at hdec
        have Hdec := Lib.hid hdec
        unfold CDecP at Hdec
        simp only at Hdec
        clear hcd hyl hdec hck hdr Hse
        go_wp2_with fail
        refine (Hdec.out w9 Hc9.out).mono ?_
        rintro e w10 ⟨hc10, v10, rfl, ho10⟩
        have Hc10 := Lib.hid (Hc9.out.trans hc10)
        have ho10' := ownsRow_low (base' := W.heap.size) Hc9.out.size ho10
        have hwf : ∀ i (hi : i < ps.length), ps[i].wf := fun i hi => (Hs.out.at' i hi).1
        obtain ⟨kb10, hs10⟩ := InsS.of_row ho10 hwf
        have Hsm := Lib.hid (same_any ps ps _ _ _ _ kb10 0 kb ko w10 hs10 (Hs.out.keep Hc10.out fun _ _ => id) (by have := Hlb.out; omega))
        rw [← Hlen.out] at ho10'
        obtain ⟨g, cap, rfl, hcap⟩ : ∃ g cap, v10 = .slice (some ⟨g, 0, none⟩) len cap ∧ len ≤ cap := by
          rcases ho10'.2 with ⟨rfl, h0⟩ | ⟨g, cap, cur, rfl, _, _, h3, _⟩
          · omega
          · exact ⟨g, cap, rfl, h3⟩
        have Ho10 := Lib.hid ho10'
        have Hwf := Lib.hid hwf
        have Hgb := Lib.hid ((World.ownsRow.lt ho10') g rfl).1
        clear hc10 ho10 ho10' hwf hs10
        go_wp2_with fail
        refine Hsm.out.mono ?_
        rintro e w11 ⟨⟨b, rfl, hb⟩, hc11⟩
        obtain rfl : b = true := hb.2 rfl
        have Hc11 := Lib.hid (Hc10.out.trans hc11)
        have Ho11 := Lib.hid (ownsRow_chg Ho10.out hc11 fun _ _ => id)
        clear hb hc11 Hsm Ho10
        go_wp2_with fail
        go_loopw [43] (fun i wr => ∃ k : Nat, k ≤ len ∧ i = .int .i64 k ∧ (∃ xs, wr.ownsRow W.heap.size 39 3 (.slice (some ⟨g, 0, none⟩) len cap) len xs) ∧ Chg NoB W wr) (fun i _ => len - (intOf i).toNat)
        case atStart => exact ⟨0, Nat.zero_le _, rfl, ⟨_, Ho11.out⟩, Hc11.out⟩
        case round =>
          obtain ⟨k, hk, rfl, ⟨xs, hown⟩, hch⟩ := hrel
          have Hch := Lib.hid hch
          have hfz := fun j => World.ownsRow.frozenAt hown j
          have Hown := Lib.hid hown
          by_cases hlt : k < len
          · have c0 : wr.cell? ⟨g, k * 3, none⟩ = xs[k * 3]? := World.ownsRow.cellAt hown (k * 3) (by omega)
            have c1 : wr.cell? ⟨g, k * 3 + 1, none⟩ = xs[k * 3 + 1]? := World.ownsRow.cellAt hown (k * 3 + 1) (by omega)
            have c2 : wr.cell? ⟨g, k * 3 + 2, none⟩ = xs[k * 3 + 2]? := World.ownsRow.cellAt hown (k * 3 + 2) (by omega)
            have hxl : xs.length = len * 3 := hown.1
            rw [List.getElem?_eq_getElem (by omega)] at c0 c1 c2
            generalize xs[k * 3]'(by omega) = y0 at c0
            generalize xs[k * 3 + 1]'(by omega) = y1 at c1
            generalize xs[k * 3 + 2]'(by omega) = y2 at c2
            clear hown hch hxl
            go_wp2_with fail
            have o1 := (World.ownsRow.stored Hown.out (k * 3) (.int .i64 0)).1
            have o2 := (World.ownsRow.stored o1 (k * 3 + 1) (.int .i64 0)).1
            have o3 := (World.ownsRow.stored o2 (k * 3 + 2) (.string ⟨#[]⟩)).1
            have hch3 : Chg NoB W (((wr.setCell ⟨g, k * 3, none⟩ (.int .i64 0)).setCell ⟨g, k * 3 + 1, none⟩ (.int .i64 0)).setCell ⟨g, k * 3 + 2, none⟩ (.string ⟨#[]⟩)) :=
              Chg.setCell (Chg.setCell (Chg.setCell Hch.out (p := ⟨g, k * 3, none⟩) (.inr Hgb.out) _) (p := ⟨g, k * 3 + 1, none⟩) (.inr Hgb.out) _) (p := ⟨g, k * 3 + 2, none⟩) (.inr Hgb.out) _
            have O3 := Lib.hid o3
            have Hch3 := Lib.hid hch3
            clear o1 o2 o3 hch3
            go_roundw
            case rel => exact ⟨k + 1, by omega, by go_num, ⟨_, O3.out⟩, Hch3.out⟩
            case measure => simp [intOf]; omega
          · clear hfz hown hch
            go_wp2_with fail
            refine (Hdec.out wr Hch.out).mono ?_
            rintro e w12 ⟨hc12, v12, rfl, ho12⟩
            have Hc12 := Lib.hid (Hch.out.trans hc12)
            obtain ⟨kb12, hs12⟩ := InsS.of_row ho12 Hwf.out
            have Hsm := Lib.hid (same_any ps ps _ _ _ _ kb12 0 kb ko w12 hs12 (Hs.out.keep Hc12.out fun _ _ => id) (by have := Hlb.out; omega))
            clear hc12 ho12 hs12
            go_wp2_with fail
            refine Hsm.out.mono ?_
            rintro e w13 ⟨⟨b, rfl, hb⟩, hc13⟩
            obtain rfl : b = true := hb.2 rfl
            have Hc13 := Lib.hid (Hc12.out.trans hc13)
            clear hb hc13 Hsm
            go_wp2_with fail
            go_ret
            exact ⟨rfl, Hc13.out⟩
      · have hs1 : s1 = ⟨#[]⟩ := by
          rcases encF_cases ps with ⟨h1, _⟩ | ⟨_, h2⟩
          · rw [← Hse.out] at h1; exact absurd h1 hy
          · rw [← Hse.out] at h2; exact h2
        subst hs1
        have hyb : (s2 != 0) = true := by rw [bne_iff_ne]; exact hy
        clear hy Hse
        go_wp2_with fail
        go_ret
        exact ⟨rfl, Hc9.out⟩
/-FRAME-/
set_option maxRecDepth 100000 in
theorem codeBack_lifted (os : Os) (started : os.Started) (H : Type) (enc : TypeId × Value → H) :
    ReturnsInHanded {} Tryd.checked os 6 .any (fun w args => (Rows.codeBackSpec.pre enc Tryd.prog Tryd.f6 [] false w args ∧ laidMetH Tryd.prog Rows.codeBackRow.laid w) ∧ sizedMet enc Tryd.prog Tryd.f6 (OpenSpec.ofChange Rows.codeBackSpec) false w args)
      (Rows.codeBackSpec.post enc Tryd.prog Tryd.f6 false true false false) := by
  refine returns_both (C := Tryd.checked) (X := fun w _ => laidMetH Tryd.prog Rows.codeBackRow.laid w) (fun _ _ _ hh h => h.of_heap hh) Tryd.own started (by kernel_rfl) Tryd.func6
    (ChangeSpec.witness_shaped (enc := enc) (C := Tryd.checked) (os := os) (X := fun w _ => laidMetH Tryd.prog Rows.codeBackRow.laid w) false (World.laidAll Tryd.prog os Rows.codeBackRow.laid) #[.slice none 0 0] 8 (World.laidAll_os _ _ _)
      (World.shaped_of_ZipB (by kernel_rfl) (by kernel_rfl)) (by kernel_rfl) (by kernel_rfl) (by kernel_rfl)
      (by rw [MakeChecks.laidMetH_plain _ _ _ (by kernel_rfl)]; exact laidMet_laidAll _ (by kernel_rfl) (by kernel_rfl))) ?_
  intro W base args ds gs before hval0 hW _ hsz hL hsh _
  have hval : ∀ (j : Nat) t v, Tryd.f6.params[j]? = some t → args[j]? = some v → Value.okWide Tryd.prog W .any base t v := hval0
  have hW' := hW
  obtain ⟨p, q, hA0, hV, rfl, _, _⟩ := hW
  have hA : DataW.TrodAll enc Tryd.prog W 0 (fun _ => true) true Tryd.f6.params.toList args.toList ds p := hA0
  have hsz1 : (DataW.weightsEach Tryd.prog (Tryd.f6.params.toList ++ Rows.codeBackSpec.plain.varTypes Tryd.prog) (ds ++ gs)).all (· ≤ reachBytes) = true := hsz
  rw [Tryd.params6] at hA hval hsz1
  obtain ⟨v0, d0, rfl, rfl, h0⟩ := trodAll_one hA
  obtain ⟨rfl, rfl⟩ := trodVars_none hV
  obtain ⟨ks0, kb0, ko0, hn0⟩ := open_inss (hval 0 27 v0 rfl rfl) h0 (fun m hm => of_decide_eq_true (List.all_eq_true.1 hsz1 m (DataW.weights_mem_each (j := 0) (t := 27) (d := d0) rfl rfl m hm)))
  simp only [List.append_nil] at hW'
  rw [MakeChecks.laidMetH_plain _ _ _ (by kernel_rfl)] at hL
  have hL' : laidMet Tryd.prog [("math/bits.deBruijn32tab", Rows.laid_math_bits_deBruijn32tab), ("math/bits.deBruijn64tab", Rows.laid_math_bits_deBruijn64tab), ("internal/strconv.uint64pow10", Rows.laid_internal_strconv_uint64pow10), ("strconv.ErrRange", Rows.laid_strconv_ErrRange), ("strconv.ErrSyntax", Rows.laid_strconv_ErrSyntax), ("sapling/code.words", Rows.laid_sapling_code_words)] W := hL
  have hlb : Ev W.heap.size W := ev_of hL' (.tail _ (.tail _ (.head _))) (.tail _ (.tail _ (.tail _ (.tail _ (.tail _ (.head _))))))
  have hlb2 : Lb W.heap.size W := lb_of hL' hsh
  clear hA0 hval0
  refine (codeBack_all ks0 _ kb0 ko0 W hn0 (open_nil' (hval 0 27 v0 rfl rfl) h0) hlb hlb2).mono fun e W' ⟨he, hb⟩ => ?_
  subst he
  exact ⟨_, rfl, _, _, _, [], _, [], hW', trodAll_mk1 (shut_bool Tryd.underlying4 _), (trodAll_cons_mk (inss_stay h0 hb.below) trodAll_mk0), rfl, hb.below.frame _, fun h => by cases h⟩
theorem codeBack_holds : Rows.CodeBackSaid :=
  OpenClaim.holds_of_wide 6 Tryd.f6 rfl rfl rfl rfl rfl rfl rfl ⟨rfl, rfl, rfl, rfl, rfl⟩ rfl rfl rfl rfl rfl (by kernel_rfl) Tryd.func6 (by kernel_rfl)
    (of_decide_eq_true (by kernel_rfl)) (by unfold Func.isWrapper; first | (rw [if_pos (by decide +kernel)]; kernel_rfl) | (rw [if_neg (by decide +kernel)]; exact ⟨rfl, rfl⟩))
    (fun os started H enc _ => codeBack_lifted os started H enc)
theorem codeBack_card : Rows.CodeBackCardSaid :=
  Claim7.holds_tied_plain_at .later [] [.data, .data, .data, .sentinel, .sentinel, .widerDeep] true (true, "166fac47c3a1e9ae55e0ab713b98f5f77e3cfb8c98394ef8a9c8f24cf41118a9") true codeBack_holds (fun _ h => by cases h) (by kernel_rfl) (fun _ h => by cases h) codeBack_row_tie rfl ⟨rfl, rfl⟩ (by kernel_rfl) rfl
    (fun f fn hf hfn => by
      obtain rfl : f = 6 := Option.some.inj ((show Tryd.prog.funcNamed "sapling/saplinglaw08.CodeBack" = some 6 by kernel_rfl).symm.trans hf) |>.symm
      obtain rfl : fn = Tryd.f6 := (Option.some.inj (Tryd.func6.symm.trans hfn)).symm
      exact ⟨by kernel_rfl, fun j t ht => by
        rw [Tryd.params6] at ht
        have hm : t ∈ [27] := by simpa using Array.mem_of_getElem? ht
        have hall : ([27].all fun u => !Tryd.prog.wantsStandIn u) = true := by kernel_rfl
        exact (show Tryd.prog.wantsStandIn t = false by simpa using List.all_eq_true.1 hall t hm)⟩)
    (by kernel_rfl)
#print axioms codeBack_card
end Go.Proofs.YtdeikcmkfmnjmaaDoor

