/- Labels may have any names: with each l of a program's own labels turned into another letter, the program is the same: true for every input. Conditions: the library's variables and the list of words read as listed, as the card says. -/
import Derived.Test.YtaihgciokfkonaaDoorAmInsL
import Derived.Test.YtaihgciokfkonaaDoorAmFeeds
import Derived.Test.YtaihgciokfkonaaDoorAmRow
import Derived.Test.YtaihgciokfkonaaDoorCards
import Derived.Test.YtaihgciokfkonaaDoorTie

namespace Go.Proofs.YtaihgciokfkonaaDoor
set_option linter.unusedVariables false
open Go.ChangeShapes Go.WideShapes Go.ChangeAt Go.RowKit
theorem set0 (c : UInt8) {t : List UInt8} (h : 0 < t.length) : t.set 0 c = c :: t.drop 1 := by
  cases t with
  | nil => simp at h
  | cons x r => rfl
theorem set5' (c : UInt8) {t : List UInt8} (h : 5 < t.length) : t.set 5 c = t.take 5 ++ c :: t.drop 6 := by
  rw [List.set_eq_take_append_cons_drop, if_pos h]
theorem joinN_snoc (l : List (List UInt8)) (t : List UInt8) : joinN (l ++ [t]) = joinN l ++ t ++ [10] := by
  rw [joinN_app]; simp [joinN]
theorem take5 (t : List UInt8) : (tx t).extract 0 5 = tx (t.take 5) := by
  rw [cutAB, List.drop_zero]
/- rows that are no bytes stand -/
def Kp5 (A B : World) : Prop := ∀ (k : Nat) (cs : Array Value) (t : TypeId), t ≠ 5 → A.heap[k]? = some (.cells cs t (0, 0)) → B.heap[k]? = some (.cells cs t (0, 0))
theorem Kp5.refl (A : World) : Kp5 A A := fun _ _ _ _ h => h
theorem Kp5.trans {A B C : World} (h : Kp5 A B) (g : Kp5 B C) : Kp5 A C := fun k cs t h1 hk => g k cs t h1 (h k cs t h1 hk)
theorem Kp5.of {A B : World} (h : Chg NoB A B) : Kp5 A B := fun k cs t _ hk => row_kept h hk id
theorem Kp5.own {A B : World} {base n : Nat} {v : Value} {l : List Value} (h : A.ownsRow base 5 1 v n l) (hc : Chg (fun j => v.ownBlock = some j) A B) : Kp5 A B := fun k cs t ht hk => row_kept hc hk fun e => by
  rcases h.2 with ⟨e3, -⟩ | ⟨g', cap', cur, e3, hb, hh, -⟩
  · rw [e3] at e; cases e
  · rw [e3] at e; cases e
    rw [hh] at hk
    simp only [Option.some.injEq, Obj.cells.injEq] at hk
    exact ht hk.2.1.symm
theorem Kp5.row {A B : World} (hk : Kp5 A B) (hs : A.heap.size ≤ B.heap.size) {base size n : Nat} {t : TypeId} {v : Value} {xs : List Value} (ht : t ≠ 5) (h : A.ownsRow base t size v n xs) : B.ownsRow base t size v n xs := by
  refine ⟨h.1, ?_⟩
  rcases h.2 with e | ⟨g, cap, cur, e, hb, hh, hr⟩
  · exact .inl e
  · exact .inr ⟨g, cap, cur, e, hb, hk g cur t ht hh, hr⟩
/- the bytes are turned; they go behind what is there -/
/- the second letter: with the world {W1} whose bytes are {the line after its first turn} -/
theorem turn1_len (c : UInt8) (t : List UInt8) : (turn1 c t).length = t.length := by
  unfold turn1
  split
  · rename_i h; simp; omega
  · rfl
theorem turn_len (c : UInt8) (t : List UInt8) : (turnF c t).length = t.length := by
  have h1 : (turn1 c t).length = t.length := by
    unfold turn1
    split
    · rename_i h; simp; omega
    · rfl
  unfold turnF turn2
  split
  · rename_i h
    rw [List.length_append, List.length_take, List.length_cons, List.length_drop, h1]; omega
  · exact h1
theorem join_turn (c : UInt8) (l : List (List UInt8)) : (joinN (l.map (turnF c))).length = (joinN l).length := by
  induction l with
  | nil => rfl
  | cons x r ih =>
    have e : ∀ (y : List UInt8) (r : List (List UInt8)), joinN (y :: r) = y ++ [10] ++ joinN r := fun y r => by simp [joinN]
    rw [List.map_cons, e, e, List.length_append, List.length_append, List.length_append, List.length_append, ih, turn_len]
theorem pcs_total : ∀ (n : Nat) (l : List UInt8), l.length = n → (joinN (Pth.pcs 10 l)).length = n + 1 := by
  intro n
  induction n with
  | zero =>
    intro l h
    have : l = [] := List.eq_nil_of_length_eq_zero h
    subst this
    rfl
  | succ n ih =>
    intro l h
    rcases List.eq_nil_or_concat l with rfl | ⟨ini, b, rfl⟩
    · simp at h
    · rw [List.concat_eq_append] at h ⊢
      have h1 := ih ini (by simpa using h)
      obtain ⟨pre, q, hq⟩ := Pth.pcs_ne 10 ini
      rw [Pth.pcs_snoc, hq, Pth.pstep_tail]
      rw [hq, joinN_snoc] at h1
      simp only [List.length_append, List.length_singleton] at h1
      split
      · rw [joinN_snoc, joinN_snoc]; simp; omega
      · rw [joinN_snoc]; simp; omega
theorem join_take (l : List (List UInt8)) (k : Nat) : (joinN (l.take k)).length ≤ (joinN l).length := by
  conv => rhs; rw [← List.take_append_drop k l, joinN_app, List.length_append]
  omega
set_option maxHeartbeats 8000000 in
set_option maxRecDepth 20000 in
theorem asmNames_all (ps : List InsL) (va : Value) (ka oa : Nat) (letter : Int) (W : World) (hp : InsS W (OldB W) va ps ka oa) (hle : (Lit.int .i64 letter).wf = true) (hlb : Lb W.heap.size W) (hwd : Wd W.heap.size W) (hml : 3 < W.heap.size) : Calls Tryd.prog 6 #[va, .int .i64 letter] W (SayB true W) := by
  have Hav := Lib.hid (show Av W.heap.size W from ⟨hlb, hwd⟩)
  have HAL := Lib.hid (alive_any W.heap.size W Hav.out hml)
  have Hml := Lib.hid hml
  have HGp := Lib.hid (fun w (h : Chg NoB W w) => great_any ps (OldB W) va ka oa w (hp.keep h fun _ _ => id))
  have Hp := Lib.hid hp
  obtain ⟨⟨qa, ca, rfl, a1, a2, a3⟩, pat⟩ := hp
  obtain ⟨la, hla⟩ : ∃ n, n = ps.length := ⟨_, rfl⟩
  have Hat := Lib.hid pat
  have Hla := Lib.hid hla
  rw [← hla] at a1 HGp ⊢
  clear pat a3 hlb hwd hml hla hle
  go_enter Tryd.func6, Tryd.ntmps6
  go_wp2_with fail
  refine HAL.out.mono ?_
  rintro e w2 ⟨rfl, hc2⟩
  have Hc2 := Lib.hid hc2
  clear hc2 HAL
  go_wp2_with fail
  refine (HGp.out _ Hc2.out).mono ?_
  rintro e w3 ⟨rfl, hc3⟩
  have Hc3 := Lib.hid (Hc2.out.trans hc3)
  clear hc3 HGp
  by_cases g1 : 131072 < sumF ps
  · rw [decide_eq_true g1]
    clear g1
    go_wp2_with fail
    go_ret
    exact ⟨rfl, Hc3.out⟩
  · have hlen : la ≤ 131072 := by rw [Hla.out]; have := sumF_len ps; omega
    rw [decide_eq_false g1]
    clear g1
    by_cases l1 : letter < 0
    · go_wp2_with fail
      go_ret
      exact ⟨rfl, Hc3.out⟩
    · by_cases l2 : (25 : Int) < letter
      · go_wp2_with fail
        go_ret
        exact ⟨rfl, Hc3.out⟩
      · have hp' := Hp.out.keep (w' := w3) Hc3.out (fun _ _ => id)
        rw [← Hla.out] at hp'
        have HD1 := Lib.hid (dis_any ps (OldB W) _ ka oa W.heap.size w3 (Hav.out.keep Hc3.out) (fun i h => Nat.lt_of_lt_of_le h Hc3.out.size) (by rw [← Hla.out]; omega) hp')
        have hwf : ∀ x ∈ ps, x.wf := fun x hx => by obtain ⟨i, hi, rfl⟩ := List.getElem_of_mem hx; exact (Hat.out i hi).1
        obtain ⟨cc, hcc⟩ : ∃ cc : UInt8, (cc.toNat : Int) = 97 + letter := ⟨UInt8.ofNat (97 + letter.toNat), by rw [UInt8.toNat_ofNat']; omega⟩
        have hlet : letR cc := ⟨by omega, by omega⟩
        have HT := Lib.hid (fun h1 h3 => asm_turn hlet (p := ps) h1 hwf h3)
        have hde := dis_err ps
        have hdl := dis_len hwf
        rw [← hde] at HT
        have q0 : IntKind.u8.wrap (97 + letter) = (cc.toNat : Int) := by rw [IntKind.wrap_u8', hcc]; omega
        have q1 : IntKind.i64.wrap (97 + letter) = 97 + letter := by rw [IntKind.wrap_i64]; omega
        clear hp' hwf hde hcc
        go_wp2_with fail
        refine HD1.out.mono ?_
        rintro e w4 ⟨rfl, hc4⟩
        have Hc4 := Lib.hid (Hc3.out.trans hc4)
        clear hc4 HD1
        generalize disF ps = r1 at *
        obtain ⟨D, er⟩ := r1
        simp only at hdl HT
        by_cases h1 : er = 0
        · have h1b : (er != 0) = false := by simp [h1]
          replace HT := Lib.hid (fun h3 => HT.out h1 h3)
          have hzD : (tx D).size = D.length := tx_size D
          by_cases h3 : (65536 : Int) < (D.length : Int)
          · clear h1
            go_wp2_with fail
            go_ret
            exact ⟨rfl, Hc4.out⟩
          · have HL := Lib.hid (fun w => feeds_any D w (by omega))
            obtain ⟨w5, hw5⟩ : ∃ X, w4.alloc (.cells #[] 5) = X := ⟨_, rfl⟩
            obtain ⟨b5, hx5⟩ : ∃ b, b = w4.heap.size := ⟨_, rfl⟩
            have Hw5 := Lib.hid hw5
            have Hx5 := Lib.hid hx5
            have Ha5 := Lib.hid (show Chg NoB w4 w5 by rw [← hw5]; exact (Chg.refl NoB w4).alloc _)
            have Ho5 := Lib.hid (show w5.ownsRow b5 5 1 (.slice (some ⟨b5, 0, none⟩) 0 0) 0 (bytesV []) by
              rw [← hw5, hx5]; exact own_new (heap_alloc_new w4 _))
            clear h1 hw5 hx5
            go_upto_region 10 with fail
            rw [Hw5.out, ← Hx5.out]
            go_wp2_with fail
            refine (HL.out _).mono ?_
            rintro e w6 ⟨hc6, vL, rfl, hrowL⟩
            obtain ⟨qL, cL, rfl, -, -⟩ := row_shape hrowL
            obtain ⟨L, hL⟩ : ∃ n, n = (Pth.pcs 10 D).length := ⟨_, rfl⟩
            have hLb : L ≤ 65537 := by rw [hL]; have := Pth.pcs_len 10 D; omega
            rw [← hL] at hrowL ⊢
            have HL2 := Lib.hid hL
            have HrowL := Lib.hid hrowL
            have Hc6 := Lib.hid ((Hc4.out.trans Ha5.out).trans hc6)
            have Ho6 := Lib.hid (ownsRow_chg Ho5.out hc6 fun _ _ => id)
            have hcellL := fun g (hg : qL = some ⟨g, 0, none⟩) => World.ownsRow.cells (g := g) hrowL (by rw [hg]; rfl)
            have hqL : L ≠ 0 → ∃ g, qL = some ⟨g, 0, none⟩ := by
              intro h0
              rcases hrowL.2 with ⟨e, -⟩ | ⟨g, cap, cur, e, -⟩
              · cases e; exact absurd rfl h0
              · cases e; exact ⟨g, rfl⟩
            have HcellL := Lib.hid hcellL
            have HqL := Lib.hid hqL
            have Hsm := Lib.hid (fun t (ht : t ∈ Pth.pcs 10 D) => show t.length ≤ 65536 from Nat.le_trans (Pth.pcs_small 10 D t ht) (by omega))
            have Hb0 := Lib.hid (show b5 ≤ w6.heap.size by have := Hx5.out; have := Ha5.out.size; have := hc6.size; omega)
            clear hrowL hc6 hcellL hqL hL
            go_wp2_with fail
            go_loopw [8, 46] (fun o iv wr => ∃ k : Nat, k ≤ L ∧ iv = .int .i64 k ∧ Own wr b5 o (joinN (((Pth.pcs 10 D).take k).map (turnF cc))) ∧ Chg (fun j => b5 ≤ j) w6 wr ∧ Kp5 w6 wr) (fun _ iv _ => L - (intOf iv).toNat)
            case atStart => exact ⟨0, Nat.zero_le _, rfl, Ho6.out, Chg.refl _ _, Kp5.refl _⟩
            case round =>
              obtain ⟨k, hk, rfl, ho, hch, hkp⟩ := hrel
              obtain ⟨q, cp, rfl, -, -, -⟩ := ho.shape
              obtain ⟨n, hn⟩ : ∃ n, n = (joinN (((Pth.pcs 10 D).take k).map (turnF cc))).length := ⟨_, rfl⟩
              have hnb : n ≤ D.length + 1 := by
                rw [hn, join_turn]
                have := join_take (Pth.pcs 10 D) k
                rw [pcs_total _ D rfl] at this
                exact this
              unfold Own at ho
              rw [← hn] at ho ⊢
              have Hn := Lib.hid hn
              have Ho := Lib.hid ho
              have Hch := Lib.hid hch
              have Hkp := Lib.hid hkp
              clear ho hch hkp hn
              by_cases hlt : k < L
              · have hkl : k < (Pth.pcs 10 D).length := by rw [← HL2.out]; exact hlt
                obtain ⟨gL, rfl⟩ := HqL.out (by omega)
                have hc0 := HcellL.out gL rfl k (.string (tx (Pth.pcs 10 D)[k])) (txV_at hkl)
                rw [add_zero_off] at hc0
                have htl := Hsm.out _ (List.getElem_mem hkl)
                have Htake := Lib.hid (take_at hkl)
                have hc0 : wr.cell? ⟨gL, k, none⟩ = some (.string (tx (Pth.pcs 10 D)[k])) := by
                  have hr := Kp5.row Hkp.out Hch.out.size (by decide) HrowL.out
                  have := World.ownsRow.cells (g := gL) hr rfl k _ (txV_at hkl)
                  rwa [add_zero_off] at this
                generalize (Pth.pcs 10 D)[k] = t at *
                obtain ⟨wB, cB, hrun, hcB, hB⟩ := bytes_new t wr
                obtain ⟨g, hg⟩ : ∃ g, g = wr.heap.size := ⟨_, rfl⟩
                rw [← hg] at hrun hB
                have Hg := Lib.hid hg
                have HcB := Lib.hid hcB
                have HB := Lib.hid hB
                clear hcB hB hg
                have hzt : (tx t).size = t.length := tx_size t
                by_cases n2 : 2 < t.length
                · have n2' : (2 : Int) < (t.length : Int) := by omega
                  have q2 : IntKind.i64.wrap ((t.length : Int) - 1) = ((t.length - 1 : Nat) : Int) := by rw [IntKind.wrap_i64]; omega
                  have cellL := HB.out.cell (t.length - 1) (by omega)
                  have cell0 := HB.out.cell 0 (by omega)
                  have free0 := HB.out.free 0 (by omega)
                  have hlast : t.getLast? = some (t[t.length - 1]'(by omega)) := by rw [List.getLast?_eq_getElem?, List.getElem?_eq_getElem (by omega)]
                  obtain ⟨x, hx⟩ : ∃ x, x = t[t.length - 1]'(by omega) := ⟨_, rfl⟩
                  rw [← hx] at cellL hlast
                  by_cases e1 : (x.toNat : Int) = 58
                  · have ex : x = 58 := UInt8.toNat_inj.1 (by show x.toNat = 58; omega)
                    have Ht1 : turn1 cc t = t.set 0 cc := by unfold turn1; rw [if_pos ⟨n2, by rw [hlast, ex]⟩, set0 cc (by omega)]
                    have HB1 := Lib.hid (show BRow (wB.setCell ⟨g, 0, none⟩ (.int .u8 (cc.toNat : Int))) g (turn1 cc t) by rw [Ht1]; exact HB.out.set 0 (by omega) cc)
                    have HC1 := Lib.hid (HcB.out.above ((Chg.refl (fun k => k = g) wB).setCell (p := ⟨g, 0, none⟩) (.inl rfl) (.int .u8 (cc.toNat : Int))) fun k e => by have := Hg.out; omega)
                    clear hlast hx Ht1 ex
                    have ht5 := Lib.hid (show (turn1 cc t).length = t.length from turn1_len cc t)
                    by_cases n5 : 5 < t.length
                    · have n5' : (5 : Int) < (t.length : Int) := by omega
                      have qtk : (tx t).extract 0 5 = tx (t.take 5) := take5 t
                      have cell5 := HB1.out.cell 5 (by rw [ht5.out]; exact n5)
                      have free5 := HB1.out.free 5 (by rw [ht5.out]; exact n5)
                      have HB2 := Lib.hid (HB1.out.set 5 (by rw [ht5.out]; exact n5) cc)
                      have HC2 := Lib.hid (HC1.out.above ((Chg.refl (fun k => k = g) (wB.setCell ⟨g, 0, none⟩ (.int .u8 (cc.toNat : Int)))).setCell (p := ⟨g, 5, none⟩) (.inl rfl) (.int .u8 (cc.toNat : Int))) fun k e => by have := Hg.out; omega)
                      have hs5 := set5' cc (t := turn1 cc t) (by rw [ht5.out]; exact n5)
                      by_cases ea : t.take 5 = [106, 117, 109, 112, 32]
                      · have Hturn := Lib.hid (show turnF cc t = (turn1 cc t).set 5 cc by rw [hs5]; unfold turnF turn2; rw [if_pos ⟨n5, .inl ea⟩])
                        have f1 : ((tx (t.take 5)).toList == [106, 117, 109, 112, 32]) = true := by rw [txQ, ea]; rfl
                        have HcN := Lib.hid (show Chg NoB wr (((wB.setCell ⟨g, 0, none⟩ (.int .u8 (cc.toNat : Int)))).setCell ⟨g, 5, none⟩ (.int .u8 (cc.toNat : Int))) from HC2.out)
                        clear hs5 ea
                        have HBf := Lib.hid (show BRow (((wB.setCell ⟨g, 0, none⟩ (.int .u8 (cc.toNat : Int)))).setCell ⟨g, 5, none⟩ (.int .u8 (cc.toNat : Int))) g (turnF cc t) from by rw [Hturn.out]; exact HB2.out)
                        have HoN := Lib.hid (ownsRow_chg Ho.out HcN.out fun k e x => x.elim)
                        have Hm := Lib.hid (show t.length = (turnF cc t).length from (turn_len cc t).symm)
                        have HbN := Lib.hid (show b5 ≤ (((wB.setCell ⟨g, 0, none⟩ (.int .u8 (cc.toNat : Int)))).setCell ⟨g, 5, none⟩ (.int .u8 (cc.toNat : Int))).heap.size from Nat.le_trans Hb0.out (Nat.le_trans Hch.out.size HcN.out.size))
                        go_wp2_with (at_builtin; first
                          | (go_loud (refine wpList_brow (l := joinN (((Pth.pcs 10 D).take k).map (turnF cc))) (ys := turnF cc t) (g := g) (v := .slice q n cp) rfl _ _ rfl rfl Hm.out rfl Hn.out HoN.out HBf.out (by omega) HbN.out ?_); intro v5 w7 h7 hc7; obtain ⟨q5, cp5, rfl, -, -, -⟩ := h7.shape; have hl7 : (joinN (((Pth.pcs 10 D).take k).map (turnF cc)) ++ turnF cc t).length = n + t.length := (by rw [List.length_append, ← Hn.out, ← Hm.out]); have h7' := h7; unfold Own at h7'; rw [hl7] at h7' ⊢)
                          | (go_loud (refine wpList_lit (m := 1) (w := w7.alloc (.cells #[.int .u8 10] 5)) (l := joinN (((Pth.pcs 10 D).take k).map (turnF cc)) ++ turnF cc t) (ys := [10]) (b := w7.heap.size) (v := .slice q5 (n + t.length) cp5) rfl _ _ rfl rfl rfl rfl hl7.symm (ownsRow_chg h7' ((Chg.refl NoB w7).alloc _) fun _ _ => id) (heap_alloc_new w7 _) (by omega) (Nat.le_trans HbN.out (Nat.le_trans hc7.size ((Chg.refl NoB w7).alloc _).size)) ?_); intro v6 w8 h8 hc8))
                        have Htk := Lib.hid (show joinN (((Pth.pcs 10 D).take (k + 1)).map (turnF cc)) = joinN (((Pth.pcs 10 D).take k).map (turnF cc)) ++ turnF cc t ++ [10] by rw [Htake.out, List.map_append, List.map_singleton, joinN_snoc])
                        go_roundw
                        case rel =>
                          have hal : Chg NoB w7 (w7.alloc (.cells #[.int .u8 10] 5)) := (Chg.refl NoB w7).alloc _
                          refine ⟨k + 1, by omega, by go_num, by rw [Htk.out]; exact h8, ?_, ?_⟩
                          · exact (((Hch.out.trans (HcN.out.mono fun _ _ h => h.elim)).trans (hc7.mono fun j _ e => (World.ownsRow.lt HoN.out j e).1)).trans (hal.mono fun _ _ h => h.elim)).trans (hc8.mono fun j _ e => (World.ownsRow.lt h7' j e).1)
                          · exact (((Hkp.out.trans (Kp5.of HcN.out)).trans (Kp5.own HoN.out hc7)).trans (Kp5.of hal)).trans (Kp5.own (ownsRow_chg h7' hal fun _ _ => id) hc8)
                        case measure => simp [intOf]; omega
                      · have f1 : ((tx (t.take 5)).toList == [106, 117, 109, 112, 32]) = false := by rw [txQ]; simpa using ea
                        by_cases eb : t.take 5 = [122, 101, 114, 111, 32]
                        · have Hturn := Lib.hid (show turnF cc t = (turn1 cc t).set 5 cc by rw [hs5]; unfold turnF turn2; rw [if_pos ⟨n5, .inr (.inl eb)⟩])
                          have f2 : ((tx (t.take 5)).toList == [122, 101, 114, 111, 32]) = true := by rw [txQ, eb]; rfl
                          have HcN := Lib.hid (show Chg NoB wr (((wB.setCell ⟨g, 0, none⟩ (.int .u8 (cc.toNat : Int)))).setCell ⟨g, 5, none⟩ (.int .u8 (cc.toNat : Int))) from HC2.out)
                          clear hs5 ea eb
                          have HBf := Lib.hid (show BRow (((wB.setCell ⟨g, 0, none⟩ (.int .u8 (cc.toNat : Int)))).setCell ⟨g, 5, none⟩ (.int .u8 (cc.toNat : Int))) g (turnF cc t) from by rw [Hturn.out]; exact HB2.out)
                          have HoN := Lib.hid (ownsRow_chg Ho.out HcN.out fun k e x => x.elim)
                          have Hm := Lib.hid (show t.length = (turnF cc t).length from (turn_len cc t).symm)
                          have HbN := Lib.hid (show b5 ≤ (((wB.setCell ⟨g, 0, none⟩ (.int .u8 (cc.toNat : Int)))).setCell ⟨g, 5, none⟩ (.int .u8 (cc.toNat : Int))).heap.size from Nat.le_trans Hb0.out (Nat.le_trans Hch.out.size HcN.out.size))
                          go_wp2_with (at_builtin; first
                            | (go_loud (refine wpList_brow (l := joinN (((Pth.pcs 10 D).take k).map (turnF cc))) (ys := turnF cc t) (g := g) (v := .slice q n cp) rfl _ _ rfl rfl Hm.out rfl Hn.out HoN.out HBf.out (by omega) HbN.out ?_); intro v5 w7 h7 hc7; obtain ⟨q5, cp5, rfl, -, -, -⟩ := h7.shape; have hl7 : (joinN (((Pth.pcs 10 D).take k).map (turnF cc)) ++ turnF cc t).length = n + t.length := (by rw [List.length_append, ← Hn.out, ← Hm.out]); have h7' := h7; unfold Own at h7'; rw [hl7] at h7' ⊢)
                            | (go_loud (refine wpList_lit (m := 1) (w := w7.alloc (.cells #[.int .u8 10] 5)) (l := joinN (((Pth.pcs 10 D).take k).map (turnF cc)) ++ turnF cc t) (ys := [10]) (b := w7.heap.size) (v := .slice q5 (n + t.length) cp5) rfl _ _ rfl rfl rfl rfl hl7.symm (ownsRow_chg h7' ((Chg.refl NoB w7).alloc _) fun _ _ => id) (heap_alloc_new w7 _) (by omega) (Nat.le_trans HbN.out (Nat.le_trans hc7.size ((Chg.refl NoB w7).alloc _).size)) ?_); intro v6 w8 h8 hc8))
                          have Htk := Lib.hid (show joinN (((Pth.pcs 10 D).take (k + 1)).map (turnF cc)) = joinN (((Pth.pcs 10 D).take k).map (turnF cc)) ++ turnF cc t ++ [10] by rw [Htake.out, List.map_append, List.map_singleton, joinN_snoc])
                          go_roundw
                          case rel =>
                            have hal : Chg NoB w7 (w7.alloc (.cells #[.int .u8 10] 5)) := (Chg.refl NoB w7).alloc _
                            refine ⟨k + 1, by omega, by go_num, by rw [Htk.out]; exact h8, ?_, ?_⟩
                            · exact (((Hch.out.trans (HcN.out.mono fun _ _ h => h.elim)).trans (hc7.mono fun j _ e => (World.ownsRow.lt HoN.out j e).1)).trans (hal.mono fun _ _ h => h.elim)).trans (hc8.mono fun j _ e => (World.ownsRow.lt h7' j e).1)
                            · exact (((Hkp.out.trans (Kp5.of HcN.out)).trans (Kp5.own HoN.out hc7)).trans (Kp5.of hal)).trans (Kp5.own (ownsRow_chg h7' hal fun _ _ => id) hc8)
                          case measure => simp [intOf]; omega
                        · have f2 : ((tx (t.take 5)).toList == [122, 101, 114, 111, 32]) = false := by rw [txQ]; simpa using eb
                          by_cases ec : t.take 5 = [99, 97, 108, 108, 32]
                          · have Hturn := Lib.hid (show turnF cc t = (turn1 cc t).set 5 cc by rw [hs5]; unfold turnF turn2; rw [if_pos ⟨n5, .inr (.inr ec)⟩])
                            have f3 : ((tx (t.take 5)).toList == [99, 97, 108, 108, 32]) = true := by rw [txQ, ec]; rfl
                            have HcN := Lib.hid (show Chg NoB wr (((wB.setCell ⟨g, 0, none⟩ (.int .u8 (cc.toNat : Int)))).setCell ⟨g, 5, none⟩ (.int .u8 (cc.toNat : Int))) from HC2.out)
                            clear hs5 ea eb ec
                            have HBf := Lib.hid (show BRow (((wB.setCell ⟨g, 0, none⟩ (.int .u8 (cc.toNat : Int)))).setCell ⟨g, 5, none⟩ (.int .u8 (cc.toNat : Int))) g (turnF cc t) from by rw [Hturn.out]; exact HB2.out)
                            have HoN := Lib.hid (ownsRow_chg Ho.out HcN.out fun k e x => x.elim)
                            have Hm := Lib.hid (show t.length = (turnF cc t).length from (turn_len cc t).symm)
                            have HbN := Lib.hid (show b5 ≤ (((wB.setCell ⟨g, 0, none⟩ (.int .u8 (cc.toNat : Int)))).setCell ⟨g, 5, none⟩ (.int .u8 (cc.toNat : Int))).heap.size from Nat.le_trans Hb0.out (Nat.le_trans Hch.out.size HcN.out.size))
                            go_wp2_with (at_builtin; first
                              | (go_loud (refine wpList_brow (l := joinN (((Pth.pcs 10 D).take k).map (turnF cc))) (ys := turnF cc t) (g := g) (v := .slice q n cp) rfl _ _ rfl rfl Hm.out rfl Hn.out HoN.out HBf.out (by omega) HbN.out ?_); intro v5 w7 h7 hc7; obtain ⟨q5, cp5, rfl, -, -, -⟩ := h7.shape; have hl7 : (joinN (((Pth.pcs 10 D).take k).map (turnF cc)) ++ turnF cc t).length = n + t.length := (by rw [List.length_append, ← Hn.out, ← Hm.out]); have h7' := h7; unfold Own at h7'; rw [hl7] at h7' ⊢)
                              | (go_loud (refine wpList_lit (m := 1) (w := w7.alloc (.cells #[.int .u8 10] 5)) (l := joinN (((Pth.pcs 10 D).take k).map (turnF cc)) ++ turnF cc t) (ys := [10]) (b := w7.heap.size) (v := .slice q5 (n + t.length) cp5) rfl _ _ rfl rfl rfl rfl hl7.symm (ownsRow_chg h7' ((Chg.refl NoB w7).alloc _) fun _ _ => id) (heap_alloc_new w7 _) (by omega) (Nat.le_trans HbN.out (Nat.le_trans hc7.size ((Chg.refl NoB w7).alloc _).size)) ?_); intro v6 w8 h8 hc8))
                            have Htk := Lib.hid (show joinN (((Pth.pcs 10 D).take (k + 1)).map (turnF cc)) = joinN (((Pth.pcs 10 D).take k).map (turnF cc)) ++ turnF cc t ++ [10] by rw [Htake.out, List.map_append, List.map_singleton, joinN_snoc])
                            go_roundw
                            case rel =>
                              have hal : Chg NoB w7 (w7.alloc (.cells #[.int .u8 10] 5)) := (Chg.refl NoB w7).alloc _
                              refine ⟨k + 1, by omega, by go_num, by rw [Htk.out]; exact h8, ?_, ?_⟩
                              · exact (((Hch.out.trans (HcN.out.mono fun _ _ h => h.elim)).trans (hc7.mono fun j _ e => (World.ownsRow.lt HoN.out j e).1)).trans (hal.mono fun _ _ h => h.elim)).trans (hc8.mono fun j _ e => (World.ownsRow.lt h7' j e).1)
                              · exact (((Hkp.out.trans (Kp5.of HcN.out)).trans (Kp5.own HoN.out hc7)).trans (Kp5.of hal)).trans (Kp5.own (ownsRow_chg h7' hal fun _ _ => id) hc8)
                            case measure => simp [intOf]; omega
                          · have f3 : ((tx (t.take 5)).toList == [99, 97, 108, 108, 32]) = false := by rw [txQ]; simpa using ec
                            have Hturn := Lib.hid (show turnF cc t = turn1 cc t by unfold turnF turn2; rw [if_neg (by rintro ⟨-, h | h | h⟩; exact ea h; exact eb h; exact ec h)])
                            have HcN := Lib.hid (show Chg NoB wr ((wB.setCell ⟨g, 0, none⟩ (.int .u8 (cc.toNat : Int)))) from HC1.out)
                            clear hs5 ea eb ec
                            have HBf := Lib.hid (show BRow ((wB.setCell ⟨g, 0, none⟩ (.int .u8 (cc.toNat : Int)))) g (turnF cc t) from by rw [Hturn.out]; exact HB1.out)
                            have HoN := Lib.hid (ownsRow_chg Ho.out HcN.out fun k e x => x.elim)
                            have Hm := Lib.hid (show t.length = (turnF cc t).length from (turn_len cc t).symm)
                            have HbN := Lib.hid (show b5 ≤ ((wB.setCell ⟨g, 0, none⟩ (.int .u8 (cc.toNat : Int)))).heap.size from Nat.le_trans Hb0.out (Nat.le_trans Hch.out.size HcN.out.size))
                            go_wp2_with (at_builtin; first
                              | (go_loud (refine wpList_brow (l := joinN (((Pth.pcs 10 D).take k).map (turnF cc))) (ys := turnF cc t) (g := g) (v := .slice q n cp) rfl _ _ rfl rfl Hm.out rfl Hn.out HoN.out HBf.out (by omega) HbN.out ?_); intro v5 w7 h7 hc7; obtain ⟨q5, cp5, rfl, -, -, -⟩ := h7.shape; have hl7 : (joinN (((Pth.pcs 10 D).take k).map (turnF cc)) ++ turnF cc t).length = n + t.length := (by rw [List.length_append, ← Hn.out, ← Hm.out]); have h7' := h7; unfold Own at h7'; rw [hl7] at h7' ⊢)
                              | (go_loud (refine wpList_lit (m := 1) (w := w7.alloc (.cells #[.int .u8 10] 5)) (l := joinN (((Pth.pcs 10 D).take k).map (turnF cc)) ++ turnF cc t) (ys := [10]) (b := w7.heap.size) (v := .slice q5 (n + t.length) cp5) rfl _ _ rfl rfl rfl rfl hl7.symm (ownsRow_chg h7' ((Chg.refl NoB w7).alloc _) fun _ _ => id) (heap_alloc_new w7 _) (by omega) (Nat.le_trans HbN.out (Nat.le_trans hc7.size ((Chg.refl NoB w7).alloc _).size)) ?_); intro v6 w8 h8 hc8))
                            have Htk := Lib.hid (show joinN (((Pth.pcs 10 D).take (k + 1)).map (turnF cc)) = joinN (((Pth.pcs 10 D).take k).map (turnF cc)) ++ turnF cc t ++ [10] by rw [Htake.out, List.map_append, List.map_singleton, joinN_snoc])
                            go_roundw
                            case rel =>
                              have hal : Chg NoB w7 (w7.alloc (.cells #[.int .u8 10] 5)) := (Chg.refl NoB w7).alloc _
                              refine ⟨k + 1, by omega, by go_num, by rw [Htk.out]; exact h8, ?_, ?_⟩
                              · exact (((Hch.out.trans (HcN.out.mono fun _ _ h => h.elim)).trans (hc7.mono fun j _ e => (World.ownsRow.lt HoN.out j e).1)).trans (hal.mono fun _ _ h => h.elim)).trans (hc8.mono fun j _ e => (World.ownsRow.lt h7' j e).1)
                              · exact (((Hkp.out.trans (Kp5.of HcN.out)).trans (Kp5.own HoN.out hc7)).trans (Kp5.of hal)).trans (Kp5.own (ownsRow_chg h7' hal fun _ _ => id) hc8)
                            case measure => simp [intOf]; omega
                    · have n5' : ¬ ((5 : Int) < (t.length : Int)) := by omega
                      have Hturn := Lib.hid (show turnF cc t = turn1 cc t by unfold turnF turn2; rw [if_neg (fun h => n5 h.1)])
                      have HcN := Lib.hid (show Chg NoB wr ((wB.setCell ⟨g, 0, none⟩ (.int .u8 (cc.toNat : Int)))) from HC1.out)
                      have HBf := Lib.hid (show BRow ((wB.setCell ⟨g, 0, none⟩ (.int .u8 (cc.toNat : Int)))) g (turnF cc t) from by rw [Hturn.out]; exact HB1.out)
                      have HoN := Lib.hid (ownsRow_chg Ho.out HcN.out fun k e x => x.elim)
                      have Hm := Lib.hid (show t.length = (turnF cc t).length from (turn_len cc t).symm)
                      have HbN := Lib.hid (show b5 ≤ ((wB.setCell ⟨g, 0, none⟩ (.int .u8 (cc.toNat : Int)))).heap.size from Nat.le_trans Hb0.out (Nat.le_trans Hch.out.size HcN.out.size))
                      go_wp2_with (at_builtin; first
                        | (go_loud (refine wpList_brow (l := joinN (((Pth.pcs 10 D).take k).map (turnF cc))) (ys := turnF cc t) (g := g) (v := .slice q n cp) rfl _ _ rfl rfl Hm.out rfl Hn.out HoN.out HBf.out (by omega) HbN.out ?_); intro v5 w7 h7 hc7; obtain ⟨q5, cp5, rfl, -, -, -⟩ := h7.shape; have hl7 : (joinN (((Pth.pcs 10 D).take k).map (turnF cc)) ++ turnF cc t).length = n + t.length := (by rw [List.length_append, ← Hn.out, ← Hm.out]); have h7' := h7; unfold Own at h7'; rw [hl7] at h7' ⊢)
                        | (go_loud (refine wpList_lit (m := 1) (w := w7.alloc (.cells #[.int .u8 10] 5)) (l := joinN (((Pth.pcs 10 D).take k).map (turnF cc)) ++ turnF cc t) (ys := [10]) (b := w7.heap.size) (v := .slice q5 (n + t.length) cp5) rfl _ _ rfl rfl rfl rfl hl7.symm (ownsRow_chg h7' ((Chg.refl NoB w7).alloc _) fun _ _ => id) (heap_alloc_new w7 _) (by omega) (Nat.le_trans HbN.out (Nat.le_trans hc7.size ((Chg.refl NoB w7).alloc _).size)) ?_); intro v6 w8 h8 hc8))
                      have Htk := Lib.hid (show joinN (((Pth.pcs 10 D).take (k + 1)).map (turnF cc)) = joinN (((Pth.pcs 10 D).take k).map (turnF cc)) ++ turnF cc t ++ [10] by rw [Htake.out, List.map_append, List.map_singleton, joinN_snoc])
                      go_roundw
                      case rel =>
                        have hal : Chg NoB w7 (w7.alloc (.cells #[.int .u8 10] 5)) := (Chg.refl NoB w7).alloc _
                        refine ⟨k + 1, by omega, by go_num, by rw [Htk.out]; exact h8, ?_, ?_⟩
                        · exact (((Hch.out.trans (HcN.out.mono fun _ _ h => h.elim)).trans (hc7.mono fun j _ e => (World.ownsRow.lt HoN.out j e).1)).trans (hal.mono fun _ _ h => h.elim)).trans (hc8.mono fun j _ e => (World.ownsRow.lt h7' j e).1)
                        · exact (((Hkp.out.trans (Kp5.of HcN.out)).trans (Kp5.own HoN.out hc7)).trans (Kp5.of hal)).trans (Kp5.own (ownsRow_chg h7' hal fun _ _ => id) hc8)
                      case measure => simp [intOf]; omega
                  · have ex : x ≠ 58 := fun h => e1 (by rw [h]; rfl)
                    have Ht1 : turn1 cc t = t := by unfold turn1; rw [if_neg (fun h => ex (Option.some.inj (hlast.symm.trans h.2)))]
                    have HB1 := Lib.hid (show BRow wB g (turn1 cc t) by rw [Ht1]; exact HB.out)
                    have HC1 := Lib.hid (show Chg NoB wr wB from HcB.out)
                    clear hlast hx Ht1 ex
                    have ht5 := Lib.hid (show (turn1 cc t).length = t.length from turn1_len cc t)
                    by_cases n5 : 5 < t.length
                    · have n5' : (5 : Int) < (t.length : Int) := by omega
                      have qtk : (tx t).extract 0 5 = tx (t.take 5) := take5 t
                      have cell5 := HB1.out.cell 5 (by rw [ht5.out]; exact n5)
                      have free5 := HB1.out.free 5 (by rw [ht5.out]; exact n5)
                      have HB2 := Lib.hid (HB1.out.set 5 (by rw [ht5.out]; exact n5) cc)
                      have HC2 := Lib.hid (HC1.out.above ((Chg.refl (fun k => k = g) wB).setCell (p := ⟨g, 5, none⟩) (.inl rfl) (.int .u8 (cc.toNat : Int))) fun k e => by have := Hg.out; omega)
                      have hs5 := set5' cc (t := turn1 cc t) (by rw [ht5.out]; exact n5)
                      by_cases ea : t.take 5 = [106, 117, 109, 112, 32]
                      · have Hturn := Lib.hid (show turnF cc t = (turn1 cc t).set 5 cc by rw [hs5]; unfold turnF turn2; rw [if_pos ⟨n5, .inl ea⟩])
                        have f1 : ((tx (t.take 5)).toList == [106, 117, 109, 112, 32]) = true := by rw [txQ, ea]; rfl
                        have HcN := Lib.hid (show Chg NoB wr ((wB).setCell ⟨g, 5, none⟩ (.int .u8 (cc.toNat : Int))) from HC2.out)
                        clear hs5 ea
                        have HBf := Lib.hid (show BRow ((wB).setCell ⟨g, 5, none⟩ (.int .u8 (cc.toNat : Int))) g (turnF cc t) from by rw [Hturn.out]; exact HB2.out)
                        have HoN := Lib.hid (ownsRow_chg Ho.out HcN.out fun k e x => x.elim)
                        have Hm := Lib.hid (show t.length = (turnF cc t).length from (turn_len cc t).symm)
                        have HbN := Lib.hid (show b5 ≤ ((wB).setCell ⟨g, 5, none⟩ (.int .u8 (cc.toNat : Int))).heap.size from Nat.le_trans Hb0.out (Nat.le_trans Hch.out.size HcN.out.size))
                        go_wp2_with (at_builtin; first
                          | (go_loud (refine wpList_brow (l := joinN (((Pth.pcs 10 D).take k).map (turnF cc))) (ys := turnF cc t) (g := g) (v := .slice q n cp) rfl _ _ rfl rfl Hm.out rfl Hn.out HoN.out HBf.out (by omega) HbN.out ?_); intro v5 w7 h7 hc7; obtain ⟨q5, cp5, rfl, -, -, -⟩ := h7.shape; have hl7 : (joinN (((Pth.pcs 10 D).take k).map (turnF cc)) ++ turnF cc t).length = n + t.length := (by rw [List.length_append, ← Hn.out, ← Hm.out]); have h7' := h7; unfold Own at h7'; rw [hl7] at h7' ⊢)
                          | (go_loud (refine wpList_lit (m := 1) (w := w7.alloc (.cells #[.int .u8 10] 5)) (l := joinN (((Pth.pcs 10 D).take k).map (turnF cc)) ++ turnF cc t) (ys := [10]) (b := w7.heap.size) (v := .slice q5 (n + t.length) cp5) rfl _ _ rfl rfl rfl rfl hl7.symm (ownsRow_chg h7' ((Chg.refl NoB w7).alloc _) fun _ _ => id) (heap_alloc_new w7 _) (by omega) (Nat.le_trans HbN.out (Nat.le_trans hc7.size ((Chg.refl NoB w7).alloc _).size)) ?_); intro v6 w8 h8 hc8))
                        have Htk := Lib.hid (show joinN (((Pth.pcs 10 D).take (k + 1)).map (turnF cc)) = joinN (((Pth.pcs 10 D).take k).map (turnF cc)) ++ turnF cc t ++ [10] by rw [Htake.out, List.map_append, List.map_singleton, joinN_snoc])
                        go_roundw
                        case rel =>
                          have hal : Chg NoB w7 (w7.alloc (.cells #[.int .u8 10] 5)) := (Chg.refl NoB w7).alloc _
                          refine ⟨k + 1, by omega, by go_num, by rw [Htk.out]; exact h8, ?_, ?_⟩
                          · exact (((Hch.out.trans (HcN.out.mono fun _ _ h => h.elim)).trans (hc7.mono fun j _ e => (World.ownsRow.lt HoN.out j e).1)).trans (hal.mono fun _ _ h => h.elim)).trans (hc8.mono fun j _ e => (World.ownsRow.lt h7' j e).1)
                          · exact (((Hkp.out.trans (Kp5.of HcN.out)).trans (Kp5.own HoN.out hc7)).trans (Kp5.of hal)).trans (Kp5.own (ownsRow_chg h7' hal fun _ _ => id) hc8)
                        case measure => simp [intOf]; omega
                      · have f1 : ((tx (t.take 5)).toList == [106, 117, 109, 112, 32]) = false := by rw [txQ]; simpa using ea
                        by_cases eb : t.take 5 = [122, 101, 114, 111, 32]
                        · have Hturn := Lib.hid (show turnF cc t = (turn1 cc t).set 5 cc by rw [hs5]; unfold turnF turn2; rw [if_pos ⟨n5, .inr (.inl eb)⟩])
                          have f2 : ((tx (t.take 5)).toList == [122, 101, 114, 111, 32]) = true := by rw [txQ, eb]; rfl
                          have HcN := Lib.hid (show Chg NoB wr ((wB).setCell ⟨g, 5, none⟩ (.int .u8 (cc.toNat : Int))) from HC2.out)
                          clear hs5 ea eb
                          have HBf := Lib.hid (show BRow ((wB).setCell ⟨g, 5, none⟩ (.int .u8 (cc.toNat : Int))) g (turnF cc t) from by rw [Hturn.out]; exact HB2.out)
                          have HoN := Lib.hid (ownsRow_chg Ho.out HcN.out fun k e x => x.elim)
                          have Hm := Lib.hid (show t.length = (turnF cc t).length from (turn_len cc t).symm)
                          have HbN := Lib.hid (show b5 ≤ ((wB).setCell ⟨g, 5, none⟩ (.int .u8 (cc.toNat : Int))).heap.size from Nat.le_trans Hb0.out (Nat.le_trans Hch.out.size HcN.out.size))
                          go_wp2_with (at_builtin; first
                            | (go_loud (refine wpList_brow (l := joinN (((Pth.pcs 10 D).take k).map (turnF cc))) (ys := turnF cc t) (g := g) (v := .slice q n cp) rfl _ _ rfl rfl Hm.out rfl Hn.out HoN.out HBf.out (by omega) HbN.out ?_); intro v5 w7 h7 hc7; obtain ⟨q5, cp5, rfl, -, -, -⟩ := h7.shape; have hl7 : (joinN (((Pth.pcs 10 D).take k).map (turnF cc)) ++ turnF cc t).length = n + t.length := (by rw [List.length_append, ← Hn.out, ← Hm.out]); have h7' := h7; unfold Own at h7'; rw [hl7] at h7' ⊢)
                            | (go_loud (refine wpList_lit (m := 1) (w := w7.alloc (.cells #[.int .u8 10] 5)) (l := joinN (((Pth.pcs 10 D).take k).map (turnF cc)) ++ turnF cc t) (ys := [10]) (b := w7.heap.size) (v := .slice q5 (n + t.length) cp5) rfl _ _ rfl rfl rfl rfl hl7.symm (ownsRow_chg h7' ((Chg.refl NoB w7).alloc _) fun _ _ => id) (heap_alloc_new w7 _) (by omega) (Nat.le_trans HbN.out (Nat.le_trans hc7.size ((Chg.refl NoB w7).alloc _).size)) ?_); intro v6 w8 h8 hc8))
                          have Htk := Lib.hid (show joinN (((Pth.pcs 10 D).take (k + 1)).map (turnF cc)) = joinN (((Pth.pcs 10 D).take k).map (turnF cc)) ++ turnF cc t ++ [10] by rw [Htake.out, List.map_append, List.map_singleton, joinN_snoc])
                          go_roundw
                          case rel =>
                            have hal : Chg NoB w7 (w7.alloc (.cells #[.int .u8 10] 5)) := (Chg.refl NoB w7).alloc _
                            refine ⟨k + 1, by omega, by go_num, by rw [Htk.out]; exact h8, ?_, ?_⟩
                            · exact (((Hch.out.trans (HcN.out.mono fun _ _ h => h.elim)).trans (hc7.mono fun j _ e => (World.ownsRow.lt HoN.out j e).1)).trans (hal.mono fun _ _ h => h.elim)).trans (hc8.mono fun j _ e => (World.ownsRow.lt h7' j e).1)
                            · exact (((Hkp.out.trans (Kp5.of HcN.out)).trans (Kp5.own HoN.out hc7)).trans (Kp5.of hal)).trans (Kp5.own (ownsRow_chg h7' hal fun _ _ => id) hc8)
                          case measure => simp [intOf]; omega
                        · have f2 : ((tx (t.take 5)).toList == [122, 101, 114, 111, 32]) = false := by rw [txQ]; simpa using eb
                          by_cases ec : t.take 5 = [99, 97, 108, 108, 32]
                          · have Hturn := Lib.hid (show turnF cc t = (turn1 cc t).set 5 cc by rw [hs5]; unfold turnF turn2; rw [if_pos ⟨n5, .inr (.inr ec)⟩])
                            have f3 : ((tx (t.take 5)).toList == [99, 97, 108, 108, 32]) = true := by rw [txQ, ec]; rfl
                            have HcN := Lib.hid (show Chg NoB wr ((wB).setCell ⟨g, 5, none⟩ (.int .u8 (cc.toNat : Int))) from HC2.out)
                            clear hs5 ea eb ec
                            have HBf := Lib.hid (show BRow ((wB).setCell ⟨g, 5, none⟩ (.int .u8 (cc.toNat : Int))) g (turnF cc t) from by rw [Hturn.out]; exact HB2.out)
                            have HoN := Lib.hid (ownsRow_chg Ho.out HcN.out fun k e x => x.elim)
                            have Hm := Lib.hid (show t.length = (turnF cc t).length from (turn_len cc t).symm)
                            have HbN := Lib.hid (show b5 ≤ ((wB).setCell ⟨g, 5, none⟩ (.int .u8 (cc.toNat : Int))).heap.size from Nat.le_trans Hb0.out (Nat.le_trans Hch.out.size HcN.out.size))
                            go_wp2_with (at_builtin; first
                              | (go_loud (refine wpList_brow (l := joinN (((Pth.pcs 10 D).take k).map (turnF cc))) (ys := turnF cc t) (g := g) (v := .slice q n cp) rfl _ _ rfl rfl Hm.out rfl Hn.out HoN.out HBf.out (by omega) HbN.out ?_); intro v5 w7 h7 hc7; obtain ⟨q5, cp5, rfl, -, -, -⟩ := h7.shape; have hl7 : (joinN (((Pth.pcs 10 D).take k).map (turnF cc)) ++ turnF cc t).length = n + t.length := (by rw [List.length_append, ← Hn.out, ← Hm.out]); have h7' := h7; unfold Own at h7'; rw [hl7] at h7' ⊢)
                              | (go_loud (refine wpList_lit (m := 1) (w := w7.alloc (.cells #[.int .u8 10] 5)) (l := joinN (((Pth.pcs 10 D).take k).map (turnF cc)) ++ turnF cc t) (ys := [10]) (b := w7.heap.size) (v := .slice q5 (n + t.length) cp5) rfl _ _ rfl rfl rfl rfl hl7.symm (ownsRow_chg h7' ((Chg.refl NoB w7).alloc _) fun _ _ => id) (heap_alloc_new w7 _) (by omega) (Nat.le_trans HbN.out (Nat.le_trans hc7.size ((Chg.refl NoB w7).alloc _).size)) ?_); intro v6 w8 h8 hc8))
                            have Htk := Lib.hid (show joinN (((Pth.pcs 10 D).take (k + 1)).map (turnF cc)) = joinN (((Pth.pcs 10 D).take k).map (turnF cc)) ++ turnF cc t ++ [10] by rw [Htake.out, List.map_append, List.map_singleton, joinN_snoc])
                            go_roundw
                            case rel =>
                              have hal : Chg NoB w7 (w7.alloc (.cells #[.int .u8 10] 5)) := (Chg.refl NoB w7).alloc _
                              refine ⟨k + 1, by omega, by go_num, by rw [Htk.out]; exact h8, ?_, ?_⟩
                              · exact (((Hch.out.trans (HcN.out.mono fun _ _ h => h.elim)).trans (hc7.mono fun j _ e => (World.ownsRow.lt HoN.out j e).1)).trans (hal.mono fun _ _ h => h.elim)).trans (hc8.mono fun j _ e => (World.ownsRow.lt h7' j e).1)
                              · exact (((Hkp.out.trans (Kp5.of HcN.out)).trans (Kp5.own HoN.out hc7)).trans (Kp5.of hal)).trans (Kp5.own (ownsRow_chg h7' hal fun _ _ => id) hc8)
                            case measure => simp [intOf]; omega
                          · have f3 : ((tx (t.take 5)).toList == [99, 97, 108, 108, 32]) = false := by rw [txQ]; simpa using ec
                            have Hturn := Lib.hid (show turnF cc t = turn1 cc t by unfold turnF turn2; rw [if_neg (by rintro ⟨-, h | h | h⟩; exact ea h; exact eb h; exact ec h)])
                            have HcN := Lib.hid (show Chg NoB wr (wB) from HC1.out)
                            clear hs5 ea eb ec
                            have HBf := Lib.hid (show BRow (wB) g (turnF cc t) from by rw [Hturn.out]; exact HB1.out)
                            have HoN := Lib.hid (ownsRow_chg Ho.out HcN.out fun k e x => x.elim)
                            have Hm := Lib.hid (show t.length = (turnF cc t).length from (turn_len cc t).symm)
                            have HbN := Lib.hid (show b5 ≤ (wB).heap.size from Nat.le_trans Hb0.out (Nat.le_trans Hch.out.size HcN.out.size))
                            go_wp2_with (at_builtin; first
                              | (go_loud (refine wpList_brow (l := joinN (((Pth.pcs 10 D).take k).map (turnF cc))) (ys := turnF cc t) (g := g) (v := .slice q n cp) rfl _ _ rfl rfl Hm.out rfl Hn.out HoN.out HBf.out (by omega) HbN.out ?_); intro v5 w7 h7 hc7; obtain ⟨q5, cp5, rfl, -, -, -⟩ := h7.shape; have hl7 : (joinN (((Pth.pcs 10 D).take k).map (turnF cc)) ++ turnF cc t).length = n + t.length := (by rw [List.length_append, ← Hn.out, ← Hm.out]); have h7' := h7; unfold Own at h7'; rw [hl7] at h7' ⊢)
                              | (go_loud (refine wpList_lit (m := 1) (w := w7.alloc (.cells #[.int .u8 10] 5)) (l := joinN (((Pth.pcs 10 D).take k).map (turnF cc)) ++ turnF cc t) (ys := [10]) (b := w7.heap.size) (v := .slice q5 (n + t.length) cp5) rfl _ _ rfl rfl rfl rfl hl7.symm (ownsRow_chg h7' ((Chg.refl NoB w7).alloc _) fun _ _ => id) (heap_alloc_new w7 _) (by omega) (Nat.le_trans HbN.out (Nat.le_trans hc7.size ((Chg.refl NoB w7).alloc _).size)) ?_); intro v6 w8 h8 hc8))
                            have Htk := Lib.hid (show joinN (((Pth.pcs 10 D).take (k + 1)).map (turnF cc)) = joinN (((Pth.pcs 10 D).take k).map (turnF cc)) ++ turnF cc t ++ [10] by rw [Htake.out, List.map_append, List.map_singleton, joinN_snoc])
                            go_roundw
                            case rel =>
                              have hal : Chg NoB w7 (w7.alloc (.cells #[.int .u8 10] 5)) := (Chg.refl NoB w7).alloc _
                              refine ⟨k + 1, by omega, by go_num, by rw [Htk.out]; exact h8, ?_, ?_⟩
                              · exact (((Hch.out.trans (HcN.out.mono fun _ _ h => h.elim)).trans (hc7.mono fun j _ e => (World.ownsRow.lt HoN.out j e).1)).trans (hal.mono fun _ _ h => h.elim)).trans (hc8.mono fun j _ e => (World.ownsRow.lt h7' j e).1)
                              · exact (((Hkp.out.trans (Kp5.of HcN.out)).trans (Kp5.own HoN.out hc7)).trans (Kp5.of hal)).trans (Kp5.own (ownsRow_chg h7' hal fun _ _ => id) hc8)
                            case measure => simp [intOf]; omega
                    · have n5' : ¬ ((5 : Int) < (t.length : Int)) := by omega
                      have Hturn := Lib.hid (show turnF cc t = turn1 cc t by unfold turnF turn2; rw [if_neg (fun h => n5 h.1)])
                      have HcN := Lib.hid (show Chg NoB wr (wB) from HC1.out)
                      have HBf := Lib.hid (show BRow (wB) g (turnF cc t) from by rw [Hturn.out]; exact HB1.out)
                      have HoN := Lib.hid (ownsRow_chg Ho.out HcN.out fun k e x => x.elim)
                      have Hm := Lib.hid (show t.length = (turnF cc t).length from (turn_len cc t).symm)
                      have HbN := Lib.hid (show b5 ≤ (wB).heap.size from Nat.le_trans Hb0.out (Nat.le_trans Hch.out.size HcN.out.size))
                      go_wp2_with (at_builtin; first
                        | (go_loud (refine wpList_brow (l := joinN (((Pth.pcs 10 D).take k).map (turnF cc))) (ys := turnF cc t) (g := g) (v := .slice q n cp) rfl _ _ rfl rfl Hm.out rfl Hn.out HoN.out HBf.out (by omega) HbN.out ?_); intro v5 w7 h7 hc7; obtain ⟨q5, cp5, rfl, -, -, -⟩ := h7.shape; have hl7 : (joinN (((Pth.pcs 10 D).take k).map (turnF cc)) ++ turnF cc t).length = n + t.length := (by rw [List.length_append, ← Hn.out, ← Hm.out]); have h7' := h7; unfold Own at h7'; rw [hl7] at h7' ⊢)
                        | (go_loud (refine wpList_lit (m := 1) (w := w7.alloc (.cells #[.int .u8 10] 5)) (l := joinN (((Pth.pcs 10 D).take k).map (turnF cc)) ++ turnF cc t) (ys := [10]) (b := w7.heap.size) (v := .slice q5 (n + t.length) cp5) rfl _ _ rfl rfl rfl rfl hl7.symm (ownsRow_chg h7' ((Chg.refl NoB w7).alloc _) fun _ _ => id) (heap_alloc_new w7 _) (by omega) (Nat.le_trans HbN.out (Nat.le_trans hc7.size ((Chg.refl NoB w7).alloc _).size)) ?_); intro v6 w8 h8 hc8))
                      have Htk := Lib.hid (show joinN (((Pth.pcs 10 D).take (k + 1)).map (turnF cc)) = joinN (((Pth.pcs 10 D).take k).map (turnF cc)) ++ turnF cc t ++ [10] by rw [Htake.out, List.map_append, List.map_singleton, joinN_snoc])
                      go_roundw
                      case rel =>
                        have hal : Chg NoB w7 (w7.alloc (.cells #[.int .u8 10] 5)) := (Chg.refl NoB w7).alloc _
                        refine ⟨k + 1, by omega, by go_num, by rw [Htk.out]; exact h8, ?_, ?_⟩
                        · exact (((Hch.out.trans (HcN.out.mono fun _ _ h => h.elim)).trans (hc7.mono fun j _ e => (World.ownsRow.lt HoN.out j e).1)).trans (hal.mono fun _ _ h => h.elim)).trans (hc8.mono fun j _ e => (World.ownsRow.lt h7' j e).1)
                        · exact (((Hkp.out.trans (Kp5.of HcN.out)).trans (Kp5.own HoN.out hc7)).trans (Kp5.of hal)).trans (Kp5.own (ownsRow_chg h7' hal fun _ _ => id) hc8)
                      case measure => simp [intOf]; omega
                · have n2' : ¬ ((2 : Int) < (t.length : Int)) := by omega
                  have n5' : ¬ ((5 : Int) < (t.length : Int)) := by omega
                  have Hturn := Lib.hid (show turnF cc t = t by unfold turnF turn2 turn1; rw [if_neg (by omega), if_neg (by omega)])
                  have HcN := Lib.hid (show Chg NoB wr wB from HcB.out)
                  have HBf := Lib.hid (show BRow wB g (turnF cc t) from by rw [Hturn.out]; exact HB.out)
                  have HoN := Lib.hid (ownsRow_chg Ho.out HcN.out fun k e x => x.elim)
                  have Hm := Lib.hid (show t.length = (turnF cc t).length from (turn_len cc t).symm)
                  have HbN := Lib.hid (show b5 ≤ wB.heap.size from Nat.le_trans Hb0.out (Nat.le_trans Hch.out.size HcN.out.size))
                  go_wp2_with (at_builtin; first
                    | (go_loud (refine wpList_brow (l := joinN (((Pth.pcs 10 D).take k).map (turnF cc))) (ys := turnF cc t) (g := g) (v := .slice q n cp) rfl _ _ rfl rfl Hm.out rfl Hn.out HoN.out HBf.out (by omega) HbN.out ?_); intro v5 w7 h7 hc7; obtain ⟨q5, cp5, rfl, -, -, -⟩ := h7.shape; have hl7 : (joinN (((Pth.pcs 10 D).take k).map (turnF cc)) ++ turnF cc t).length = n + t.length := (by rw [List.length_append, ← Hn.out, ← Hm.out]); have h7' := h7; unfold Own at h7'; rw [hl7] at h7' ⊢)
                    | (go_loud (refine wpList_lit (m := 1) (w := w7.alloc (.cells #[.int .u8 10] 5)) (l := joinN (((Pth.pcs 10 D).take k).map (turnF cc)) ++ turnF cc t) (ys := [10]) (b := w7.heap.size) (v := .slice q5 (n + t.length) cp5) rfl _ _ rfl rfl rfl rfl hl7.symm (ownsRow_chg h7' ((Chg.refl NoB w7).alloc _) fun _ _ => id) (heap_alloc_new w7 _) (by omega) (Nat.le_trans HbN.out (Nat.le_trans hc7.size ((Chg.refl NoB w7).alloc _).size)) ?_); intro v6 w8 h8 hc8))
                  have Htk := Lib.hid (show joinN (((Pth.pcs 10 D).take (k + 1)).map (turnF cc)) = joinN (((Pth.pcs 10 D).take k).map (turnF cc)) ++ turnF cc t ++ [10] by rw [Htake.out, List.map_append, List.map_singleton, joinN_snoc])
                  go_roundw
                  case rel =>
                    have hal : Chg NoB w7 (w7.alloc (.cells #[.int .u8 10] 5)) := (Chg.refl NoB w7).alloc _
                    refine ⟨k + 1, by omega, by go_num, by rw [Htk.out]; exact h8, ?_, ?_⟩
                    · exact (((Hch.out.trans (HcN.out.mono fun _ _ h => h.elim)).trans (hc7.mono fun j _ e => (World.ownsRow.lt HoN.out j e).1)).trans (hal.mono fun _ _ h => h.elim)).trans (hc8.mono fun j _ e => (World.ownsRow.lt h7' j e).1)
                    · exact (((Hkp.out.trans (Kp5.of HcN.out)).trans (Kp5.own HoN.out hc7)).trans (Kp5.of hal)).trans (Kp5.own (ownsRow_chg h7' hal fun _ _ => id) hc8)
                  case measure => simp [intOf]; omega
              · obtain rfl : L = k := by omega
                obtain ⟨T, hT⟩ : ∃ T, T = joinN ((Pth.pcs 10 D).map (turnF cc)) := ⟨_, rfl⟩
                have htk : (Pth.pcs 10 D).take L = Pth.pcs 10 D := by rw [HL2.out]; exact List.take_length
                rw [htk, ← hT] at Hn Ho
                rw [← hT] at HT
                have hO : Own wr b5 (.slice q n cp) T := by unfold Own; rw [← Hn.out]; exact Ho.out
                have cv : (convert 34 9 (.slice q n cp)).run Tryd.prog wr = .ok (.string (tx T)) wr := hO.src.conv
                have HcL := Lib.hid (Hc6.out.above Hch.out fun j e => by have := Hx5.out; have := Hc4.out.size; omega)
                have HA := Lib.hid (fun w (h : Chg NoB W w) => asm_any W.heap.size T w (Hav.out.keep h) Hml.out)
                clear hT htk hO
                go_wp2_with fail
                refine (HA.out _ HcL.out).mono ?_
                rintro e w8 ⟨hc8, v8, rfl, hrow8⟩
                have HcM := Lib.hid (HcL.out.trans hc8)
                obtain ⟨q8, c8, rfl, -, -⟩ := row_shape hrow8
                have Hrow8 := Lib.hid hrow8
                clear hc8 hrow8 HA
                by_cases h9 : (65536 : Int) < (n : Int)
                · generalize asmF T = r1 at *
                  obtain ⟨p2, i2, e2⟩ := r1
                  simp only
                  go_wp2_with fail
                  go_ret
                  exact ⟨rfl, HcM.out⟩
                · have hT := HT.out (by have := Hn.out; omega)
                  rw [hT] at Hrow8 ⊢
                  simp only
                  simp only at Hrow8
                  have hwf : ∀ i (hi : i < ps.length), ps[i].wf := fun i hi => (Hat.out i hi).1
                  obtain ⟨kx, hx⟩ := InsS.of_row Hrow8.out hwf
                  have HSm := Lib.hid (isame_any ps ps _ _ _ _ kx 0 ka oa w8 hx (Hp.out.keep HcM.out fun _ _ => id) (by rw [← Hla.out]; omega))
                  rw [← Hla.out] at HSm
                  rw [← Hla.out]
                  clear hwf hx hT
                  go_wp2_with fail
                  refine HSm.out.mono ?_
                  rintro e wD ⟨⟨bb, rfl, hbb⟩, hcD⟩
                  have hbt : bb = true := hbb.2 rfl
                  rw [hbt]
                  have HcD := Lib.hid (HcM.out.trans hcD)
                  clear hcD hbb hbt
                  go_wp2_with fail
                  go_ret
                  exact ⟨rfl, HcD.out⟩
        · have h1b : (er != 0) = true := by simp [h1]
          clear h1
          go_wp2_with fail
          go_ret
          exact ⟨rfl, Hc4.out⟩
/-FRAME-/
set_option maxRecDepth 100000 in
theorem asmNames_lifted (os : Os) (started : os.Started) (H : Type) (enc : TypeId × Value → H) :
    ReturnsInHanded {} Tryd.checked os 6 .any (fun w args => (Rows.asmNamesSpec.pre enc Tryd.prog Tryd.f6 [] false w args ∧ laidMetH Tryd.prog Rows.asmNamesRow.laid w) ∧ sizedMet enc Tryd.prog Tryd.f6 (OpenSpec.ofChange Rows.asmNamesSpec) false w args)
      (Rows.asmNamesSpec.post enc Tryd.prog Tryd.f6 false true false false) := by
  refine returns_both (C := Tryd.checked) (X := fun w _ => laidMetH Tryd.prog Rows.asmNamesRow.laid w) (fun _ _ _ hh h => h.of_heap hh) Tryd.own started (by kernel_rfl) Tryd.func6
    (ChangeSpec.witness_shaped (enc := enc) (C := Tryd.checked) (os := os) (X := fun w _ => laidMetH Tryd.prog Rows.asmNamesRow.laid w) false (World.laidAll Tryd.prog os Rows.asmNamesRow.laid) #[.slice none 0 0, .int .i64 0] 8 (World.laidAll_os _ _ _)
      (World.shaped_of_ZipB (by kernel_rfl) (by kernel_rfl)) (by kernel_rfl) (by kernel_rfl) (by kernel_rfl)
      (by rw [MakeChecks.laidMetH_plain _ _ _ (by kernel_rfl)]; exact laidMet_laidAll _ (by kernel_rfl) (by kernel_rfl))) ?_
  intro W base args ds gs before hval0 hW _ hsz hL hsh _
  have hval : ∀ (j : Nat) t v, Tryd.f6.params[j]? = some t → args[j]? = some v → Value.okWide Tryd.prog W .any base t v := hval0
  have hW' := hW
  obtain ⟨p, q, hA0, hV, rfl, _, _⟩ := hW
  have hA : DataW.TrodAll enc Tryd.prog W 0 (fun _ => true) true Tryd.f6.params.toList args.toList ds p := hA0
  have hsz1 : (DataW.weightsEach Tryd.prog (Tryd.f6.params.toList ++ Rows.asmNamesSpec.plain.varTypes Tryd.prog) (ds ++ gs)).all (· ≤ reachBytes) = true := hsz
  rw [Tryd.params6] at hA hval hsz1
  obtain ⟨v0, v1, d0, d1, p0, p1, rfl, rfl, rfl, h0, h1⟩ := trodAll_two hA
  obtain ⟨rfl, rfl⟩ := trodVars_none hV
  obtain ⟨l0, kb0, ko0, hn0⟩ := open_inss (hval 0 23 v0 rfl rfl) h0 (fun m hm => of_decide_eq_true (List.all_eq_true.1 hsz1 m (DataW.weights_mem_each (j := 0) (t := 23) (d := d0) rfl rfl m hm)))
  obtain ⟨x1, rfl, rfl, rfl, wx1⟩ := open_int Tryd.underlying3 (hval 1 3 v1 rfl rfl) h1
  simp only [List.append_nil] at hW'
  rw [MakeChecks.laidMetH_plain _ _ _ (by kernel_rfl)] at hL
  obtain ⟨hlb, hwd⟩ := lb8_of hL hsh
  have hml := ml_lt hsh
  clear hA0 hval0
  refine (asmNames_all l0 _ kb0 ko0 x1 W hn0 wx1 hlb hwd hml).mono fun e W' ⟨he, hb⟩ => ?_
  subst he
  exact ⟨_, rfl, _, _, _, [], _, [], hW', trodAll_mk1 (shut_bool Tryd.underlying4 _), (trodAll_cons_mk (inss_stay h0 hb.below) (trodAll_cons_mk (shut_int Tryd.underlying3 wx1) trodAll_mk0)), rfl, hb.below.frame _, fun h => by cases h⟩
theorem asmNames_holds : Rows.AsmNamesSaid :=
  OpenClaim.holds_of_wide 6 Tryd.f6 rfl rfl rfl rfl rfl rfl rfl ⟨rfl, rfl, rfl, rfl, rfl⟩ rfl rfl rfl rfl rfl (by kernel_rfl) Tryd.func6 (by kernel_rfl)
    (of_decide_eq_true (by kernel_rfl)) (by unfold Func.isWrapper; first | (rw [if_pos (by decide +kernel)]; kernel_rfl) | (rw [if_neg (by decide +kernel)]; exact ⟨rfl, rfl⟩))
    (fun os started H enc _ => asmNames_lifted os started H enc)
theorem asmNames_card : Rows.AsmNamesCardSaid :=
  Claim7.holds_tied_plain_at .later [] [.data, .data, .data, .data, .sentinel, .sentinel, .widerDeep, .pinned] true (true, "aa88663d2f6238ae8a16603652b38a6635f2e0c3772bf95b981f2b479d7df801") true asmNames_holds (fun _ h => by cases h) (by kernel_rfl) (fun _ h => by cases h) asmNames_row_tie rfl ⟨rfl, rfl⟩ (by kernel_rfl) rfl
    (fun f fn hf hfn => by
      obtain rfl : f = 6 := Option.some.inj ((show Tryd.prog.funcNamed "sapling/saplinglaw09.AsmNames" = some 6 by kernel_rfl).symm.trans hf) |>.symm
      obtain rfl : fn = Tryd.f6 := (Option.some.inj (Tryd.func6.symm.trans hfn)).symm
      exact ⟨by kernel_rfl, fun j t ht => by
        rw [Tryd.params6] at ht
        have hm : t ∈ [23, 3] := by simpa using Array.mem_of_getElem? ht
        have hall : ([23, 3].all fun u => !Tryd.prog.wantsStandIn u) = true := by kernel_rfl
        exact (show Tryd.prog.wantsStandIn t = false by simpa using List.all_eq_true.1 hall t hm)⟩)
    (by kernel_rfl)
#print axioms asmNames_card
end Go.Proofs.YtaihgciokfkonaaDoor
