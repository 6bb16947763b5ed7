/- The contract of Disassemble. Conditions: the library's variables and the list of words read as listed; the instructions lie in memory. -/
import Derived.Test.YtaihgciokfkonaaDoorAmBuild
import Derived.Test.YtaihgciokfkonaaDoorAmLawM
import Derived.Test.YtaihgciokfkonaaDoorCdFind
import Derived.Test.YtaihgciokfkonaaDoorShelf2

namespace Go.Proofs.YtaihgciokfkonaaDoor
set_option linter.unusedVariables false
open Go.ChangeShapes Go.WideShapes Go.ChangeAt Go.RowKit Go.Sort
def encI (x : InsL) : List Value := [.int .i64 x.op, .int .i64 x.n, .string (tx x.s)]
theorem encI_len (x : InsL) : (encI x).length = 3 := rfl
instance : Inhabited InsL := ⟨⟨0, 0, []⟩⟩
theorem isAggI (w : World) : (isAgg 38).run Tryd.prog w = .ok true w := Tryd.isAgg38 w
theorem sizeI (w : World) : (Go.sizeOf 38).run Tryd.prog w = .ok 3 w := Tryd.sizeOf38 w
theorem aim1_any (y : InsL) (i : Int) (nb : Nat) (w : World) (hd : w.cell? ⟨nb, 0, none⟩ = some (.int .i64 i)) : Calls Tryd.prog 26 #[.agg (encI y).toArray, .pointer (some ⟨nb, 0, none⟩)] w (SayB (decide (takesF y.op = 4) && decide (y.n = i)) w) := by
  obtain ⟨op, n, s⟩ := y
  unfold encI
  have hal_ := (Chg.refl NoB w).alloc (.cells #[.int .i64 op, .int .i64 n, .string (tx s)] 38)
  have hb_ := heap_alloc_new w (.cells #[.int .i64 op, .int .i64 n, .string (tx s)] 38)
  obtain ⟨b1, hxb_⟩ : ∃ b, b = w.heap.size := ⟨_, rfl⟩
  obtain ⟨w1, hw_⟩ : ∃ w_, w.alloc (.cells #[.int .i64 op, .int .i64 n, .string (tx s)] 38) = w_ := ⟨_, rfl⟩
  have hz_ : w1.heap.size = b1 + 1 := by rw [← hw_, hxb_]; exact alloc_size _ _
  rw [hw_] at hal_ hb_
  rw [← hxb_] at hb_
  have Hw1 := Lib.hid hw_
  have Hx1 := Lib.hid hxb_
  have Ha1 := Lib.hid hal_
  have Hb1 := Lib.hid hb_
  have Hz1 := Lib.hid hz_
  clear hal_ hb_ hxb_ hw_ hz_
  obtain ⟨c0, c1, c2⟩ := var3 Hb1.out
  have HT := Lib.hid (fun w => takes_any op w)
  replace hd := Ha1.out.keep hd
  go_enter Tryd.func26, Tryd.ntmps26
  go_upto_region 1 with fail
  rw [Hw1.out, ← Hx1.out]
  go_wp2_with fail
  refine (HT.out _).mono ?_
  rintro e w2 ⟨rfl, hc2⟩
  have Hc2 := Lib.hid (Ha1.out.trans hc2)
  replace c1 := hc2.keep c1
  replace hd := hc2.keep hd
  clear hc2
  by_cases h4 : takesF op = 4
  · have Hr := Lib.hid (show (decide (takesF op = 4) && decide (n = i)) = (n == i) by rw [decide_eq_true h4, Bool.true_and]; rfl)
    rw [h4]
    clear h4
    go_wp2_with fail
    go_ret
    exact ⟨retB (by rw [Hr.out]), Hc2.out⟩
  · have h4b : (takesF op == 4) = false := by simp [h4]
    have Hr := Lib.hid (show (decide (takesF op = 4) && decide (n = i)) = false by rw [decide_eq_false h4, Bool.false_and])
    clear h4
    go_wp2_with fail
    go_ret
    exact ⟨retB (by rw [Hr.out]), Hc2.out⟩
theorem aim_any (ps : List InsL) (i : Nat) (nb : Nat) (S : Nat → Prop) (v : Value) (kb ko : Nat) (w : World) (hs : InsS w S v ps kb ko) (hp : ps ≠ []) (hd : w.cell? ⟨nb, 0, none⟩ = some (.int .i64 (i : Int))) (hl : ps.length ≤ 131072) :
    Calls Tryd.prog 25 #[v, .func (.func 26) #[] #[.pointer (some ⟨nb, 0, none⟩)]] w (SayB (aimF ps i) w) := by
  obtain ⟨⟨q, c, rfl, h1, h2, h3⟩, hat⟩ := hs
  unfold maxLen at h2
  obtain ⟨rfl, -⟩ := h3 hp
  have hpos : 0 < ps.length := List.length_pos_iff.2 hp
  have hkb : kb < w.heap.size := World.block_lt_of_cell? w _ (hat 0 hpos).2.1
  have h := Tryd.slices_ContainsFunc 3 isAggI sizeI encI encI_len (fun y => decide (takesF y.op = 4) && decide (y.n = (i : Int))) 26 #[.pointer (some ⟨nb, 0, none⟩)] (enters_of Tryd.func26 (by kernel_rfl) rfl) kb ko ps.length c ps w
    (fun W x hb => (aim1_any x i nb W ((chg_of_below hb).keep hd)).mono fun e w' h => ⟨h.1, Below.trans hb (Below.mono h.2.below hb.size)⟩) (by omega) (by omega) hkb (fun j hj k u hu => by
      rw [getElem!_pos ps j hj] at hu
      unfold encI at hu
      obtain ⟨-, c0, c1, c2⟩ := hat j hj
      match k, hu with
      | 0, hu => cases hu; simpa using c0
      | 1, hu => cases hu; exact c1
      | 2, hu => cases hu; exact c2)
  refine h.mono ?_
  rintro e w' ⟨rfl, hb⟩
  refine ⟨?_, chg_of_below hb⟩
  rw [List.take_of_length_le (by omega)]
  rfl
theorem writF_len {c : UInt8} {x : InsL} (hw : x.wf) {n : Nat} (hs : standsF x n = true) : (writF c x).length ≤ 900 := by
  have h1 := wordL_len x.op
  have h2 := Lib.itoa_length_le x.n hw.2.1.1 hw.2.1.2
  have h3 := quoF_len x.s
  have h4 : x.s.length ≤ 256 := by
    unfold standsF at hs
    split at hs
    · cases hs
    · (repeat' split at hs) <;> (have := of_decide_eq_true hs; simp_all)
  unfold writF
  rw [List.length_append]
  (repeat' split) <;> simp only [labT, List.length_cons, List.length_nil] <;> omega
theorem piece_len {c : UInt8} {p : List InsL} {x : InsL} (hw : x.wf) {n : Nat} (hs : standsF x n = true) (i : Nat) (hi : i ≤ 1048576) : (joinN (pieceF c p i x)).length ≤ 1000 := by
  have h1 := writF_len (c := c) hw hs
  have h2 := Lib.itoa_length_le (i : Int) (by omega) (by omega)
  unfold pieceF joinN
  split <;> simp [labT] <;> omega
theorem rows_len {c : UInt8} {p : List InsL} : ∀ (r : List InsL) (i : Nat), (∀ x ∈ r, x.wf ∧ standsF x p.length = true) → i + r.length ≤ 1048576 → (joinN (rowsF c p i r)).length ≤ 1000 * r.length := by
  intro r
  induction r with
  | nil => intro i _ _; simp [rowsF, joinN]
  | cons x r ih =>
    intro i hr hi
    rw [List.length_cons] at hi
    obtain ⟨h1, h2⟩ := hr x List.mem_cons_self
    have h3 := piece_len (c := c) (p := p) h1 h2 i (by omega)
    have h4 := ih (i + 1) (fun y hy => hr y (List.mem_cons_of_mem _ hy)) (by omega)
    rw [rowsF, joinN_app, List.length_append, List.length_cons]
    omega
theorem isb_keep {B b : Nat} {bs : List Value} {w w' : World} (h : Lib.IsBuilder 60 5 B b bs w) (hc : Chg NoB w w') : Lib.IsBuilder 60 5 B b bs w' := by
  rcases h with ⟨h1, v, h2, h3, h4⟩ | ⟨h1, v, h2, h3, h4⟩
  · exact .inl ⟨h1, v, row_kept hc h2 id, ownsRow_chg h3 hc fun _ _ => id, h4⟩
  · exact .inr ⟨h1, v, row_kept hc h2 id, ownsRow_chg h3 hc fun _ _ => id, h4⟩
def DisP (r : List UInt8 × Int) (w : World) (e : Ending) (w' : World) : Prop := e = .returned (.tuple #[.string (tx r.1), .int .i64 r.2]) ∧ Chg NoB w w'
theorem rows_lenT (p : List InsL) (h : ∀ x ∈ p, x.wf ∧ standsF x p.length = true) (k : Nat) (hk : k ≤ 1048576) : (joinN (rowsF 108 p 0 (p.take k))).length ≤ 1000 * k := by
  have h1 := rows_len (c := 108) (p := p) (p.take k) 0 (fun x hx => h x (List.mem_of_mem_take hx)) (by rw [List.length_take]; omega)
  rw [List.length_take] at h1
  exact Nat.le_trans h1 (Nat.mul_le_mul_left _ (Nat.min_le_left _ _))
theorem standsS {x : InsL} {n : Nat} (hs : standsF x n = true) : x.s.length ≤ 256 := by
  unfold standsF at hs
  split at hs
  · cases hs
  · (repeat' split at hs) <;> (have := of_decide_eq_true hs; simp_all)
set_option maxHeartbeats 4000000 in
set_option maxRecDepth 20000 in
theorem dis_any (ps : List InsL) (S : Nat → Prop) (v : Value) (kb ko : Nat) (base : Nat) (w : World) (h : Av base w) (hS : ∀ k, S k → k < w.heap.size) (hl : ps.length ≤ 131072) (hs : InsS w S v ps kb ko) : Calls Tryd.prog 14 #[v] w (DisP (disF ps) w) := by
  have HC := Lib.hid (check_any ps S v kb ko base w h.wd hl hs)
  have Hok := Lib.hid (fun h => check_ok (p := ps) h)
  have Hd := Lib.hid (show disF ps = if (checkF ps).2 ≠ 0 then ([], (checkF ps).2) else (joinN (rowsF 108 ps 0 ps), 0) from rfl)
  have H := Lib.hid h
  have hs0 := hs
  obtain ⟨⟨q, c, rfl, hc1, hc2, hc3⟩, hat⟩ := hs
  obtain ⟨len, hlen⟩ : ∃ n, n = ps.length := ⟨_, rfl⟩
  have Hs2 := Lib.hid hs0
  rw [← hlen] at hc1 HC ⊢
  have Hlen := Lib.hid hlen
  have Hat := Lib.hid hat
  have Hq := Lib.hid hc3
  have HS := Lib.hid hS
  generalize checkF ps = ck at *
  obtain ⟨at', er⟩ := ck
  clear h hat hc3 hS hlen hs0
  by_cases h0 : er = 0
  · have h0b : (er != 0) = false := by simp [h0]
    obtain ⟨-, hne, hle, hst⟩ := Hok.out h0
    rw [if_neg (by simp [h0])] at Hd
    obtain ⟨rfl, hSk⟩ := Hq.out hne
    have hkb := HS.out kb hSk
    have Hst := Lib.hid hst
    have Hwfa := Lib.hid (show ∀ x ∈ ps, x.wf from fun x hx => by obtain ⟨i, hi, rfl⟩ := List.getElem_of_mem hx; exact (Hat.out i hi).1)
    have hle' : len ≤ 256 := by rw [Hlen.out]; exact hle
    have HAv := Lib.hid (fun W (hc : Chg (fun k => w.heap.size ≤ k) w W) => H.out.chg hc (fun k hk => Nat.le_trans H.out.lb.le hk))
    clear h0 hst hle
    go_enter Tryd.func14, Tryd.ntmps14
    go_wp2_with fail
    refine HC.out.mono ?_
    rintro e w2 ⟨rfl, hc2⟩
    have Hc2 := Lib.hid hc2
    clear hc2
    have hal_ := (Chg.refl NoB w2).alloc (.cells #[.pointer none, .slice none 0 0] 60)
    have hb_ := heap_alloc_new w2 (.cells #[.pointer none, .slice none 0 0] 60)
    obtain ⟨b6, hxb_⟩ : ∃ b, b = w2.heap.size := ⟨_, rfl⟩
    obtain ⟨w3, hw_⟩ : ∃ w_, w2.alloc (.cells #[.pointer none, .slice none 0 0] 60) = w_ := ⟨_, rfl⟩
    have hz_ : w3.heap.size = b6 + 1 := by rw [← hw_, hxb_]; exact alloc_size _ _
    rw [hw_] at hal_ hb_
    rw [← hxb_] at hb_
    have Hw6 := Lib.hid hw_
    have Hx6 := Lib.hid hxb_
    have Ha6 := Lib.hid hal_
    have Hb6 := Lib.hid hb_
    have Hz6 := Lib.hid hz_
    clear hal_ hb_ hxb_ hw_ hz_
    have Hb0 := Lib.hid (show Lib.IsBuilder 60 5 b6 b6 (Lib.byteCells (joinN (rowsF 108 ps 0 (ps.take 0)))) w3 by
      rw [← Hw6.out, Hx6.out]; exact Lib.fresh_isBuilder 60 5 w2)
    go_upto_region 5 with fail
    rw [Hw6.out, ← Hx6.out]
    go_wp2_with fail
    go_loopw [20] (fun iv wr => ∃ k : Nat, k ≤ len ∧ iv = .int .i64 k ∧ Lib.IsBuilder 60 5 b6 b6 (Lib.byteCells (joinN (rowsF 108 ps 0 (ps.take k)))) wr ∧ Below b6 w3 wr) (fun iv _ => len - (intOf iv).toNat)
    case atStart => exact ⟨0, Nat.zero_le _, rfl, Hb0.out, Below.refl _ _⟩
    case round =>
      obtain ⟨k, hk, rfl, hib, hbl⟩ := hrel
      have Hib := Lib.hid hib
      have Hbl := Lib.hid hbl
      have Hcw := Lib.hid (show Chg (fun k => w.heap.size ≤ k) w wr from ((Hc2.out.trans Ha6.out).mono fun _ _ h => h.elim).trans (⟨hbl.os, hbl.tape, hbl.output, hbl.size, fun j hj hn => hbl.block j (by have := Hx6.out; have := Hc2.out.size; omega)⟩))
      clear hib hbl
      by_cases hlt : k < len
      · have hkl : k < ps.length := by rw [← Hlen.out]; exact hlt
        obtain ⟨hwf, p0, p1, p2⟩ := Hat.out k hkl
        have Hwf := Lib.hid hwf
        have hstk := Hst.out ps[k] (List.getElem_mem hkl)
        have Htk := Lib.hid (show rowsF 108 ps 0 (ps.take (k + 1)) = rowsF 108 ps 0 (ps.take k) ++ pieceF 108 ps k ps[k] by
          rw [take_at hkl, rowsF_snoc]
          rw [List.length_take, Nat.min_eq_left (by omega), Nat.zero_add])
        replace p0 := Hcw.out.cell p0 (by show ¬ w.heap.size ≤ kb; omega)
        replace p1 := Hcw.out.cell p1 (by show ¬ w.heap.size ≤ kb; omega)
        replace p2 := Hcw.out.cell p2 (by show ¬ w.heap.size ≤ kb; omega)
        have Hstk := Lib.hid hstk
        generalize ps[k] = x at *
        obtain ⟨op, n, sx⟩ := x
        simp only at p0 p1 p2
        clear hwf hstk
        have hal_ := (Chg.refl NoB wr).alloc (.cells #[.int .i64 (k : Int)] 3)
        have hb_ := heap_alloc_new wr (.cells #[.int .i64 (k : Int)] 3)
        obtain ⟨b7, hxb_⟩ : ∃ b, b = wr.heap.size := ⟨_, rfl⟩
        obtain ⟨w7, hw_⟩ : ∃ w_, wr.alloc (.cells #[.int .i64 (k : Int)] 3) = w_ := ⟨_, rfl⟩
        have hz_ : w7.heap.size = b7 + 1 := by rw [← hw_, hxb_]; exact alloc_size _ _
        rw [hw_] at hal_ hb_
        rw [← hxb_] at hb_
        have Hw7 := Lib.hid hw_
        have Hx7 := Lib.hid hxb_
        have Ha7 := Lib.hid hal_
        have Hb7 := Lib.hid hb_
        have Hz7 := Lib.hid hz_
        clear hal_ hb_ hxb_ hw_ hz_
        have hal_ := (Chg.refl NoB w7).alloc (.cells #[.int .i64 op, .int .i64 n, .string (tx sx)] 38)
        have hb_ := heap_alloc_new w7 (.cells #[.int .i64 op, .int .i64 n, .string (tx sx)] 38)
        obtain ⟨b8, hxb_⟩ : ∃ b, b = w7.heap.size := ⟨_, rfl⟩
        obtain ⟨w8, hw_⟩ : ∃ w_, w7.alloc (.cells #[.int .i64 op, .int .i64 n, .string (tx sx)] 38) = w_ := ⟨_, rfl⟩
        have hz_ : w8.heap.size = b8 + 1 := by rw [← hw_, hxb_]; exact alloc_size _ _
        rw [hw_] at hal_ hb_
        rw [← hxb_] at hb_
        have Hw8 := Lib.hid hw_
        have Hx8 := Lib.hid hxb_
        have Ha8 := Lib.hid hal_
        have Hb8 := Lib.hid hb_
        have Hz8 := Lib.hid hz_
        clear hal_ hb_ hxb_ hw_ hz_
        have h87 : b7 + 1 = b8 := by rw [Hx8.out, Hz7.out]
        have H87 := Lib.hid h87
        have Hal := Lib.hid (Ha7.out.trans Ha8.out)
        have Hr7 := Lib.hid (row_kept Ha8.out Hb7.out id)
        have Hcw8 := Lib.hid (Hcw.out.trans (Hal.out.mono fun _ _ h => h.elim))
        have HA := Lib.hid (aim_any ps k b7 S _ kb ko w8 (Hs2.out.keep Hcw8.out (fun j hj h => by have := HS.out j hj; omega)) hne (var1 Hr7.out) hl)
        rw [← Hlen.out] at HA
        go_upto_region 8 with fail
        rw [Hw7.out, Hw8.out, ← Hx7.out, H87.out]
        clear p0 p1 p2 h87
        go_wp2_with fail
        refine HA.out.mono ?_
        rintro e w9 ⟨rfl, hc9⟩
        have Hc9 := Lib.hid (Hal.out.trans hc9)
        have Hr79 := Lib.hid (row_kept hc9 Hr7.out id)
        have Hr89 := Lib.hid (row_kept hc9 Hb8.out id)
        have Hib9 := Lib.hid (isb_keep Hib.out Hc9.out)
        have Hav9 := Lib.hid (HAv.out w9 (Hcw.out.trans (Hc9.out.mono fun _ _ h => h.elim)))
        clear hc9 HA
        cases ha : aimF ps k with
        | true =>
          have Htk2 := Lib.hid (show joinN (rowsF 108 ps 0 (ps.take (k + 1))) = joinN (rowsF 108 ps 0 (ps.take k)) ++ (labT 108 k ++ [58, 10]) ++ (writF 108 ⟨op, n, sx⟩ ++ [10]) by
            rw [Htk.out, joinN_app, pieceF, if_pos ha]; simp [joinN])
          have d0 := var1 Hr79.out
          clear ha Htk
          go_wp2_with fail
          refine (label_any (k : Int) (by omega) (by omega) base w9 Hav9.out.lb).mono ?_
          rintro e wA ⟨rfl, hcA⟩
          have HcA := Lib.hid hcA
          have hzA : (tx (labT 108 (k : Int))).size ≤ 22 := by rw [tx_size]; have := Lib.itoa_length_le (k : Int) (by omega) (by omega); simp only [labT, List.length_cons]; omega
          have hsA : ¬ 9223372036854775807 < (tx (labT 108 (k : Int))).size + 2 := by omega
          have hcatA : tx (labT 108 (k : Int)) ++ ⟨#[58, 10]⟩ = tx (labT 108 (k : Int) ++ [58, 10]) := txCat _ [58, 10]
          have HacA := Lib.hid (show (labT 108 (k : Int) ++ [58, 10]).length ≤ 24 by rw [List.length_append]; rw [tx_size] at hzA; simp only [List.length_cons, List.length_nil]; omega)
          clear hcA hzA d0
          go_wp2_with fail
          have Hacl := Lib.hid (show (joinN (rowsF 108 ps 0 (ps.take k))).length ≤ 1000 * 256 from Nat.le_trans (rows_lenT ps (fun x hx => ⟨Hwfa.out x hx, Hst.out x hx⟩) k (by omega)) (by omega))
          refine (ws_any b6 b6 _ (labT 108 (k : Int) ++ [58, 10]) wA (isb_keep Hib9.out HcA.out) (by have := HacA.out; have := Hacl.out; omega) (by have := Hz6.out; have := Hbl.out.size; have := Hc9.out.size; have := HcA.out.size; omega)).mono ?_
          rintro e wB ⟨⟨v, rfl⟩, hib, hblB, hkp⟩
          have Hr8B := Lib.hid (hkp b8 _ _ (by decide) (by decide) (row_kept HcA.out Hr89.out id))
          have HavB := Lib.hid (HAv.out wB (((Hcw.out.trans (Hc9.out.mono fun _ _ h => h.elim)).trans (HcA.out.mono fun _ _ h => h.elim)).trans ⟨hblB.os, hblB.tape, hblB.output, hblB.size, fun j hj hn => hblB.block j (by have := Hx6.out; have := Hc2.out.size; omega)⟩))
          have HibB := Lib.hid hib
          have HblB := Lib.hid (((Hbl.out.trans ((Hc9.out.trans HcA.out).below.mono (by have := Hz6.out; have := Hbl.out.size; omega)))).trans hblB)
          have HaccB := Lib.hid (show (joinN (rowsF 108 ps 0 (ps.take k)) ++ (labT 108 k ++ [58, 10])).length ≤ 300000 by rw [List.length_append]; have := HacA.out; have := Hacl.out; omega)
          clear hib hblB hkp
          obtain ⟨c0, c1, c2⟩ := var3 Hr8B.out
          go_wp2_with fail
          refine (written_any ⟨op, n, sx⟩ Hwf.out (Nat.le_trans (standsS Hstk.out) (by decide)) base wB HavB.out).mono ?_
          rintro e wC ⟨rfl, hcC⟩
          have HcC := Lib.hid hcC
          have hwl := writF_len (c := 108) Hwf.out Hstk.out
          have hzC : (tx (writF 108 ⟨op, n, sx⟩)).size ≤ 900 := by rw [tx_size]; exact hwl
          have hsC : ¬ 9223372036854775807 < (tx (writF 108 ⟨op, n, sx⟩)).size + 1 := by omega
          have hcatC : tx (writF 108 ⟨op, n, sx⟩) ++ ⟨#[10]⟩ = tx (writF 108 ⟨op, n, sx⟩ ++ [10]) := txCat _ [10]
          have HlenC := Lib.hid (show (writF 108 ⟨op, n, sx⟩ ++ [10]).length ≤ 901 by rw [List.length_append]; simp only [List.length_cons, List.length_nil]; omega)
          clear hcC hwl hzC c0 c1 c2
          go_wp2_with fail
          refine (ws_any b6 b6 _ (writF 108 ⟨op, n, sx⟩ ++ [10]) wC (isb_keep HibB.out HcC.out) (by have := HlenC.out; have := HaccB.out; omega) (by have := Hz6.out; have := HblB.out.size; have := HcC.out.size; omega)).mono ?_
          rintro e wD ⟨⟨v, rfl⟩, hib, hblD, hkp⟩
          have HibD := Lib.hid hib
          have HblD := Lib.hid ((HblB.out.trans (HcC.out.below.mono (by have := Hz6.out; have := HblB.out.size; omega))).trans hblD)
          clear hib hblD hkp
          go_wp2_with fail
          go_roundw
          case rel => exact ⟨k + 1, by omega, by go_num, by rw [Htk2.out]; exact HibD.out, HblD.out⟩
          case measure => simp [intOf]; omega
        | false =>
          have Htk2 := Lib.hid (show joinN (rowsF 108 ps 0 (ps.take (k + 1))) = joinN (rowsF 108 ps 0 (ps.take k)) ++ (writF 108 ⟨op, n, sx⟩ ++ [10]) by
            rw [Htk.out, joinN_app, pieceF, if_neg (by rw [ha]; simp)]; simp [joinN])
          have Hr8B := Hr89
          have HavB := Hav9
          have HibB := Hib9
          have HblB := Lib.hid (Hbl.out.trans (Hc9.out.below.mono (by have := Hz6.out; have := Hbl.out.size; omega)))
          have HaccB := Lib.hid (show (joinN (rowsF 108 ps 0 (ps.take k))).length ≤ 300000 from Nat.le_trans (rows_lenT ps (fun x hx => ⟨Hwfa.out x hx, Hst.out x hx⟩) k (by omega)) (by omega))
          clear ha Htk
          obtain ⟨c0, c1, c2⟩ := var3 Hr8B.out
          go_wp2_with fail
          refine (written_any ⟨op, n, sx⟩ Hwf.out (Nat.le_trans (standsS Hstk.out) (by decide)) base w9 HavB.out).mono ?_
          rintro e wC ⟨rfl, hcC⟩
          have HcC := Lib.hid hcC
          have hwl := writF_len (c := 108) Hwf.out Hstk.out
          have hzC : (tx (writF 108 ⟨op, n, sx⟩)).size ≤ 900 := by rw [tx_size]; exact hwl
          have hsC : ¬ 9223372036854775807 < (tx (writF 108 ⟨op, n, sx⟩)).size + 1 := by omega
          have hcatC : tx (writF 108 ⟨op, n, sx⟩) ++ ⟨#[10]⟩ = tx (writF 108 ⟨op, n, sx⟩ ++ [10]) := txCat _ [10]
          have HlenC := Lib.hid (show (writF 108 ⟨op, n, sx⟩ ++ [10]).length ≤ 901 by rw [List.length_append]; simp only [List.length_cons, List.length_nil]; omega)
          clear hcC hwl hzC c0 c1 c2
          go_wp2_with fail
          refine (ws_any b6 b6 _ (writF 108 ⟨op, n, sx⟩ ++ [10]) wC (isb_keep HibB.out HcC.out) (by have := HlenC.out; have := HaccB.out; omega) (by have := Hz6.out; have := HblB.out.size; have := HcC.out.size; omega)).mono ?_
          rintro e wD ⟨⟨v, rfl⟩, hib, hblD, hkp⟩
          have HibD := Lib.hid hib
          have HblD := Lib.hid ((HblB.out.trans (HcC.out.below.mono (by have := Hz6.out; have := HblB.out.size; omega))).trans hblD)
          clear hib hblD hkp
          go_wp2_with fail
          go_roundw
          case rel => exact ⟨k + 1, by omega, by go_num, by rw [Htk2.out]; exact HibD.out, HblD.out⟩
          case measure => simp [intOf]; omega
      · obtain rfl : k = len := by omega
        have Htk := Lib.hid (show ps.take k = ps by rw [Hlen.out]; exact List.take_length)
        have hib := Hib.out
        rw [Htk.out] at hib
        have HB := Lib.hid (Tryd.Builder_String_any b6 b6 _ wr hib (by have := Hz6.out; have := Hbl.out.size; omega))
        clear hib
        go_wp2_with fail
        refine HB.out.mono ?_
        rintro e w' ⟨rfl, hb⟩
        have Hb := Lib.hid hb
        clear hb
        go_wp2_with fail
        go_ret2
        refine ⟨by rw [Hd.out]; rfl, ?_⟩
        have hbl := Hbl.out.trans Hb.out
        have h26 := Hc2.out.trans Ha6.out
        exact ⟨hbl.os.trans h26.os, hbl.tape.trans h26.tape, hbl.output.trans h26.output, Nat.le_trans h26.size hbl.size, fun j hj _ => (hbl.block j (by have := Hx6.out; have := Hc2.out.size; omega)).trans (h26.block j hj id)⟩
  · have h0b : (er != 0) = true := by simp [h0]
    rw [if_pos h0] at Hd
    clear h0
    go_enter Tryd.func14, Tryd.ntmps14
    go_wp2_with fail
    refine HC.out.mono ?_
    rintro e w2 ⟨rfl, hc2⟩
    have Hc2 := Lib.hid hc2
    clear hc2
    go_wp2_with fail
    go_ret2
    exact ⟨by rw [Hd.out]; rfl, Hc2.out⟩
end Go.Proofs.YtaihgciokfkonaaDoor
