/- The contract of the document's Disassemble: the rows, each behind its label where some instruction takes its place. Conditions: the library's variables read as listed; the program has at most 131072 instructions. -/
import Derived.Test.YtaihgciokfkonaaDoorAmDis
import Derived.Test.YtaihgciokfkonaaDoorAmRQuote
import Derived.Test.YtaihgciokfkonaaDoorCdCheckR
import Derived.Deep.QuietTactic
import Derived.BigQuiet

namespace Go.Proofs.YtaihgciokfkonaaDoor
set_option linter.unusedVariables false
open Go.ChangeShapes Go.WideShapes Go.ChangeAt Go.RowKit
/- rows that are no bytes stand -/
def KpU (A B : World) : Prop := ∀ (k : Nat) (cs : Array Value) (t : TypeId), t ≠ 5 → A.heap[k]? = some (.cells cs t (0, 0)) → B.heap[k]? = some (.cells cs t (0, 0))
theorem KpU.own {A B : World} {base n : Nat} {v : Value} {l : List Value} (h : A.ownsRow base 5 1 v n l) (hc : Chg (fun j => v.ownBlock = some j) A B) : KpU A B := fun k cs t ht hk => row_kept hc hk fun e => by
  rcases h.2 with ⟨e3, -⟩ | ⟨g', cap', cur, e3, hb, hh, -⟩
  · rw [e3] at e; cases e
  · rw [e3] at e; cases e
    rw [hh] at hk
    simp only [Option.some.injEq, Obj.cells.injEq] at hk
    exact ht hk.2.1.symm
theorem gluT (a b : List UInt8) : ∃ c, c = a ++ b ∧ tx a ++ tx b = tx c ∧ (tx c).size = c.length ∧ c.length = a.length + b.length := ⟨_, rfl, txCat a b, tx_size _, List.length_append⟩
/- a text put behind bytes of the call's own -/
theorem wpList_str {w : World} {ops : Array Oper} {rest : List Oper} {o : Oper} {a : Act} {Q : Exit → Act → World → Prop} (hgd : o.guard = none) (s x : Operand)
    (ho : o.op = .call { callee := .builtin .append, args := #[s, x], argTypes := #[34, 9] })
    {base n : Nat} {v : Value} {l t : List UInt8} (hs : a.eval s = v) (hx : a.eval x = .string (tx t)) (hn : n = l.length) (hown : w.ownsRow base 5 1 v n (bytesV l)) (hl : n + t.length ≤ 1048576) (hbase : base ≤ w.heap.size)
    (h : ∀ v' w', Own w' base v' (l ++ t) → Chg (fun j => v.ownBlock = some j) w w' → wpList Tryd.prog ops Q rest (a.put o.dst v') w') : wpList Tryd.prog ops Q (o :: rest) a w := by
  obtain ⟨i0, hi, hz0, hz1, hz2⟩ := info_parts u8_info
  have hz := tx_size t
  refine Lib.wpList_append_own_string w hgd s x 34 9 ho base 5 i0 Tryd.underlying34 Tryd.underlying9 hi hz0 hz1 hz2 v n (bytesV l) hs hown (tx t) hx (by unfold maxLen; omega) (by omega) hbase ?_
  intro v' w' h1 h2 _
  refine h v' w' ?_ ((Chg.refl _ w).grown h2 fun j hj => .inl hj)
  have hcells : bytesV l ++ Lib.strCells (tx t) = bytesV (l ++ t) := by simp [bytesV, Lib.strCells, tx]
  unfold Own
  rw [List.length_append, ← hcells, ← hn, ← hz]
  exact h1
def aimT (p : List InsL) (i j : Nat) : Bool := (p.take j).any fun y => decide (takesF y.op = 4) && decide (y.n = (i : Int))
theorem aimT_step {p : List InsL} {i j : Nat} (h : j < p.length) : aimT p i (j + 1) = (aimT p i j || (decide (takesF p[j].op = 4) && decide (p[j].n = (i : Int)))) := by
  unfold aimT
  rw [take_at h, List.any_append]
  simp
theorem aimT_all (p : List InsL) (i : Nat) : aimT p i p.length = aimF p i := by unfold aimT aimF; rw [List.take_length]
/- a call: the world turns, the own bytes and the instruction's box stand -/
/- a text behind the own bytes: acc{A} and T are acc{B} -/
/- the round's end: the feed -/
/- a number behind a blank -/
/- from the word on -/
theorem joinN_two (a b : List UInt8) : joinN [a, b] = a ++ [10] ++ (b ++ [10]) := by simp [joinN]
set_option maxHeartbeats 4000000 in
set_option maxRecDepth 20000 in
theorem rdis_any (ps : List InsL) (S : Nat → Prop) (v : Value) (kb ko : Nat) (base : Nat) (w : World) (h : Lb base w) (hS : ∀ k, S k → k < w.heap.size) (hl : ps.length ≤ 131072) (hs : InsS w S v ps kb ko) : Calls Tryd.prog 15 #[v] w (DisP (disF ps) w) := by
  have HC := Lib.hid (refCheck_any ps S v kb ko w hs)
  have Hok := Lib.hid (fun h => check_ok (p := ps) h)
  have Hd := Lib.hid (show disF ps = if (checkF ps).2 ≠ 0 then ([], (checkF ps).2) else (joinN (rowsF 108 ps 0 ps), 0) from rfl)
  have H := Lib.hid h
  obtain ⟨⟨q, c, rfl, hc1, hc2, hc3⟩, hat⟩ := hs
  obtain ⟨len, hlen⟩ : ∃ n, n = ps.length := ⟨_, rfl⟩
  rw [← hlen] at hc1 HC ⊢
  have Hlen := Lib.hid hlen
  have Hat := Lib.hid hat
  have Hq := Lib.hid hc3
  have HS := Lib.hid hS
  generalize checkF ps = ck at *
  obtain ⟨at', er⟩ := ck
  clear h hat hc3 hS hlen
  by_cases h0 : er = 0
  · have h0b : (er != 0) = false := by simp [h0]
    obtain ⟨-, hne, hle, hst⟩ := Hok.out h0
    rw [if_neg (by simp [h0])] at Hd
    obtain ⟨rfl, hSk⟩ := Hq.out hne
    have hkb := HS.out kb hSk
    have Hst := Lib.hid hst
    have Hwfa := Lib.hid (show ∀ x ∈ ps, x.wf from fun x hx => by obtain ⟨i, hi, rfl⟩ := List.getElem_of_mem hx; exact (Hat.out i hi).1)
    have hle' : len ≤ 256 := by rw [Hlen.out]; exact hle
    have HI := Lib.hid (fun (z : Int) (h0 : -9223372036854775808 ≤ z) (h1 : z ≤ 9223372036854775807) W (hc : Chg NoB w W) => show Calls Tryd.prog 32 #[.int .i64 z] W (SayT (Lib.itoa z) W) from itoa_any z h0 h1 base W (H.out.keep hc))
    have HT := Lib.hid (fun op h0 h1 w => refTakes_any op h0 h1 w)
    have HW := Lib.hid (fun op h0 h1 w => refWord_any op h0 h1 w)
    clear h0 hst hle
    go_enter Tryd.func15, Tryd.ntmps15
    go_wp2_with fail
    refine HC.out.mono ?_
    rintro e w2 ⟨rfl, hc2'⟩
    have Hc2 := Lib.hid hc2'
    clear hc2' HC
    go_wp2_with fail
    go_loopw [6, 22] (fun o iv wr => ∃ k : Nat, k ≤ len ∧ iv = .int .i64 k ∧ Own wr w.heap.size o (joinN (rowsF 108 ps 0 (ps.take k))) ∧ Chg NoB w wr) (fun _ iv _ => len - (intOf iv).toNat)
    case atStart => exact ⟨0, Nat.zero_le _, rfl, World.ownsRow_nil _ _ _ _, Hc2.out⟩
    case round =>
      obtain ⟨k, hk, rfl, ho, hcw⟩ := hrel
      obtain ⟨q0, c0, rfl, -, -, -⟩ := ho.shape
      obtain ⟨acc0, hacc⟩ : ∃ z, z = joinN (rowsF 108 ps 0 (ps.take k)) := ⟨_, rfl⟩
      rw [← hacc] at ho ⊢
      obtain ⟨n0, hn0⟩ : ∃ n, n = acc0.length := ⟨_, rfl⟩
      unfold Own at ho
      rw [← hn0] at ho ⊢
      have Ho0 := Lib.hid ho
      have Hn0 := Lib.hid hn0
      have Ha0 := Lib.hid hacc
      have Hcw := Lib.hid hcw
      have Hl0 := Lib.hid (show acc0.length ≤ 256000 from by rw [hacc]; exact Nat.le_trans (rows_lenT ps (fun x hx => ⟨Hwfa.out x hx, Hst.out x hx⟩) k (by omega)) (by omega))
      clear ho hn0 hacc hcw
      by_cases hlt : k < len
      · have hkl : k < ps.length := by rw [← Hlen.out]; exact hlt
        obtain ⟨hwf, p0, p1, p2⟩ := Hat.out k hkl
        have Hwf := Lib.hid hwf
        have Htk := Lib.hid (show rowsF 108 ps 0 (ps.take (k + 1)) = rowsF 108 ps 0 (ps.take k) ++ pieceF 108 ps k ps[k] by
          rw [take_at hkl, rowsF_snoc]
          rw [List.length_take, Nat.min_eq_left (by omega), Nat.zero_add])
        replace p0 := Hcw.out.keep p0
        replace p1 := Hcw.out.keep p1
        replace p2 := Hcw.out.keep p2
        have Hstk := Lib.hid (Hst.out ps[k] (List.getElem_mem hkl))
        generalize ps[k] = x at *
        obtain ⟨op, n, sx⟩ := x
        simp only at p0 p1 p2
        clear hwf
        have hal_ := (Chg.refl NoB wr).alloc (.cells #[.int .i64 op, .int .i64 n, .string (tx sx)] 38)
        have hb_ := heap_alloc_new wr (.cells #[.int .i64 op, .int .i64 n, .string (tx sx)] 38)
        obtain ⟨b8, hxb_⟩ : ∃ b, b = wr.heap.size := ⟨_, rfl⟩
        obtain ⟨w8, hw_⟩ : ∃ w_, wr.alloc (.cells #[.int .i64 op, .int .i64 n, .string (tx sx)] 38) = w_ := ⟨_, rfl⟩
        have hz_ : w8.heap.size = b8 + 1 := by rw [← hw_, hxb_]; exact alloc_size _ _
        rw [hw_] at hal_ hb_
        rw [← hxb_] at hb_
        have Hw8 := Lib.hid hw_
        have Hx8 := Lib.hid hxb_
        have Ha8 := Lib.hid hal_
        have Hb8 := Lib.hid hb_
        have Hz8 := Lib.hid hz_
        clear hal_ hb_ hxb_ hw_ hz_
        have Ho8 := Lib.hid (ownsRow_chg Ho0.out Ha8.out fun _ _ => id)
        have Hc8 := Lib.hid (Hcw.out.trans Ha8.out)
        go_upto_region 8 with fail
        rw [Hw8.out, ← Hx8.out]
        clear p0 p1 p2
        go_wp2_with fail
        go_loopw [9, 29] (fun b iv wr => ∃ j : Nat, j ≤ len ∧ iv = .int .i64 j ∧ b = .bool (aimT ps k j) ∧ Chg NoB w8 wr) (fun _ iv _ => len - (intOf iv).toNat)
        case atStart => exact ⟨0, Nat.zero_le _, rfl, rfl, Chg.refl _ _⟩
        case round =>
          obtain ⟨j, hj, rfl, rfl, hcj⟩ := hrel
          have Hcj := Lib.hid hcj
          clear hcj
          by_cases hjt : j < len
          · have hjl : j < ps.length := by rw [← Hlen.out]; exact hjt
            obtain ⟨hwf, p0, p1, p2⟩ := Hat.out j hjl
            have hwb := hwf.1
            have Hcj0 := Lib.hid (Hc8.out.trans Hcj.out)
            replace p0 := Hcj0.out.keep p0
            replace p1 := Hcj0.out.keep p1
            replace p2 := Hcj0.out.keep p2
            have Hstep := Lib.hid (aimT_step (i := k) hjl)
            generalize ps[j] = y at *
            obtain ⟨oy, ny, sy⟩ := y
            simp only at p0 p1 p2 hwb Hstep
            have hal_ := (Chg.refl NoB wr).alloc (.cells #[.int .i64 oy, .int .i64 ny, .string (tx sy)] 38)
            have hb_ := heap_alloc_new wr (.cells #[.int .i64 oy, .int .i64 ny, .string (tx sy)] 38)
            obtain ⟨b11, hxb_⟩ : ∃ b, b = wr.heap.size := ⟨_, rfl⟩
            obtain ⟨w11, hw_⟩ : ∃ w_, wr.alloc (.cells #[.int .i64 oy, .int .i64 ny, .string (tx sy)] 38) = w_ := ⟨_, rfl⟩
            have hz_ : w11.heap.size = b11 + 1 := by rw [← hw_, hxb_]; exact alloc_size _ _
            rw [hw_] at hal_ hb_
            rw [← hxb_] at hb_
            have Hw11 := Lib.hid hw_
            have Hx11 := Lib.hid hxb_
            have Ha11 := Lib.hid hal_
            have Hb11 := Lib.hid hb_
            have Hz11 := Lib.hid hz_
            clear hal_ hb_ hxb_ hw_ hz_
            obtain ⟨d0, d1, d2⟩ := var3 Hb11.out
            have HTy := Lib.hid (HT.out oy hwb.1 hwb.2 w11)
            have Hcy := Lib.hid (Hcj.out.trans Ha11.out)
            clear hwf hwb
            go_upto_region 12 with fail
            rw [Hw11.out, ← Hx11.out]
            clear p0 p1 p2
            by_cases ha : aimT ps k j = true
            · rw [ha]
              have Hs2 := Lib.hid (show aimT ps k (j + 1) = true by rw [Hstep.out, ha]; rfl)
              go_wp2_with fail
              go_roundw
              case rel => exact ⟨j + 1, by omega, by go_num, by rw [Hs2.out], Hcy.out⟩
              case measure => simp [intOf]; omega
            · replace ha : aimT ps k j = false := by simpa using ha
              rw [ha]
              go_wp2_with fail
              refine HTy.out.mono ?_
              rintro e w12 ⟨rfl, hc12⟩
              have Hc12 := Lib.hid (Hcy.out.trans hc12)
              obtain ⟨z0, z1, z2⟩ := var3 (row_kept hc12 Hb11.out id)
              clear hc12 d0 d1 d2
              by_cases h4 : takesF oy = 4
              · rw [h4]
                by_cases hny : ny = (k : Int)
                · have Hs2 := Lib.hid (show aimT ps k (j + 1) = true by rw [Hstep.out, ha, h4, hny]; simp)
                  have hnb : (ny == (k : Int)) = true := by simp [hny]
                  clear hny
                  go_wp2_with fail
                  go_roundw
                  case rel => exact ⟨j + 1, by omega, by go_num, by rw [Hs2.out], Hc12.out⟩
                  case measure => simp [intOf]; omega
                · have Hs2 := Lib.hid (show aimT ps k (j + 1) = false by rw [Hstep.out, ha]; simp [hny])
                  have hnb : (ny == (k : Int)) = false := by simp [hny]
                  clear hny
                  go_wp2_with fail
                  go_roundw
                  case rel => exact ⟨j + 1, by omega, by go_num, by rw [Hs2.out], Hc12.out⟩
                  case measure => simp [intOf]; omega
              · have Hs2 := Lib.hid (show aimT ps k (j + 1) = false by rw [Hstep.out, ha]; simp [h4])
                have h4b : (takesF oy == 4) = false := by simp [h4]
                clear h4
                go_wp2_with fail
                go_roundw
                case rel => exact ⟨j + 1, by omega, by go_num, by rw [Hs2.out], Hc12.out⟩
                case measure => simp [intOf]; omega
          · obtain rfl : j = len := by omega
            have hall : aimT ps k j = aimF ps k := by rw [Hlen.out]; exact aimT_all ps k
            rw [hall]
            clear hall hjt
            have Hcwr := Lib.hid (Hc8.out.trans Hcj.out)
            have Howr := Lib.hid (ownsRow_chg Ho8.out Hcj.out fun _ _ => id)
            have Hrwr := Lib.hid (row_kept Hcj.out Hb8.out id)
            obtain ⟨o0, o1⟩ := Hwf.out.1
            obtain ⟨m0, m1⟩ := Hwf.out.2.1
            obtain ⟨u0, u1, u2⟩ := var3 Hrwr.out
            simp only at o0 o1 m0 m1
            cases ha : aimF ps k with
            | true =>
              have Hpre0 := Lib.hid (show joinN (rowsF 108 ps 0 (ps.take (k + 1))) = acc0 ++ (labT 108 (k : Int) ++ [58, 10]) ++ writF 108 ⟨op, n, sx⟩ ++ [10] by
                rw [Htk.out, joinN_app, pieceF, if_pos ha, Ha0.out, List.singleton_append, joinN_two]; simp)
              clear ha Htk
              go_wp2_with fail
              refine (HI.out (k : Int) (by omega) (by omega) _ Hcwr.out).mono ?_
              rintro e wA ⟨rfl, hc_⟩
              have HcwA := Lib.hid (Hcwr.out.trans hc_)
              have HowA := Lib.hid (ownsRow_chg Howr.out hc_ fun _ _ => id)
              have HrwA := Lib.hid (row_kept hc_ Hrwr.out id)
              obtain ⟨u0wA, u1wA, u2wA⟩ := var3 HrwA.out
              clear hc_
              have hI0 := Lib.itoa_length_le (k : Int) (by omega) (by omega)
              have Hlab := Lib.hid (show labT 108 (k : Int) = [108] ++ Lib.itoa (k : Int) from rfl)
              generalize Lib.itoa (k : Int) = I at *
              have zI := tx_size I
              obtain ⟨tA, eA, cA, zA, lA⟩ := gluT [108] I
              replace cA : (⟨#[108]⟩ : ByteArray) ++ tx I = tx tA := cA
              replace lA : tA.length = 1 + I.length := lA
              obtain ⟨tB, eB, cB, zB, lB⟩ := gluT tA [58, 10]
              replace cB : tx tA ++ (⟨#[58, 10]⟩ : ByteArray) = tx tB := cB
              replace lB : tB.length = tA.length + 2 := lB
              have EB := Lib.hid (show tB = labT 108 (k : Int) ++ [58, 10] by rw [eB, eA, Hlab.out])
              clear eA eB
              go_wp2_with (at_builtin; go_loud (refine wpList_str (t := tB) (v := .slice q0 n0 c0) (l := acc0) rfl _ _ rfl rfl rfl Hn0.out HowA.out (by have := Hl0.out; have := Hn0.out; omega) HcwA.out.size ?_); intro v1 wB h1 hc1; obtain ⟨q1, c1, rfl, -, -, -⟩ := h1.shape; obtain ⟨acc1, ha1⟩ : ∃ z, z = acc0 ++ tB := ⟨_, rfl⟩; rw [← ha1] at h1 ⊢; obtain ⟨n1, hn1⟩ : ∃ n, n = acc1.length := ⟨_, rfl⟩; have HowB := Lib.hid (show (wB).ownsRow w.heap.size 5 1 (.slice q1 n1 c1) n1 (bytesV acc1) by rw [hn1]; exact h1); rw [← hn1]; have Hn1 := Lib.hid hn1; have Ha1 := Lib.hid ha1; have HcwB := Lib.hid (HcwA.out.above hc1 fun k e => (World.ownsRow.lt HowA.out k e).1); have HrwB := Lib.hid (KpU.own HowA.out hc1 _ _ _ (by decide) HrwA.out); obtain ⟨u0wB, u1wB, u2wB⟩ := var3 HrwB.out; clear ha1 hn1 h1 hc1)
              have Hl1 := Lib.hid (show acc1.length ≤ 257000 by rw [Ha1.out, List.length_append]; have := Hl0.out; omega)
              have Hpre := Lib.hid (show joinN (rowsF 108 ps 0 (ps.take (k + 1))) = acc1 ++ writF 108 ⟨op, n, sx⟩ ++ [10] by rw [Hpre0.out, Ha1.out, EB.out])
              clear zA lA zB lB cA cB
              refine (HW.out op o0 o1 wB).mono ?_
              rintro e wC ⟨rfl, hc_⟩
              have HcwC := Lib.hid (HcwB.out.trans hc_)
              have HowC := Lib.hid (ownsRow_chg HowB.out hc_ fun _ _ => id)
              have HrwC := Lib.hid (row_kept hc_ HrwB.out id)
              obtain ⟨u0wC, u1wC, u2wC⟩ := var3 HrwC.out
              clear hc_
              have wl := wordL_len op
              obtain ⟨wd, hwd⟩ : ∃ z, wordL op = z := ⟨_, rfl⟩
              rw [hwd] at wl ⊢
              have Hwd := Lib.hid hwd
              have zwd := tx_size wd
              clear hwd
              go_wp2_with (at_builtin; go_loud (refine wpList_str (t := wd) (v := .slice q1 n1 c1) (l := acc1) rfl _ _ rfl rfl rfl Hn1.out HowC.out (by have := Hl1.out; have := Hn1.out; omega) HcwC.out.size ?_); intro v5 wD h5 hc5; obtain ⟨q5, c5, rfl, -, -, -⟩ := h5.shape; obtain ⟨acc5, ha5⟩ : ∃ z, z = acc1 ++ wd := ⟨_, rfl⟩; rw [← ha5] at h5 ⊢; obtain ⟨n5, hn5⟩ : ∃ n, n = acc5.length := ⟨_, rfl⟩; have HowD := Lib.hid (show (wD).ownsRow w.heap.size 5 1 (.slice q5 n5 c5) n5 (bytesV acc5) by rw [hn5]; exact h5); rw [← hn5]; have Hn5 := Lib.hid hn5; have Ha5 := Lib.hid ha5; have HcwD := Lib.hid (HcwC.out.above hc5 fun k e => (World.ownsRow.lt HowC.out k e).1); have HrwD := Lib.hid (KpU.own HowC.out hc5 _ _ _ (by decide) HrwC.out); obtain ⟨u0wD, u1wD, u2wD⟩ := var3 HrwD.out; clear ha5 hn5 h5 hc5)
              have Hl5 := Lib.hid (show acc5.length ≤ 258000 by rw [Ha5.out, List.length_append]; have := Hl1.out; omega)
              refine (HT.out op o0 o1 wD).mono ?_
              rintro e wE ⟨rfl, hc_⟩
              have HcwE := Lib.hid (HcwD.out.trans hc_)
              have HowE := Lib.hid (ownsRow_chg HowD.out hc_ fun _ _ => id)
              have HrwE := Lib.hid (row_kept hc_ HrwD.out id)
              obtain ⟨u0wE, u1wE, u2wE⟩ := var3 HrwE.out
              clear hc_
              by_cases t1 : takesF op = 1
              · skip
                rw [t1]
                go_wp2_with fail
                refine (HI.out n m0 m1 _ HcwE.out).mono ?_
                rintro e wF ⟨rfl, hc_⟩
                have HcwF := Lib.hid (HcwE.out.trans hc_)
                have HowF := Lib.hid (ownsRow_chg HowE.out hc_ fun _ _ => id)
                have HrwF := Lib.hid (row_kept hc_ HrwE.out id)
                obtain ⟨u0wF, u1wF, u2wF⟩ := var3 HrwF.out
                clear hc_
                have hJ0 := Lib.itoa_length_le n m0 m1
                have Hwr := Lib.hid (show writF 108 ⟨op, n, sx⟩ = wordL op ++ ([32] ++ Lib.itoa n) by (unfold writF; simp only [t1]; rfl))
                generalize Lib.itoa n = J at *
                have zJ := tx_size J
                obtain ⟨tG, eG, cG, zG, lG⟩ := gluT [32] J
                replace cG : (⟨#[32]⟩ : ByteArray) ++ tx J = tx tG := cG
                replace lG : tG.length = 1 + J.length := lG
                have EG := Lib.hid eG
                clear eG
                go_upto_region 25 with (at_builtin; go_loud (refine wpList_str (t := tG) (v := .slice q5 n5 c5) (l := acc5) rfl _ _ rfl rfl rfl Hn5.out HowF.out (by have := Hl5.out; have := Hn5.out; omega) HcwF.out.size ?_); intro v6 wG h6 hc6; obtain ⟨q6, c6, rfl, -, -, -⟩ := h6.shape; obtain ⟨acc6, ha6⟩ : ∃ z, z = acc5 ++ tG := ⟨_, rfl⟩; rw [← ha6] at h6 ⊢; obtain ⟨n6, hn6⟩ : ∃ n, n = acc6.length := ⟨_, rfl⟩; have HowG := Lib.hid (show (wG).ownsRow w.heap.size 5 1 (.slice q6 n6 c6) n6 (bytesV acc6) by rw [hn6]; exact h6); rw [← hn6]; have Hn6 := Lib.hid hn6; have Ha6 := Lib.hid ha6; have HcwG := Lib.hid (HcwF.out.above hc6 fun k e => (World.ownsRow.lt HowF.out k e).1); have HrwG := Lib.hid (KpU.own HowF.out hc6 _ _ _ (by decide) HrwF.out); obtain ⟨u0wG, u1wG, u2wG⟩ := var3 HrwG.out; clear ha6 hn6 h6 hc6)
                have Hl6 := Lib.hid (show acc6.length ≤ 260000 by rw [Ha6.out, List.length_append]; have := Hl5.out; omega)
                have Hfin := Lib.hid (show joinN (rowsF 108 ps 0 (ps.take (k + 1))) = acc6 ++ [10] by (rw [Hpre.out, Hwr.out, Hwd.out, Ha6.out, EG.out, Ha5.out]; simp only [List.append_assoc]))
                have hal_ := (Chg.refl NoB wG).alloc (.cells #[.int .u8 10] 5)
                have hb_ := heap_alloc_new wG (.cells #[.int .u8 10] 5)
                obtain ⟨b9, hxb_⟩ : ∃ b, b = wG.heap.size := ⟨_, rfl⟩
                obtain ⟨w9, hw_⟩ : ∃ w_, wG.alloc (.cells #[.int .u8 10] 5) = w_ := ⟨_, rfl⟩
                have hz_ : w9.heap.size = b9 + 1 := by rw [← hw_, hxb_]; exact alloc_size _ _
                rw [hw_] at hal_ hb_
                rw [← hxb_] at hb_
                have Hw9 := Lib.hid hw_
                have Hx9 := Lib.hid hxb_
                have Ha9 := Lib.hid hal_
                have Hb9 := Lib.hid hb_
                have Hz9 := Lib.hid hz_
                clear hal_ hb_ hxb_ hw_ hz_
                have Ho9 := Lib.hid (ownsRow_chg HowG.out Ha9.out fun _ _ => id)
                have Hbase := Lib.hid (Nat.le_trans HcwG.out.size Ha9.out.size)
                go_wp2_with (at_builtin; go_loud (rw [← Hx9.out, Hw9.out]); go_loud (refine wpList_lit (m := 1) (v := .slice q6 n6 c6) (ys := [10]) rfl _ _ rfl rfl rfl rfl Hn6.out Ho9.out Hb9.out (by have := Hl6.out; have := Hn6.out; omega) Hbase.out ?_); intro v9 wZ h9 hc9)
                go_roundw
                case rel => exact ⟨k + 1, by omega, by go_num, by rw [Hfin.out]; exact h9, (HcwG.out.trans Ha9.out).above hc9 fun j hj => (World.ownsRow.lt Ho9.out j hj).1⟩
                case measure => simp [intOf]; omega
              by_cases t3 : takesF op = 3
              · skip
                rw [t3]
                go_wp2_with fail
                refine (HI.out n m0 m1 _ HcwE.out).mono ?_
                rintro e wF ⟨rfl, hc_⟩
                have HcwF := Lib.hid (HcwE.out.trans hc_)
                have HowF := Lib.hid (ownsRow_chg HowE.out hc_ fun _ _ => id)
                have HrwF := Lib.hid (row_kept hc_ HrwE.out id)
                obtain ⟨u0wF, u1wF, u2wF⟩ := var3 HrwF.out
                clear hc_
                have hJ0 := Lib.itoa_length_le n m0 m1
                have Hwr := Lib.hid (show writF 108 ⟨op, n, sx⟩ = wordL op ++ ([32] ++ Lib.itoa n) by (unfold writF; simp only [t3]; rfl))
                generalize Lib.itoa n = J at *
                have zJ := tx_size J
                obtain ⟨tG, eG, cG, zG, lG⟩ := gluT [32] J
                replace cG : (⟨#[32]⟩ : ByteArray) ++ tx J = tx tG := cG
                replace lG : tG.length = 1 + J.length := lG
                have EG := Lib.hid eG
                clear eG
                go_upto_region 25 with (at_builtin; go_loud (refine wpList_str (t := tG) (v := .slice q5 n5 c5) (l := acc5) rfl _ _ rfl rfl rfl Hn5.out HowF.out (by have := Hl5.out; have := Hn5.out; omega) HcwF.out.size ?_); intro v6 wG h6 hc6; obtain ⟨q6, c6, rfl, -, -, -⟩ := h6.shape; obtain ⟨acc6, ha6⟩ : ∃ z, z = acc5 ++ tG := ⟨_, rfl⟩; rw [← ha6] at h6 ⊢; obtain ⟨n6, hn6⟩ : ∃ n, n = acc6.length := ⟨_, rfl⟩; have HowG := Lib.hid (show (wG).ownsRow w.heap.size 5 1 (.slice q6 n6 c6) n6 (bytesV acc6) by rw [hn6]; exact h6); rw [← hn6]; have Hn6 := Lib.hid hn6; have Ha6 := Lib.hid ha6; have HcwG := Lib.hid (HcwF.out.above hc6 fun k e => (World.ownsRow.lt HowF.out k e).1); have HrwG := Lib.hid (KpU.own HowF.out hc6 _ _ _ (by decide) HrwF.out); obtain ⟨u0wG, u1wG, u2wG⟩ := var3 HrwG.out; clear ha6 hn6 h6 hc6)
                have Hl6 := Lib.hid (show acc6.length ≤ 260000 by rw [Ha6.out, List.length_append]; have := Hl5.out; omega)
                have Hfin := Lib.hid (show joinN (rowsF 108 ps 0 (ps.take (k + 1))) = acc6 ++ [10] by (rw [Hpre.out, Hwr.out, Hwd.out, Ha6.out, EG.out, Ha5.out]; simp only [List.append_assoc]))
                have hal_ := (Chg.refl NoB wG).alloc (.cells #[.int .u8 10] 5)
                have hb_ := heap_alloc_new wG (.cells #[.int .u8 10] 5)
                obtain ⟨b9, hxb_⟩ : ∃ b, b = wG.heap.size := ⟨_, rfl⟩
                obtain ⟨w9, hw_⟩ : ∃ w_, wG.alloc (.cells #[.int .u8 10] 5) = w_ := ⟨_, rfl⟩
                have hz_ : w9.heap.size = b9 + 1 := by rw [← hw_, hxb_]; exact alloc_size _ _
                rw [hw_] at hal_ hb_
                rw [← hxb_] at hb_
                have Hw9 := Lib.hid hw_
                have Hx9 := Lib.hid hxb_
                have Ha9 := Lib.hid hal_
                have Hb9 := Lib.hid hb_
                have Hz9 := Lib.hid hz_
                clear hal_ hb_ hxb_ hw_ hz_
                have Ho9 := Lib.hid (ownsRow_chg HowG.out Ha9.out fun _ _ => id)
                have Hbase := Lib.hid (Nat.le_trans HcwG.out.size Ha9.out.size)
                go_wp2_with (at_builtin; go_loud (rw [← Hx9.out, Hw9.out]); go_loud (refine wpList_lit (m := 1) (v := .slice q6 n6 c6) (ys := [10]) rfl _ _ rfl rfl rfl rfl Hn6.out Ho9.out Hb9.out (by have := Hl6.out; have := Hn6.out; omega) Hbase.out ?_); intro v9 wZ h9 hc9)
                go_roundw
                case rel => exact ⟨k + 1, by omega, by go_num, by rw [Hfin.out]; exact h9, (HcwG.out.trans Ha9.out).above hc9 fun j hj => (World.ownsRow.lt Ho9.out j hj).1⟩
                case measure => simp [intOf]; omega
              by_cases t4 : takesF op = 4
              · skip
                rw [t4]
                go_wp2_with fail
                refine (HI.out n m0 m1 _ HcwE.out).mono ?_
                rintro e wF ⟨rfl, hc_⟩
                have HcwF := Lib.hid (HcwE.out.trans hc_)
                have HowF := Lib.hid (ownsRow_chg HowE.out hc_ fun _ _ => id)
                have HrwF := Lib.hid (row_kept hc_ HrwE.out id)
                obtain ⟨u0wF, u1wF, u2wF⟩ := var3 HrwF.out
                clear hc_
                have hJ0 := Lib.itoa_length_le n m0 m1
                have Hwr := Lib.hid (show writF 108 ⟨op, n, sx⟩ = wordL op ++ ([32, 108] ++ Lib.itoa n) by (unfold writF; simp only [t4]; rfl))
                generalize Lib.itoa n = J at *
                have zJ := tx_size J
                obtain ⟨tG, eG, cG, zG, lG⟩ := gluT [32, 108] J
                replace cG : (⟨#[32, 108]⟩ : ByteArray) ++ tx J = tx tG := cG
                replace lG : tG.length = 2 + J.length := lG
                have EG := Lib.hid eG
                clear eG
                go_upto_region 25 with (at_builtin; go_loud (refine wpList_str (t := tG) (v := .slice q5 n5 c5) (l := acc5) rfl _ _ rfl rfl rfl Hn5.out HowF.out (by have := Hl5.out; have := Hn5.out; omega) HcwF.out.size ?_); intro v6 wG h6 hc6; obtain ⟨q6, c6, rfl, -, -, -⟩ := h6.shape; obtain ⟨acc6, ha6⟩ : ∃ z, z = acc5 ++ tG := ⟨_, rfl⟩; rw [← ha6] at h6 ⊢; obtain ⟨n6, hn6⟩ : ∃ n, n = acc6.length := ⟨_, rfl⟩; have HowG := Lib.hid (show (wG).ownsRow w.heap.size 5 1 (.slice q6 n6 c6) n6 (bytesV acc6) by rw [hn6]; exact h6); rw [← hn6]; have Hn6 := Lib.hid hn6; have Ha6 := Lib.hid ha6; have HcwG := Lib.hid (HcwF.out.above hc6 fun k e => (World.ownsRow.lt HowF.out k e).1); have HrwG := Lib.hid (KpU.own HowF.out hc6 _ _ _ (by decide) HrwF.out); obtain ⟨u0wG, u1wG, u2wG⟩ := var3 HrwG.out; clear ha6 hn6 h6 hc6)
                have Hl6 := Lib.hid (show acc6.length ≤ 260000 by rw [Ha6.out, List.length_append]; have := Hl5.out; omega)
                have Hfin := Lib.hid (show joinN (rowsF 108 ps 0 (ps.take (k + 1))) = acc6 ++ [10] by (rw [Hpre.out, Hwr.out, Hwd.out, Ha6.out, EG.out, Ha5.out]; simp only [List.append_assoc]))
                have hal_ := (Chg.refl NoB wG).alloc (.cells #[.int .u8 10] 5)
                have hb_ := heap_alloc_new wG (.cells #[.int .u8 10] 5)
                obtain ⟨b9, hxb_⟩ : ∃ b, b = wG.heap.size := ⟨_, rfl⟩
                obtain ⟨w9, hw_⟩ : ∃ w_, wG.alloc (.cells #[.int .u8 10] 5) = w_ := ⟨_, rfl⟩
                have hz_ : w9.heap.size = b9 + 1 := by rw [← hw_, hxb_]; exact alloc_size _ _
                rw [hw_] at hal_ hb_
                rw [← hxb_] at hb_
                have Hw9 := Lib.hid hw_
                have Hx9 := Lib.hid hxb_
                have Ha9 := Lib.hid hal_
                have Hb9 := Lib.hid hb_
                have Hz9 := Lib.hid hz_
                clear hal_ hb_ hxb_ hw_ hz_
                have Ho9 := Lib.hid (ownsRow_chg HowG.out Ha9.out fun _ _ => id)
                have Hbase := Lib.hid (Nat.le_trans HcwG.out.size Ha9.out.size)
                go_wp2_with (at_builtin; go_loud (rw [← Hx9.out, Hw9.out]); go_loud (refine wpList_lit (m := 1) (v := .slice q6 n6 c6) (ys := [10]) rfl _ _ rfl rfl rfl rfl Hn6.out Ho9.out Hb9.out (by have := Hl6.out; have := Hn6.out; omega) Hbase.out ?_); intro v9 wZ h9 hc9)
                go_roundw
                case rel => exact ⟨k + 1, by omega, by go_num, by rw [Hfin.out]; exact h9, (HcwG.out.trans Ha9.out).above hc9 fun j hj => (World.ownsRow.lt Ho9.out j hj).1⟩
                case measure => simp [intOf]; omega
              by_cases t2 : takesF op = 2
              · skip
                rw [t2]
                have Hwr := Lib.hid (show writF 108 ⟨op, n, sx⟩ = wordL op ++ ([32] ++ quoF sx) by (unfold writF; simp only [t2]; rfl))
                go_wp2_with fail
                refine (quoted_any sx wE (by have := standsS Hstk.out; simp only at this; omega)).mono ?_
                rintro e wF ⟨rfl, hc_⟩
                have HcwF := Lib.hid (HcwE.out.trans hc_)
                have HowF := Lib.hid (ownsRow_chg HowE.out hc_ fun _ _ => id)
                have HrwF := Lib.hid (row_kept hc_ HrwE.out id)
                obtain ⟨u0wF, u1wF, u2wF⟩ := var3 HrwF.out
                clear hc_
                have hJ0 := quoF_len sx
                have hJ1 := standsS Hstk.out
                simp only at hJ1
                generalize quoF sx = J at *
                have zJ := tx_size J
                obtain ⟨tG, eG, cG, zG, lG⟩ := gluT [32] J
                replace cG : (⟨#[32]⟩ : ByteArray) ++ tx J = tx tG := cG
                replace lG : tG.length = 1 + J.length := lG
                have EG := Lib.hid eG
                clear eG
                go_upto_region 25 with (at_builtin; go_loud (refine wpList_str (t := tG) (v := .slice q5 n5 c5) (l := acc5) rfl _ _ rfl rfl rfl Hn5.out HowF.out (by have := Hl5.out; have := Hn5.out; omega) HcwF.out.size ?_); intro v6 wG h6 hc6; obtain ⟨q6, c6, rfl, -, -, -⟩ := h6.shape; obtain ⟨acc6, ha6⟩ : ∃ z, z = acc5 ++ tG := ⟨_, rfl⟩; rw [← ha6] at h6 ⊢; obtain ⟨n6, hn6⟩ : ∃ n, n = acc6.length := ⟨_, rfl⟩; have HowG := Lib.hid (show (wG).ownsRow w.heap.size 5 1 (.slice q6 n6 c6) n6 (bytesV acc6) by rw [hn6]; exact h6); rw [← hn6]; have Hn6 := Lib.hid hn6; have Ha6 := Lib.hid ha6; have HcwG := Lib.hid (HcwF.out.above hc6 fun k e => (World.ownsRow.lt HowF.out k e).1); have HrwG := Lib.hid (KpU.own HowF.out hc6 _ _ _ (by decide) HrwF.out); obtain ⟨u0wG, u1wG, u2wG⟩ := var3 HrwG.out; clear ha6 hn6 h6 hc6)
                have Hl6 := Lib.hid (show acc6.length ≤ 260000 by rw [Ha6.out, List.length_append]; have := Hl5.out; omega)
                have Hfin := Lib.hid (show joinN (rowsF 108 ps 0 (ps.take (k + 1))) = acc6 ++ [10] by (rw [Hpre.out, Hwr.out, Hwd.out, Ha6.out, EG.out, Ha5.out]; simp only [List.append_assoc]))
                have hal_ := (Chg.refl NoB wG).alloc (.cells #[.int .u8 10] 5)
                have hb_ := heap_alloc_new wG (.cells #[.int .u8 10] 5)
                obtain ⟨b9, hxb_⟩ : ∃ b, b = wG.heap.size := ⟨_, rfl⟩
                obtain ⟨w9, hw_⟩ : ∃ w_, wG.alloc (.cells #[.int .u8 10] 5) = w_ := ⟨_, rfl⟩
                have hz_ : w9.heap.size = b9 + 1 := by rw [← hw_, hxb_]; exact alloc_size _ _
                rw [hw_] at hal_ hb_
                rw [← hxb_] at hb_
                have Hw9 := Lib.hid hw_
                have Hx9 := Lib.hid hxb_
                have Ha9 := Lib.hid hal_
                have Hb9 := Lib.hid hb_
                have Hz9 := Lib.hid hz_
                clear hal_ hb_ hxb_ hw_ hz_
                have Ho9 := Lib.hid (ownsRow_chg HowG.out Ha9.out fun _ _ => id)
                have Hbase := Lib.hid (Nat.le_trans HcwG.out.size Ha9.out.size)
                go_wp2_with (at_builtin; go_loud (rw [← Hx9.out, Hw9.out]); go_loud (refine wpList_lit (m := 1) (v := .slice q6 n6 c6) (ys := [10]) rfl _ _ rfl rfl rfl rfl Hn6.out Ho9.out Hb9.out (by have := Hl6.out; have := Hn6.out; omega) Hbase.out ?_); intro v9 wZ h9 hc9)
                go_roundw
                case rel => exact ⟨k + 1, by omega, by go_num, by rw [Hfin.out]; exact h9, (HcwG.out.trans Ha9.out).above hc9 fun j hj => (World.ownsRow.lt Ho9.out j hj).1⟩
                case measure => simp [intOf]; omega
              have Hwr := Lib.hid (show writF 108 ⟨op, n, sx⟩ = wordL op by (unfold writF; simp only; rw [if_neg (by rintro (h | h); exact t1 h; exact t3 h), if_neg t2, if_neg t4, List.append_nil]))
              have f1 : (takesF op == 1) = false := by simpa using t1
              have f2 : (takesF op == 2) = false := by simpa using t2
              have f3 : (takesF op == 3) = false := by simpa using t3
              have f4 : (takesF op == 4) = false := by simpa using t4
              clear t1 t2 t3 t4
              go_upto_region 25 with fail
              have Hfin := Lib.hid (show joinN (rowsF 108 ps 0 (ps.take (k + 1))) = acc5 ++ [10] by (rw [Hpre.out, Hwr.out, Hwd.out, Ha5.out]))
              have hal_ := (Chg.refl NoB wE).alloc (.cells #[.int .u8 10] 5)
              have hb_ := heap_alloc_new wE (.cells #[.int .u8 10] 5)
              obtain ⟨b9, hxb_⟩ : ∃ b, b = wE.heap.size := ⟨_, rfl⟩
              obtain ⟨w9, hw_⟩ : ∃ w_, wE.alloc (.cells #[.int .u8 10] 5) = w_ := ⟨_, rfl⟩
              have hz_ : w9.heap.size = b9 + 1 := by rw [← hw_, hxb_]; exact alloc_size _ _
              rw [hw_] at hal_ hb_
              rw [← hxb_] at hb_
              have Hw9 := Lib.hid hw_
              have Hx9 := Lib.hid hxb_
              have Ha9 := Lib.hid hal_
              have Hb9 := Lib.hid hb_
              have Hz9 := Lib.hid hz_
              clear hal_ hb_ hxb_ hw_ hz_
              have Ho9 := Lib.hid (ownsRow_chg HowE.out Ha9.out fun _ _ => id)
              have Hbase := Lib.hid (Nat.le_trans HcwE.out.size Ha9.out.size)
              go_wp2_with (at_builtin; go_loud (rw [← Hx9.out, Hw9.out]); go_loud (refine wpList_lit (m := 1) (v := .slice q5 n5 c5) (ys := [10]) rfl _ _ rfl rfl rfl rfl Hn5.out Ho9.out Hb9.out (by have := Hl5.out; have := Hn5.out; omega) Hbase.out ?_); intro v9 wZ h9 hc9)
              go_roundw
              case rel => exact ⟨k + 1, by omega, by go_num, by rw [Hfin.out]; exact h9, (HcwE.out.trans Ha9.out).above hc9 fun j hj => (World.ownsRow.lt Ho9.out j hj).1⟩
              case measure => simp [intOf]; omega
            | false =>
              have Hpre := Lib.hid (show joinN (rowsF 108 ps 0 (ps.take (k + 1))) = acc0 ++ writF 108 ⟨op, n, sx⟩ ++ [10] by
                rw [Htk.out, joinN_app, pieceF, if_neg (by rw [ha]; simp), Ha0.out]; simp [joinN])
              clear ha Htk
              go_wp2_with fail
              refine (HW.out op o0 o1 wr).mono ?_
              rintro e wC ⟨rfl, hc_⟩
              have HcwC := Lib.hid (Hcwr.out.trans hc_)
              have HowC := Lib.hid (ownsRow_chg Howr.out hc_ fun _ _ => id)
              have HrwC := Lib.hid (row_kept hc_ Hrwr.out id)
              obtain ⟨u0wC, u1wC, u2wC⟩ := var3 HrwC.out
              clear hc_
              have wl := wordL_len op
              obtain ⟨wd, hwd⟩ : ∃ z, wordL op = z := ⟨_, rfl⟩
              rw [hwd] at wl ⊢
              have Hwd := Lib.hid hwd
              have zwd := tx_size wd
              clear hwd
              go_wp2_with (at_builtin; go_loud (refine wpList_str (t := wd) (v := .slice q0 n0 c0) (l := acc0) rfl _ _ rfl rfl rfl Hn0.out HowC.out (by have := Hl0.out; have := Hn0.out; omega) HcwC.out.size ?_); intro v5 wD h5 hc5; obtain ⟨q5, c5, rfl, -, -, -⟩ := h5.shape; obtain ⟨acc5, ha5⟩ : ∃ z, z = acc0 ++ wd := ⟨_, rfl⟩; rw [← ha5] at h5 ⊢; obtain ⟨n5, hn5⟩ : ∃ n, n = acc5.length := ⟨_, rfl⟩; have HowD := Lib.hid (show (wD).ownsRow w.heap.size 5 1 (.slice q5 n5 c5) n5 (bytesV acc5) by rw [hn5]; exact h5); rw [← hn5]; have Hn5 := Lib.hid hn5; have Ha5 := Lib.hid ha5; have HcwD := Lib.hid (HcwC.out.above hc5 fun k e => (World.ownsRow.lt HowC.out k e).1); have HrwD := Lib.hid (KpU.own HowC.out hc5 _ _ _ (by decide) HrwC.out); obtain ⟨u0wD, u1wD, u2wD⟩ := var3 HrwD.out; clear ha5 hn5 h5 hc5)
              have Hl5 := Lib.hid (show acc5.length ≤ 258000 by rw [Ha5.out, List.length_append]; have := Hl0.out; omega)
              refine (HT.out op o0 o1 wD).mono ?_
              rintro e wE ⟨rfl, hc_⟩
              have HcwE := Lib.hid (HcwD.out.trans hc_)
              have HowE := Lib.hid (ownsRow_chg HowD.out hc_ fun _ _ => id)
              have HrwE := Lib.hid (row_kept hc_ HrwD.out id)
              obtain ⟨u0wE, u1wE, u2wE⟩ := var3 HrwE.out
              clear hc_
              by_cases t1 : takesF op = 1
              · skip
                rw [t1]
                go_wp2_with fail
                refine (HI.out n m0 m1 _ HcwE.out).mono ?_
                rintro e wF ⟨rfl, hc_⟩
                have HcwF := Lib.hid (HcwE.out.trans hc_)
                have HowF := Lib.hid (ownsRow_chg HowE.out hc_ fun _ _ => id)
                have HrwF := Lib.hid (row_kept hc_ HrwE.out id)
                obtain ⟨u0wF, u1wF, u2wF⟩ := var3 HrwF.out
                clear hc_
                have hJ0 := Lib.itoa_length_le n m0 m1
                have Hwr := Lib.hid (show writF 108 ⟨op, n, sx⟩ = wordL op ++ ([32] ++ Lib.itoa n) by (unfold writF; simp only [t1]; rfl))
                generalize Lib.itoa n = J at *
                have zJ := tx_size J
                obtain ⟨tG, eG, cG, zG, lG⟩ := gluT [32] J
                replace cG : (⟨#[32]⟩ : ByteArray) ++ tx J = tx tG := cG
                replace lG : tG.length = 1 + J.length := lG
                have EG := Lib.hid eG
                clear eG
                go_upto_region 25 with (at_builtin; go_loud (refine wpList_str (t := tG) (v := .slice q5 n5 c5) (l := acc5) rfl _ _ rfl rfl rfl Hn5.out HowF.out (by have := Hl5.out; have := Hn5.out; omega) HcwF.out.size ?_); intro v6 wG h6 hc6; obtain ⟨q6, c6, rfl, -, -, -⟩ := h6.shape; obtain ⟨acc6, ha6⟩ : ∃ z, z = acc5 ++ tG := ⟨_, rfl⟩; rw [← ha6] at h6 ⊢; obtain ⟨n6, hn6⟩ : ∃ n, n = acc6.length := ⟨_, rfl⟩; have HowG := Lib.hid (show (wG).ownsRow w.heap.size 5 1 (.slice q6 n6 c6) n6 (bytesV acc6) by rw [hn6]; exact h6); rw [← hn6]; have Hn6 := Lib.hid hn6; have Ha6 := Lib.hid ha6; have HcwG := Lib.hid (HcwF.out.above hc6 fun k e => (World.ownsRow.lt HowF.out k e).1); have HrwG := Lib.hid (KpU.own HowF.out hc6 _ _ _ (by decide) HrwF.out); obtain ⟨u0wG, u1wG, u2wG⟩ := var3 HrwG.out; clear ha6 hn6 h6 hc6)
                have Hl6 := Lib.hid (show acc6.length ≤ 260000 by rw [Ha6.out, List.length_append]; have := Hl5.out; omega)
                have Hfin := Lib.hid (show joinN (rowsF 108 ps 0 (ps.take (k + 1))) = acc6 ++ [10] by (rw [Hpre.out, Hwr.out, Hwd.out, Ha6.out, EG.out, Ha5.out]; simp only [List.append_assoc]))
                have hal_ := (Chg.refl NoB wG).alloc (.cells #[.int .u8 10] 5)
                have hb_ := heap_alloc_new wG (.cells #[.int .u8 10] 5)
                obtain ⟨b9, hxb_⟩ : ∃ b, b = wG.heap.size := ⟨_, rfl⟩
                obtain ⟨w9, hw_⟩ : ∃ w_, wG.alloc (.cells #[.int .u8 10] 5) = w_ := ⟨_, rfl⟩
                have hz_ : w9.heap.size = b9 + 1 := by rw [← hw_, hxb_]; exact alloc_size _ _
                rw [hw_] at hal_ hb_
                rw [← hxb_] at hb_
                have Hw9 := Lib.hid hw_
                have Hx9 := Lib.hid hxb_
                have Ha9 := Lib.hid hal_
                have Hb9 := Lib.hid hb_
                have Hz9 := Lib.hid hz_
                clear hal_ hb_ hxb_ hw_ hz_
                have Ho9 := Lib.hid (ownsRow_chg HowG.out Ha9.out fun _ _ => id)
                have Hbase := Lib.hid (Nat.le_trans HcwG.out.size Ha9.out.size)
                go_wp2_with (at_builtin; go_loud (rw [← Hx9.out, Hw9.out]); go_loud (refine wpList_lit (m := 1) (v := .slice q6 n6 c6) (ys := [10]) rfl _ _ rfl rfl rfl rfl Hn6.out Ho9.out Hb9.out (by have := Hl6.out; have := Hn6.out; omega) Hbase.out ?_); intro v9 wZ h9 hc9)
                go_roundw
                case rel => exact ⟨k + 1, by omega, by go_num, by rw [Hfin.out]; exact h9, (HcwG.out.trans Ha9.out).above hc9 fun j hj => (World.ownsRow.lt Ho9.out j hj).1⟩
                case measure => simp [intOf]; omega
              by_cases t3 : takesF op = 3
              · skip
                rw [t3]
                go_wp2_with fail
                refine (HI.out n m0 m1 _ HcwE.out).mono ?_
                rintro e wF ⟨rfl, hc_⟩
                have HcwF := Lib.hid (HcwE.out.trans hc_)
                have HowF := Lib.hid (ownsRow_chg HowE.out hc_ fun _ _ => id)
                have HrwF := Lib.hid (row_kept hc_ HrwE.out id)
                obtain ⟨u0wF, u1wF, u2wF⟩ := var3 HrwF.out
                clear hc_
                have hJ0 := Lib.itoa_length_le n m0 m1
                have Hwr := Lib.hid (show writF 108 ⟨op, n, sx⟩ = wordL op ++ ([32] ++ Lib.itoa n) by (unfold writF; simp only [t3]; rfl))
                generalize Lib.itoa n = J at *
                have zJ := tx_size J
                obtain ⟨tG, eG, cG, zG, lG⟩ := gluT [32] J
                replace cG : (⟨#[32]⟩ : ByteArray) ++ tx J = tx tG := cG
                replace lG : tG.length = 1 + J.length := lG
                have EG := Lib.hid eG
                clear eG
                go_upto_region 25 with (at_builtin; go_loud (refine wpList_str (t := tG) (v := .slice q5 n5 c5) (l := acc5) rfl _ _ rfl rfl rfl Hn5.out HowF.out (by have := Hl5.out; have := Hn5.out; omega) HcwF.out.size ?_); intro v6 wG h6 hc6; obtain ⟨q6, c6, rfl, -, -, -⟩ := h6.shape; obtain ⟨acc6, ha6⟩ : ∃ z, z = acc5 ++ tG := ⟨_, rfl⟩; rw [← ha6] at h6 ⊢; obtain ⟨n6, hn6⟩ : ∃ n, n = acc6.length := ⟨_, rfl⟩; have HowG := Lib.hid (show (wG).ownsRow w.heap.size 5 1 (.slice q6 n6 c6) n6 (bytesV acc6) by rw [hn6]; exact h6); rw [← hn6]; have Hn6 := Lib.hid hn6; have Ha6 := Lib.hid ha6; have HcwG := Lib.hid (HcwF.out.above hc6 fun k e => (World.ownsRow.lt HowF.out k e).1); have HrwG := Lib.hid (KpU.own HowF.out hc6 _ _ _ (by decide) HrwF.out); obtain ⟨u0wG, u1wG, u2wG⟩ := var3 HrwG.out; clear ha6 hn6 h6 hc6)
                have Hl6 := Lib.hid (show acc6.length ≤ 260000 by rw [Ha6.out, List.length_append]; have := Hl5.out; omega)
                have Hfin := Lib.hid (show joinN (rowsF 108 ps 0 (ps.take (k + 1))) = acc6 ++ [10] by (rw [Hpre.out, Hwr.out, Hwd.out, Ha6.out, EG.out, Ha5.out]; simp only [List.append_assoc]))
                have hal_ := (Chg.refl NoB wG).alloc (.cells #[.int .u8 10] 5)
                have hb_ := heap_alloc_new wG (.cells #[.int .u8 10] 5)
                obtain ⟨b9, hxb_⟩ : ∃ b, b = wG.heap.size := ⟨_, rfl⟩
                obtain ⟨w9, hw_⟩ : ∃ w_, wG.alloc (.cells #[.int .u8 10] 5) = w_ := ⟨_, rfl⟩
                have hz_ : w9.heap.size = b9 + 1 := by rw [← hw_, hxb_]; exact alloc_size _ _
                rw [hw_] at hal_ hb_
                rw [← hxb_] at hb_
                have Hw9 := Lib.hid hw_
                have Hx9 := Lib.hid hxb_
                have Ha9 := Lib.hid hal_
                have Hb9 := Lib.hid hb_
                have Hz9 := Lib.hid hz_
                clear hal_ hb_ hxb_ hw_ hz_
                have Ho9 := Lib.hid (ownsRow_chg HowG.out Ha9.out fun _ _ => id)
                have Hbase := Lib.hid (Nat.le_trans HcwG.out.size Ha9.out.size)
                go_wp2_with (at_builtin; go_loud (rw [← Hx9.out, Hw9.out]); go_loud (refine wpList_lit (m := 1) (v := .slice q6 n6 c6) (ys := [10]) rfl _ _ rfl rfl rfl rfl Hn6.out Ho9.out Hb9.out (by have := Hl6.out; have := Hn6.out; omega) Hbase.out ?_); intro v9 wZ h9 hc9)
                go_roundw
                case rel => exact ⟨k + 1, by omega, by go_num, by rw [Hfin.out]; exact h9, (HcwG.out.trans Ha9.out).above hc9 fun j hj => (World.ownsRow.lt Ho9.out j hj).1⟩
                case measure => simp [intOf]; omega
              by_cases t4 : takesF op = 4
              · skip
                rw [t4]
                go_wp2_with fail
                refine (HI.out n m0 m1 _ HcwE.out).mono ?_
                rintro e wF ⟨rfl, hc_⟩
                have HcwF := Lib.hid (HcwE.out.trans hc_)
                have HowF := Lib.hid (ownsRow_chg HowE.out hc_ fun _ _ => id)
                have HrwF := Lib.hid (row_kept hc_ HrwE.out id)
                obtain ⟨u0wF, u1wF, u2wF⟩ := var3 HrwF.out
                clear hc_
                have hJ0 := Lib.itoa_length_le n m0 m1
                have Hwr := Lib.hid (show writF 108 ⟨op, n, sx⟩ = wordL op ++ ([32, 108] ++ Lib.itoa n) by (unfold writF; simp only [t4]; rfl))
                generalize Lib.itoa n = J at *
                have zJ := tx_size J
                obtain ⟨tG, eG, cG, zG, lG⟩ := gluT [32, 108] J
                replace cG : (⟨#[32, 108]⟩ : ByteArray) ++ tx J = tx tG := cG
                replace lG : tG.length = 2 + J.length := lG
                have EG := Lib.hid eG
                clear eG
                go_upto_region 25 with (at_builtin; go_loud (refine wpList_str (t := tG) (v := .slice q5 n5 c5) (l := acc5) rfl _ _ rfl rfl rfl Hn5.out HowF.out (by have := Hl5.out; have := Hn5.out; omega) HcwF.out.size ?_); intro v6 wG h6 hc6; obtain ⟨q6, c6, rfl, -, -, -⟩ := h6.shape; obtain ⟨acc6, ha6⟩ : ∃ z, z = acc5 ++ tG := ⟨_, rfl⟩; rw [← ha6] at h6 ⊢; obtain ⟨n6, hn6⟩ : ∃ n, n = acc6.length := ⟨_, rfl⟩; have HowG := Lib.hid (show (wG).ownsRow w.heap.size 5 1 (.slice q6 n6 c6) n6 (bytesV acc6) by rw [hn6]; exact h6); rw [← hn6]; have Hn6 := Lib.hid hn6; have Ha6 := Lib.hid ha6; have HcwG := Lib.hid (HcwF.out.above hc6 fun k e => (World.ownsRow.lt HowF.out k e).1); have HrwG := Lib.hid (KpU.own HowF.out hc6 _ _ _ (by decide) HrwF.out); obtain ⟨u0wG, u1wG, u2wG⟩ := var3 HrwG.out; clear ha6 hn6 h6 hc6)
                have Hl6 := Lib.hid (show acc6.length ≤ 260000 by rw [Ha6.out, List.length_append]; have := Hl5.out; omega)
                have Hfin := Lib.hid (show joinN (rowsF 108 ps 0 (ps.take (k + 1))) = acc6 ++ [10] by (rw [Hpre.out, Hwr.out, Hwd.out, Ha6.out, EG.out, Ha5.out]; simp only [List.append_assoc]))
                have hal_ := (Chg.refl NoB wG).alloc (.cells #[.int .u8 10] 5)
                have hb_ := heap_alloc_new wG (.cells #[.int .u8 10] 5)
                obtain ⟨b9, hxb_⟩ : ∃ b, b = wG.heap.size := ⟨_, rfl⟩
                obtain ⟨w9, hw_⟩ : ∃ w_, wG.alloc (.cells #[.int .u8 10] 5) = w_ := ⟨_, rfl⟩
                have hz_ : w9.heap.size = b9 + 1 := by rw [← hw_, hxb_]; exact alloc_size _ _
                rw [hw_] at hal_ hb_
                rw [← hxb_] at hb_
                have Hw9 := Lib.hid hw_
                have Hx9 := Lib.hid hxb_
                have Ha9 := Lib.hid hal_
                have Hb9 := Lib.hid hb_
                have Hz9 := Lib.hid hz_
                clear hal_ hb_ hxb_ hw_ hz_
                have Ho9 := Lib.hid (ownsRow_chg HowG.out Ha9.out fun _ _ => id)
                have Hbase := Lib.hid (Nat.le_trans HcwG.out.size Ha9.out.size)
                go_wp2_with (at_builtin; go_loud (rw [← Hx9.out, Hw9.out]); go_loud (refine wpList_lit (m := 1) (v := .slice q6 n6 c6) (ys := [10]) rfl _ _ rfl rfl rfl rfl Hn6.out Ho9.out Hb9.out (by have := Hl6.out; have := Hn6.out; omega) Hbase.out ?_); intro v9 wZ h9 hc9)
                go_roundw
                case rel => exact ⟨k + 1, by omega, by go_num, by rw [Hfin.out]; exact h9, (HcwG.out.trans Ha9.out).above hc9 fun j hj => (World.ownsRow.lt Ho9.out j hj).1⟩
                case measure => simp [intOf]; omega
              by_cases t2 : takesF op = 2
              · skip
                rw [t2]
                have Hwr := Lib.hid (show writF 108 ⟨op, n, sx⟩ = wordL op ++ ([32] ++ quoF sx) by (unfold writF; simp only [t2]; rfl))
                go_wp2_with fail
                refine (quoted_any sx wE (by have := standsS Hstk.out; simp only at this; omega)).mono ?_
                rintro e wF ⟨rfl, hc_⟩
                have HcwF := Lib.hid (HcwE.out.trans hc_)
                have HowF := Lib.hid (ownsRow_chg HowE.out hc_ fun _ _ => id)
                have HrwF := Lib.hid (row_kept hc_ HrwE.out id)
                obtain ⟨u0wF, u1wF, u2wF⟩ := var3 HrwF.out
                clear hc_
                have hJ0 := quoF_len sx
                have hJ1 := standsS Hstk.out
                simp only at hJ1
                generalize quoF sx = J at *
                have zJ := tx_size J
                obtain ⟨tG, eG, cG, zG, lG⟩ := gluT [32] J
                replace cG : (⟨#[32]⟩ : ByteArray) ++ tx J = tx tG := cG
                replace lG : tG.length = 1 + J.length := lG
                have EG := Lib.hid eG
                clear eG
                go_upto_region 25 with (at_builtin; go_loud (refine wpList_str (t := tG) (v := .slice q5 n5 c5) (l := acc5) rfl _ _ rfl rfl rfl Hn5.out HowF.out (by have := Hl5.out; have := Hn5.out; omega) HcwF.out.size ?_); intro v6 wG h6 hc6; obtain ⟨q6, c6, rfl, -, -, -⟩ := h6.shape; obtain ⟨acc6, ha6⟩ : ∃ z, z = acc5 ++ tG := ⟨_, rfl⟩; rw [← ha6] at h6 ⊢; obtain ⟨n6, hn6⟩ : ∃ n, n = acc6.length := ⟨_, rfl⟩; have HowG := Lib.hid (show (wG).ownsRow w.heap.size 5 1 (.slice q6 n6 c6) n6 (bytesV acc6) by rw [hn6]; exact h6); rw [← hn6]; have Hn6 := Lib.hid hn6; have Ha6 := Lib.hid ha6; have HcwG := Lib.hid (HcwF.out.above hc6 fun k e => (World.ownsRow.lt HowF.out k e).1); have HrwG := Lib.hid (KpU.own HowF.out hc6 _ _ _ (by decide) HrwF.out); obtain ⟨u0wG, u1wG, u2wG⟩ := var3 HrwG.out; clear ha6 hn6 h6 hc6)
                have Hl6 := Lib.hid (show acc6.length ≤ 260000 by rw [Ha6.out, List.length_append]; have := Hl5.out; omega)
                have Hfin := Lib.hid (show joinN (rowsF 108 ps 0 (ps.take (k + 1))) = acc6 ++ [10] by (rw [Hpre.out, Hwr.out, Hwd.out, Ha6.out, EG.out, Ha5.out]; simp only [List.append_assoc]))
                have hal_ := (Chg.refl NoB wG).alloc (.cells #[.int .u8 10] 5)
                have hb_ := heap_alloc_new wG (.cells #[.int .u8 10] 5)
                obtain ⟨b9, hxb_⟩ : ∃ b, b = wG.heap.size := ⟨_, rfl⟩
                obtain ⟨w9, hw_⟩ : ∃ w_, wG.alloc (.cells #[.int .u8 10] 5) = w_ := ⟨_, rfl⟩
                have hz_ : w9.heap.size = b9 + 1 := by rw [← hw_, hxb_]; exact alloc_size _ _
                rw [hw_] at hal_ hb_
                rw [← hxb_] at hb_
                have Hw9 := Lib.hid hw_
                have Hx9 := Lib.hid hxb_
                have Ha9 := Lib.hid hal_
                have Hb9 := Lib.hid hb_
                have Hz9 := Lib.hid hz_
                clear hal_ hb_ hxb_ hw_ hz_
                have Ho9 := Lib.hid (ownsRow_chg HowG.out Ha9.out fun _ _ => id)
                have Hbase := Lib.hid (Nat.le_trans HcwG.out.size Ha9.out.size)
                go_wp2_with (at_builtin; go_loud (rw [← Hx9.out, Hw9.out]); go_loud (refine wpList_lit (m := 1) (v := .slice q6 n6 c6) (ys := [10]) rfl _ _ rfl rfl rfl rfl Hn6.out Ho9.out Hb9.out (by have := Hl6.out; have := Hn6.out; omega) Hbase.out ?_); intro v9 wZ h9 hc9)
                go_roundw
                case rel => exact ⟨k + 1, by omega, by go_num, by rw [Hfin.out]; exact h9, (HcwG.out.trans Ha9.out).above hc9 fun j hj => (World.ownsRow.lt Ho9.out j hj).1⟩
                case measure => simp [intOf]; omega
              have Hwr := Lib.hid (show writF 108 ⟨op, n, sx⟩ = wordL op by (unfold writF; simp only; rw [if_neg (by rintro (h | h); exact t1 h; exact t3 h), if_neg t2, if_neg t4, List.append_nil]))
              have f1 : (takesF op == 1) = false := by simpa using t1
              have f2 : (takesF op == 2) = false := by simpa using t2
              have f3 : (takesF op == 3) = false := by simpa using t3
              have f4 : (takesF op == 4) = false := by simpa using t4
              clear t1 t2 t3 t4
              go_upto_region 25 with fail
              have Hfin := Lib.hid (show joinN (rowsF 108 ps 0 (ps.take (k + 1))) = acc5 ++ [10] by (rw [Hpre.out, Hwr.out, Hwd.out, Ha5.out]))
              have hal_ := (Chg.refl NoB wE).alloc (.cells #[.int .u8 10] 5)
              have hb_ := heap_alloc_new wE (.cells #[.int .u8 10] 5)
              obtain ⟨b9, hxb_⟩ : ∃ b, b = wE.heap.size := ⟨_, rfl⟩
              obtain ⟨w9, hw_⟩ : ∃ w_, wE.alloc (.cells #[.int .u8 10] 5) = w_ := ⟨_, rfl⟩
              have hz_ : w9.heap.size = b9 + 1 := by rw [← hw_, hxb_]; exact alloc_size _ _
              rw [hw_] at hal_ hb_
              rw [← hxb_] at hb_
              have Hw9 := Lib.hid hw_
              have Hx9 := Lib.hid hxb_
              have Ha9 := Lib.hid hal_
              have Hb9 := Lib.hid hb_
              have Hz9 := Lib.hid hz_
              clear hal_ hb_ hxb_ hw_ hz_
              have Ho9 := Lib.hid (ownsRow_chg HowE.out Ha9.out fun _ _ => id)
              have Hbase := Lib.hid (Nat.le_trans HcwE.out.size Ha9.out.size)
              go_wp2_with (at_builtin; go_loud (rw [← Hx9.out, Hw9.out]); go_loud (refine wpList_lit (m := 1) (v := .slice q5 n5 c5) (ys := [10]) rfl _ _ rfl rfl rfl rfl Hn5.out Ho9.out Hb9.out (by have := Hl5.out; have := Hn5.out; omega) Hbase.out ?_); intro v9 wZ h9 hc9)
              go_roundw
              case rel => exact ⟨k + 1, by omega, by go_num, by rw [Hfin.out]; exact h9, (HcwE.out.trans Ha9.out).above hc9 fun j hj => (World.ownsRow.lt Ho9.out j hj).1⟩
              case measure => simp [intOf]; omega
      · obtain rfl : k = len := by omega
        have htk : ps.take k = ps := by rw [Hlen.out]; exact List.take_length
        have hO : Own wr w.heap.size (.slice q0 n0 c0) acc0 := by unfold Own; rw [← Hn0.out]; exact Ho0.out
        have cv : (convert 34 9 (.slice q0 n0 c0)).run Tryd.prog wr = .ok (.string (tx acc0)) wr := hO.src.conv
        have Hacc := Lib.hid (show acc0 = joinN (rowsF 108 ps 0 ps) by rw [Ha0.out, htk])
        clear htk hO
        go_wp2_with fail
        go_ret2
        exact ⟨by rw [Hd.out, Hacc.out]; rfl, Hcw.out⟩
  · have h0b : (er != 0) = true := by simp [h0]
    rw [if_pos h0] at Hd
    clear h0
    go_enter Tryd.func15, Tryd.ntmps15
    go_wp2_with fail
    refine HC.out.mono ?_
    rintro e w2 ⟨rfl, hc2⟩
    have Hc2 := Lib.hid hc2
    clear hc2
    go_wp2_with fail
    go_ret2
    exact ⟨by rw [Hd.out]; rfl, Hc2.out⟩
end Go.Proofs.YtaihgciokfkonaaDoor
