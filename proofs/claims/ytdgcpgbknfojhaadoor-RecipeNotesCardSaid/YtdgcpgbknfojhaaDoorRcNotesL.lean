/- RecipeNotes: notes, blanks and line feeds more between the tokens of a text change nothing but places. Condition: the keywords read as listed. -/
import Derived.Test.YtdgcpgbknfojhaaDoorRcAlive
import Derived.Test.YtdgcpgbknfojhaaDoorRcRNext
import Derived.Test.YtdgcpgbknfojhaaDoorRcSameR
import Derived.Test.YtdgcpgbknfojhaaDoorRcNotO
import Derived.Test.YtdgcpgbknfojhaaDoorRcInts
import Derived.Test.YtdgcpgbknfojhaaDoorRcOpen
import Derived.Test.YtdgcpgbknfojhaaDoorCards
import Derived.Test.YtdgcpgbknfojhaaDoorTie
import Derived.ChangeMaps
import Derived.Deep.QuietTactic

namespace Go.Proofs.YtdgcpgbknfojhaaDoor
set_option linter.unusedVariables false
open Go.ChangeShapes Go.WideShapes Go.ChangeAt Go.RowKit
open Go.ChangeMaps (open_string shut_string)
theorem txCt (a b : List UInt8) : tx a ++ tx b = tx (a ++ b) := by
  apply ByteArray.ext
  simp [tx]
theorem glu (a b : List UInt8) : ∃ c, c = a ++ b ∧ tx a ++ tx b = tx c ∧ (tx c).size = c.length ∧ c.length = a.length + b.length := ⟨_, rfl, txCt a b, tx_size _, List.length_append⟩
theorem and3 (x : Int) : ∃ k : Nat, k < 4 ∧ bits .and .i64 x 3 = (k : Int) := by
  have h3 : (BitVec.ofInt 64 3).toNat = 3 := by decide
  have hle : (BitVec.ofInt 64 x &&& BitVec.ofInt 64 3).toNat ≤ 3 := by
    rw [BitVec.toNat_and, h3]
    exact Nat.and_le_right
  refine ⟨(BitVec.ofInt 64 x &&& BitVec.ofInt 64 3).toNat, by omega, ?_⟩
  show IntKind.i64.wrap (((BitVec.ofInt 64 x &&& BitVec.ofInt 64 3).toNat : Nat) : Int) = _
  rw [IntKind.wrap_i64]
  omega
/- the token and what stands behind it are put to the text: K which -/
theorem smallE2 {x : ExL} (h : goodE x = true) : SmallE x := by
  unfold goodE at h
  rw [Bool.and_eq_true, decide_eq_true_eq] at h
  unfold SmallE
  omega
theorem smallP (s : List UInt8) : SmallR (resF (parseF s)).1 := by
  cases h : parseF s with
  | ok r =>
    obtain ⟨h1, h2, h3, h4⟩ := goodR_parts (parse_good h).1
    refine ⟨smallE2 h2, smallE2 h3, fun f hf => ?_, by show r.fields.length ≤ _; omega⟩
    obtain ⟨_, a, b⟩ := goodFl_parts (List.all_eq_true.1 h4 f hf)
    exact ⟨smallE2 a, smallE2 b⟩
  | error x =>
    have hz : (resF (.error x)).1 = zeroR := rfl
    rw [hz]
    exact ⟨by unfold SmallE; decide, by unfold SmallE; decide, (fun f hf => by cases hf), by decide⟩
set_option maxHeartbeats 8000000 in
set_option maxRecDepth 20000 in
theorem recipeNotes_all (a0 : ByteArray) (l1 : List Int) (v1 : Value) (kb1 ko1 : Nat) (a2 : ByteArray) (W : World) (wa : a0.size ≤ maxLen) (hn1 : NumS W (OldB W) v1 l1 kb1 ko1) (wb : a2.size ≤ maxLen) (hk : Kw W.heap.size W) : Calls Tryd.prog 7 #[.string a0, v1, .string a2] W (SayB true W) := by
  obtain ⟨s, rfl⟩ : ∃ t, a0 = tx t := ⟨_, (tx_back a0).symm⟩
  obtain ⟨note, rfl⟩ : ∃ t, a2 = tx t := ⟨_, (tx_back a2).symm⟩
  have hzs : (tx s).size = s.length := tx_size s
  have hzn : (tx note).size = note.length := tx_size note
  obtain ⟨L, hL⟩ : ∃ n, n = s.length := ⟨_, rfl⟩
  obtain ⟨M, hM⟩ : ∃ n, n = note.length := ⟨_, rfl⟩
  rw [← hL] at hzs
  rw [← hM] at hzn
  have HL := Lib.hid hL
  have HM := Lib.hid hM
  obtain ⟨⟨q1, c1, rfl, n1, n2, n3⟩, nat⟩ := hn1
  obtain ⟨l, hl⟩ : ∃ n, n = l1.length := ⟨_, rfl⟩
  rw [← hl] at n1 ⊢
  have Hl := Lib.hid hl
  have Hn3 := Lib.hid n3
  have Hnat := Lib.hid nat
  have HAL := Lib.hid (alive_any W.heap.size W hk)
  have HP := Lib.hid (fun t w (h : Chg NoB W w) => parse_any t W.heap.size w (hk.keep h))
  unfold maxLen at n2
  clear hk wa wb hL hM hl n3 nat
  go_enter Tryd.func7, Tryd.ntmps7
  go_wp2_with fail
  refine HAL.out.mono ?_
  rintro e2 w2 ⟨rfl, hc2⟩
  have Hc2 := Lib.hid hc2
  clear hc2 HAL
  by_cases h1 : (4096 : Int) < (L : Int)
  · go_wp2_with fail
    go_ret
    exact ⟨rfl, Hc2.out⟩
  by_cases h2 : (100 : Int) < (M : Int)
  · go_wp2_with fail
    go_ret
    exact ⟨rfl, Hc2.out⟩
  go_wp2_with fail
  go_loopw [7] (fun iv wr => ∃ k : Nat, iv = .int .i64 (k : Nat) ∧ k ≤ M ∧ (∀ j (hj : j < note.length), j < k → note[j].toNat ≠ 10) ∧ w2 = wr) (fun iv _ => M - (intOf iv).toNat)
  case atStart => exact ⟨0, rfl, Nat.zero_le _, fun j _ hj => absurd hj (Nat.not_lt_zero _), rfl⟩
  case round =>
    obtain ⟨k, rfl, hkm, hall, rfl⟩ := hrel
    have Hall := Lib.hid hall
    clear hall
    by_cases hlt : k < M
    · have hks : k < note.length := by rw [← HM.out]; exact hlt
      have hkt : k < (tx note).size := by omega
      obtain ⟨c, hc⟩ : ∃ c, (tx note)[k] = c := ⟨_, rfl⟩
      have Hcs := Lib.hid (show note[k] = c from hc)
      by_cases h10 : c.toNat = 10
      · have g10 : ((c.toNat : Int) == 10) = true := by rw [beq_iff_eq]; omega
        clear h10
        go_wp2_with fail
        go_ret
        exact ⟨rfl, Hc2.out⟩
      · have g10 : ((c.toNat : Int) == 10) = false := by rw [beq_eq_false_iff_ne]; omega
        have Hnx := Lib.hid (show ∀ j (hj : j < note.length), j < k + 1 → note[j].toNat ≠ 10 from fun j hj h3 => by
          by_cases e : j = k
          · have h5 : note[j].toNat = c.toNat := by subst e; exact congrArg UInt8.toNat Hcs.out
            omega
          · exact Hall.out j hj (by omega))
        clear h10
        go_wp2_with fail
        go_roundw
        case rel => exact ⟨k + 1, by go_num, by omega, Hnx.out, by simp⟩
        case measure => simp [intOf]; omega
    · obtain rfl : k = M := by omega
      have Hno := Lib.hid (show ∀ c ∈ note, c.toNat ≠ 10 from fun c hc => by
        obtain ⟨j, hj, rfl⟩ := List.getElem_of_mem hc
        exact Hall.out j hj (by rw [HM.out]; exact hj))
      clear Hall
      obtain ⟨d1, ed1, g1, z1, y1⟩ := glu [32, 35] note
      obtain ⟨d2, ed2, g2, z2, y2⟩ := glu d1 [10, 32]
      have Hd2 := Lib.hid (show oddF note 3 = d2 by rw [ed2, ed1]; simp [oddF])
      have g1' : (⟨#[32, 35]⟩ : ByteArray) ++ tx note = tx d1 := g1
      have g2' : tx d1 ++ (⟨#[10, 32]⟩ : ByteArray) = tx d2 := g2
      have hd1 : d1.length = k + 2 := by rw [y1, ← HM.out]; simp; omega
      have hd2 : d2.length = k + 4 := by rw [y2, hd1]; rfl
      have hM100 : k ≤ 100 := by omega
      have hy1 : (tx d1).size ≤ 102 := by rw [z1]; omega
      have hy2 : (tx d2).size ≤ 104 := by rw [z2]; omega
      have Hy2 := Lib.hid hd2
      clear ed1 ed2 g1 g2 y1 y2 z1 z2 hd1 hd2
      have hal_ := (Chg.refl NoB w2).alloc (.cells #[.string ⟨#[32]⟩, .string ⟨#[10]⟩, .string ⟨#[9, 35, 32, 105, 110, 10]⟩, .string (tx d2)] 40)
      have hb_ := heap_alloc_new w2 (.cells #[.string ⟨#[32]⟩, .string ⟨#[10]⟩, .string ⟨#[9, 35, 32, 105, 110, 10]⟩, .string (tx d2)] 40)
      obtain ⟨b8, hxb_⟩ : ∃ b, b = w2.heap.size := ⟨_, rfl⟩
      obtain ⟨w3, hw_⟩ : ∃ w_, w2.alloc (.cells #[.string ⟨#[32]⟩, .string ⟨#[10]⟩, .string ⟨#[9, 35, 32, 105, 110, 10]⟩, .string (tx d2)] 40) = w_ := ⟨_, rfl⟩
      have hz_ : w3.heap.size = b8 + 1 := by rw [← hw_, hxb_]; exact alloc_size _ _
      rw [hw_] at hal_ hb_
      rw [← hxb_] at hb_
      have Hw8 := Lib.hid hw_
      have Hx8 := Lib.hid hxb_
      have Ha8 := Lib.hid hal_
      have Hb8 := Lib.hid hb_
      have Hz8 := Lib.hid hz_
      clear hal_ hb_ hxb_ hw_ hz_
      have Hc3 := Lib.hid (Hc2.out.trans Ha8.out)
      obtain ⟨o0, o1, o2, o3⟩ := var4 Hb8.out
      have HO0 := Lib.hid (show OutI s 0 d2 by rw [← Hd2.out]; exact out_start Hno.out (by rw [← HM.out]; exact hM100))
      have hk100 := hM100
      have HN := Lib.hid (fun a w (h : a ≤ L) => rnext_any s a w (by rw [← HL.out]; exact h) (by rw [← HL.out]; omega))
      rw [← HL.out] at HN
      go_wp2_with fail
      rw [Hw8.out, ← Hx8.out]
      clear o0 o1 o2 o3
      go_loopw [9, 10, 11] (fun ov av nv wr => ∃ (O : List UInt8) (a m : Nat), ov = .string (tx O) ∧ av = .int .i64 (a : Nat) ∧ nv = .int .i64 (m : Nat) ∧ a ≤ L ∧ m ≤ a ∧ OutI s a O ∧ wr.heap[b8]? = some (.cells #[.string ⟨#[32]⟩, .string ⟨#[10]⟩, .string ⟨#[9, 35, 32, 105, 110, 10]⟩, .string (tx d2)] 40 (0, 0)) ∧ Chg NoB W wr) (fun _ av _ _ => L - (intOf av).toNat)
      case atStart => exact ⟨d2, 0, 0, rfl, rfl, rfl, Nat.zero_le _, Nat.le_refl _, HO0.out, Hb8.out, Hc3.out⟩
      case round =>
        obtain ⟨O, a, m, rfl, rfl, rfl, haL, hma, hO, hb8, hch⟩ := hrel
        have HO := Lib.hid hO
        have HB := Lib.hid hb8
        have Hch := Lib.hid hch
        have HNa := Lib.hid (HN.out a wr haL)
        have hzO : (tx O).size = O.length := tx_size O
        have hOl : O.length ≤ 110 + a * 110 := hO.1
        clear hO hb8 hch HO0 Hc3 Hb8
        cases ht : takeF (s.drop a) with
        | error x =>
          rw [ht] at HNa
          clear ht
          go_wp2_with fail
          refine HNa.out.mono ?_
          rintro e w5 ⟨hc5, kk, tt, bb, _, he⟩
          obtain rfl : e = .returned (.tuple #[.agg #[.int .i64 kk, .string (tx tt), .int .i64 ((L - x.1 : Nat) : Int), .int .i64 bb], .bool false]) := he
          have Hc5 := Lib.hid ((Hch.out.trans hc5).alloc (.cells #[.int .i64 kk, .string (tx tt), .int .i64 ((L - x.1 : Nat) : Int), .int .i64 bb] 42))
          clear hc5 HNa
          go_wp2_with fail
          go_ret
          exact ⟨rfl, Hc5.out⟩
        | ok st =>
          rw [ht] at HNa
          have Ht := Lib.hid ht
          clear ht
          go_wp2_with fail
          refine HNa.out.mono ?_
          rintro e w5 ⟨hc5, he⟩
          obtain rfl : e = .returned (.tuple #[.agg #[.int .i64 st.kind, .string (tx st.s), .int .i64 ((L - st.rem : Nat) : Int), .int .i64 ((L - st.rest.length : Nat) : Int)], .bool true]) := he
          have hal_ := (Chg.refl NoB w5).alloc (.cells #[.int .i64 st.kind, .string (tx st.s), .int .i64 ((L - st.rem : Nat) : Int), .int .i64 ((L - st.rest.length : Nat) : Int)] 42)
          have hb_ := heap_alloc_new w5 (.cells #[.int .i64 st.kind, .string (tx st.s), .int .i64 ((L - st.rem : Nat) : Int), .int .i64 ((L - st.rest.length : Nat) : Int)] 42)
          obtain ⟨b12, hxb_⟩ : ∃ b, b = w5.heap.size := ⟨_, rfl⟩
          obtain ⟨w6, hw_⟩ : ∃ w_, w5.alloc (.cells #[.int .i64 st.kind, .string (tx st.s), .int .i64 ((L - st.rem : Nat) : Int), .int .i64 ((L - st.rest.length : Nat) : Int)] 42) = w_ := ⟨_, rfl⟩
          have hz_ : w6.heap.size = b12 + 1 := by rw [← hw_, hxb_]; exact alloc_size _ _
          rw [hw_] at hal_ hb_
          rw [← hxb_] at hb_
          have Hw12 := Lib.hid hw_
          have Hx12 := Lib.hid hxb_
          have Ha12 := Lib.hid hal_
          have Hb12 := Lib.hid hb_
          have Hz12 := Lib.hid hz_
          clear hal_ hb_ hxb_ hw_ hz_
          obtain ⟨t0, t1, t2, t3⟩ := var4 Hb12.out
          have HB6 := Lib.hid (row_kept Ha12.out (row_kept hc5 HB.out id) id)
          have Hc6 := Lib.hid ((Hch.out.trans hc5).trans Ha12.out)
          clear hc5 HNa HB Hch
          go_upto_region 15 with fail
          rw [Hw12.out, ← Hx12.out]
          by_cases h0 : st.kind = 0
          · have g0 : ((st.kind : Int) == 0) = true := by rw [beq_iff_eq]; omega
            by_cases hbig : (4096 : Int) < (O.length : Int)
            · clear t1 t2 t3
              go_wp2_with fail
              go_ret
              exact ⟨rfl, Hc6.out⟩
            · have HS := Lib.hid (out_same HO.out Ht.out h0 (by rw [← HL.out]; omega) (by omega))
              have HX := Lib.hid (show (resF (parseF s)).1 = (resF (parseF O)).1 ∧ (resF (parseF s)).2.2 = (resF (parseF O)).2.2 from by
                have h5 := HS.out
                cases hp : parseF s with
                | ok r =>
                  cases hq : parseF O with
                  | ok r2 => rw [hp, hq] at h5; have h6 : r = r2 := h5; subst h6; exact ⟨rfl, rfl⟩
                  | error y => rw [hp, hq] at h5; exact h5.elim
                | error x =>
                  cases hq : parseF O with
                  | ok r2 => rw [hp, hq] at h5; exact h5.elim
                  | error y => rw [hp, hq] at h5; exact ⟨rfl, h5⟩)
              have HP1 := Lib.hid (HP.out s w6 Hc6.out)
              have HP2 := Lib.hid (fun w h => HP.out O w h)
              have Hsm := Lib.hid (smallP s)
              obtain ⟨x1, x2⟩ := HX.out
              generalize resF (parseF s) = X at *
              generalize resF (parseF O) = Y at *
              obtain ⟨r, pa, e⟩ := X
              obtain ⟨r2, pa2, e2⟩ := Y
              simp only at x1 x2
              subst x1 x2
              clear h0 HP HS HX t1 t2 t3
              go_wp2_with fail
              refine HP1.out.mono ?_
              rintro e3 w7 ⟨hc7, v, rfl, hv⟩
              have Hc7 := Lib.hid (Hc6.out.trans hc7)
              have hV := hv
              obtain ⟨d, h, f, kb, ko, kb2, ko2, fb, fo, rfl, ⟨hl1, hs1⟩, ⟨hl2, hs2⟩, hf⟩ := hv
              obtain ⟨qd, cd, rfl, -⟩ := hs1.sh
              obtain ⟨qh, ch, rfl, -⟩ := hs2.sh
              obtain ⟨qf, cf, rfl, -⟩ := hf.sh
              have hal_ := (Chg.refl NoB w7).alloc (.cells #[.int .i64 r.name.kind, .string (tx r.name.s), .slice qd r.name.kids.length cd, .int .i64 r.version.kind, .string (tx r.version.s), .slice qh r.version.kids.length ch, .slice qf r.fields.length cf] 29)
              have hb_ := heap_alloc_new w7 (.cells #[.int .i64 r.name.kind, .string (tx r.name.s), .slice qd r.name.kids.length cd, .int .i64 r.version.kind, .string (tx r.version.s), .slice qh r.version.kids.length ch, .slice qf r.fields.length cf] 29)
              obtain ⟨b15, hxb_⟩ : ∃ b, b = w7.heap.size := ⟨_, rfl⟩
              obtain ⟨w8, hw_⟩ : ∃ w_, w7.alloc (.cells #[.int .i64 r.name.kind, .string (tx r.name.s), .slice qd r.name.kids.length cd, .int .i64 r.version.kind, .string (tx r.version.s), .slice qh r.version.kids.length ch, .slice qf r.fields.length cf] 29) = w_ := ⟨_, rfl⟩
              have hz_ : w8.heap.size = b15 + 1 := by rw [← hw_, hxb_]; exact alloc_size _ _
              rw [hw_] at hal_ hb_
              rw [← hxb_] at hb_
              have Hw15 := Lib.hid hw_
              have Hx15 := Lib.hid hxb_
              have Ha15 := Lib.hid hal_
              have Hb15 := Lib.hid hb_
              have Hz15 := Lib.hid hz_
              clear hal_ hb_ hxb_ hw_ hz_
              have HV := Lib.hid (hV.keep Ha15.out fun _ _ => id)
              have Hc8 := Lib.hid (Hc7.out.trans Ha15.out)
              have HP3 := Lib.hid (HP2.out w8 Hc8.out)
              clear hc7 hV hs1 hs2 hf HP1 HP2 t0
              go_upto_region 27 with fail
              rw [Hw15.out, ← Hx15.out]
              go_wp2_with fail
              refine HP3.out.mono ?_
              rintro e5 w9 ⟨hc9, u, rfl, hu⟩
              have Hc9 := Lib.hid (Hc8.out.trans hc9)
              have hU := hu
              obtain ⟨d', h', f', kb', ko', kb2', ko2', fb', fo', rfl, ⟨hl1', hs1'⟩, ⟨hl2', hs2'⟩, hf'⟩ := hu
              obtain ⟨qd', cd', rfl, -⟩ := hs1'.sh
              obtain ⟨qh', ch', rfl, -⟩ := hs2'.sh
              obtain ⟨qf', cf', rfl, -⟩ := hf'.sh
              have hal_ := (Chg.refl NoB w9).alloc (.cells #[.int .i64 r.name.kind, .string (tx r.name.s), .slice qd' r.name.kids.length cd', .int .i64 r.version.kind, .string (tx r.version.s), .slice qh' r.version.kids.length ch', .slice qf' r.fields.length cf'] 29)
              have hb_ := heap_alloc_new w9 (.cells #[.int .i64 r.name.kind, .string (tx r.name.s), .slice qd' r.name.kids.length cd', .int .i64 r.version.kind, .string (tx r.version.s), .slice qh' r.version.kids.length ch', .slice qf' r.fields.length cf'] 29)
              obtain ⟨b18, hxb_⟩ : ∃ b, b = w9.heap.size := ⟨_, rfl⟩
              obtain ⟨w10, hw_⟩ : ∃ w_, w9.alloc (.cells #[.int .i64 r.name.kind, .string (tx r.name.s), .slice qd' r.name.kids.length cd', .int .i64 r.version.kind, .string (tx r.version.s), .slice qh' r.version.kids.length ch', .slice qf' r.fields.length cf'] 29) = w_ := ⟨_, rfl⟩
              have hz_ : w10.heap.size = b18 + 1 := by rw [← hw_, hxb_]; exact alloc_size _ _
              rw [hw_] at hal_ hb_
              rw [← hxb_] at hb_
              have Hw18 := Lib.hid hw_
              have Hx18 := Lib.hid hxb_
              have Ha18 := Lib.hid hal_
              have Hb18 := Lib.hid hb_
              have Hz18 := Lib.hid hz_
              clear hal_ hb_ hxb_ hw_ hz_
              have HSm := Lib.hid (sameR_any Hsm.out ((HV.out.keep hc9 fun _ _ => id).keep Ha18.out fun _ _ => id) (hU.keep Ha18.out fun _ _ => id))
              have hsame : sameR r r = true := (sameR_iff r r).2 rfl
              rw [hsame] at HSm
              have hb36 := row_kept Ha18.out (row_kept hc9 Hb15.out id) id
              obtain ⟨v0, v1, v2, v3, v4, v5, v6⟩ := var7 hb36
              obtain ⟨u0, u1, u2, u3, u4, u5, u6⟩ := var7 Hb18.out
              have Hc10 := Lib.hid (Hc9.out.trans Ha18.out)
              clear hc9 hU hs1' hs2' hf' HP3 HV hsame hb36
              go_upto_region 28 with fail
              rw [Hw18.out, ← Hx18.out]
              go_wp2_with fail
              refine HSm.out.mono ?_
              rintro e7 w11 ⟨rfl, hc11⟩
              have Hc11 := Lib.hid (Hc10.out.trans hc11)
              clear hc11
              go_wp2_with fail
              go_ret
              exact ⟨rfl, Hc11.out⟩
          · have g0 : ((st.kind : Int) == 0) = false := by rw [beq_eq_false_iff_ne]; omega
            have Hstep := Lib.hid (fun k => out_step (k := k) Hno.out (by rw [← HM.out]; exact hM100) (by rw [← HL.out]; exact haL) HO.out Ht.out h0)
            rw [← HL.out] at Hstep
            clear h0
            by_cases hml : m < l
            · have hm1 : m < l1.length := by rw [← Hl.out]; exact hml
              have hq := (Hn3.out (by intro e; rw [e] at hm1; simp at hm1)).1
              subst hq
              obtain ⟨hce, -⟩ := Hnat.out m hm1
              have hce6 := Hc6.out.keep hce
              generalize l1[m] = xv at *
              obtain ⟨k4, hk4, hbits⟩ := and3 xv
              have hi0 : (0 : Int) ≤ (m : Int) := Int.natCast_nonneg _
              have hi1 : (m : Int) < (l : Int) := by omega
              have hk40 : (0 : Int) ≤ (k4 : Int) := Int.natCast_nonneg _
              have hk41 : (k4 : Int) < 4 := by omega
              clear hce hm1
              obtain ⟨hs1, hs2, hs3⟩ := Hstep.out k4
              have HS3 := Lib.hid hs3
              obtain ⟨E, hE⟩ : ∃ E, E = L - st.rest.length := ⟨_, rfl⟩
              obtain ⟨A, hA⟩ : ∃ A, A = L - st.rem := ⟨_, rfl⟩
              have Hcut := Lib.hid (cut_ab s A E)
              have hEL : E ≤ L := by omega
              have HE := Lib.hid hE
              have HA := Lib.hid hA
              rw [← hE, ← hA] at HS3 hs1
              rw [← hA] at t2
              rw [← hE] at t3 hs2
              obtain ⟨c1x, ec1, gc1, zc1, yc1⟩ := glu O ((s.take E).drop A)
              obtain ⟨c2x, ec2, gc2, zc2, yc2⟩ := glu c1x (oddF note k4)
              have Hc2x := Lib.hid (show OutI s E c2x by rw [ec2, ec1]; exact HS3.out)
              have hc2l : c2x.length ≤ 110 + E * 110 := Hc2x.out.1
              have hc1l : c1x.length ≤ c2x.length := by omega
              have hcut := Hcut.out
              rw [← hcut] at gc1
              have s0 : (A : Int) ≤ (E : Int) := by omega
              have s1 : (E : Int) ≤ (L : Int) := by omega
              have s2 : (0 : Int) ≤ (A : Int) := by omega
              have hOc : (tx O).size + ((tx s).extract A E).size ≤ 600000 := by rw [hcut, hzO, tx_size]; omega
              have hCc : (tx c1x).size + (tx (oddF note k4)).size ≤ 600000 := by rw [tx_size, tx_size]; omega
              have o0' : w6.cell? ⟨b8, k4, none⟩ = some (.string (tx (oddF note k4))) := by
                rw [cell_of_row w6 b8 k4 _ _ (0, 0) HB6.out]
                have hh : k4 = 0 ∨ k4 = 1 ∨ k4 = 2 ∨ k4 = 3 := by omega
                rcases hh with rfl | rfl | rfl | rfl
                · rfl
                · rfl
                · rfl
                · rw [Hd2.out]; rfl
              generalize oddF note k4 = od at *
              clear hcut hs3 ec1 ec2 hE hA yc1 yc2
              go_upto_region 21 with fail
              go_quiet (fail)
              have HcQ := Lib.hid (Hc6.out.drewN nq)
              go_wp2_with fail
              go_roundw
              case rel => exact ⟨c2x, E, m + 1, rfl, rfl, by go_num, hEL, by omega, Hc2x.out, HB6.out, HcQ.out⟩
              case measure => simp [intOf]; omega
            · skip
              obtain ⟨hs1, hs2, hs3⟩ := Hstep.out 0
              have HS3 := Lib.hid hs3
              obtain ⟨E, hE⟩ : ∃ E, E = L - st.rest.length := ⟨_, rfl⟩
              obtain ⟨A, hA⟩ : ∃ A, A = L - st.rem := ⟨_, rfl⟩
              have Hcut := Lib.hid (cut_ab s A E)
              have hEL : E ≤ L := by omega
              have HE := Lib.hid hE
              have HA := Lib.hid hA
              rw [← hE, ← hA] at HS3 hs1
              rw [← hA] at t2
              rw [← hE] at t3 hs2
              obtain ⟨c1x, ec1, gc1, zc1, yc1⟩ := glu O ((s.take E).drop A)
              obtain ⟨c2x, ec2, gc2, zc2, yc2⟩ := glu c1x (oddF note 0)
              have Hc2x := Lib.hid (show OutI s E c2x by rw [ec2, ec1]; exact HS3.out)
              have hc2l : c2x.length ≤ 110 + E * 110 := Hc2x.out.1
              have hc1l : c1x.length ≤ c2x.length := by omega
              have hcut := Hcut.out
              rw [← hcut] at gc1
              have s0 : (A : Int) ≤ (E : Int) := by omega
              have s1 : (E : Int) ≤ (L : Int) := by omega
              have s2 : (0 : Int) ≤ (A : Int) := by omega
              have hOc : (tx O).size + ((tx s).extract A E).size ≤ 600000 := by rw [hcut, hzO, tx_size]; omega
              have hCc : (tx c1x).size + (tx (oddF note 0)).size ≤ 600000 := by rw [tx_size, tx_size]; omega
              have o0' : w6.cell? ⟨b8, 0, none⟩ = some (.string (tx (oddF note 0))) := by rw [cell_of_row w6 b8 0 _ _ (0, 0) HB6.out]; rfl
              generalize oddF note 0 = od at *
              clear hcut hs3 ec1 ec2 hE hA yc1 yc2
              go_upto_region 21 with fail
              go_quiet (fail)
              have HcQ := Lib.hid (Hc6.out.drewN nq)
              go_wp2_with fail
              go_roundw
              case rel => exact ⟨c2x, E, m + 1, rfl, rfl, by go_num, hEL, by omega, Hc2x.out, HB6.out, HcQ.out⟩
              case measure => simp [intOf]; omega
/-FRAME-/
set_option maxRecDepth 100000 in
theorem recipeNotes_lifted (os : Os) (started : os.Started) (H : Type) (enc : TypeId × Value → H) :
    ReturnsInHanded {} Tryd.checked os 7 .any (fun w args => (Rows.recipeNotesSpec.pre enc Tryd.prog Tryd.f7 [] false w args ∧ laidMetH Tryd.prog Rows.recipeNotesRow.laid w) ∧ sizedMet enc Tryd.prog Tryd.f7 (OpenSpec.ofChange Rows.recipeNotesSpec) false w args)
      (Rows.recipeNotesSpec.post enc Tryd.prog Tryd.f7 false true false false) := by
  refine returns_both (C := Tryd.checked) (X := fun w _ => laidMetH Tryd.prog Rows.recipeNotesRow.laid w) (fun _ _ _ hh h => h.of_heap hh) Tryd.own started (by kernel_rfl) Tryd.func7
    (ChangeSpec.witness_shaped (enc := enc) (C := Tryd.checked) (os := os) (X := fun w _ => laidMetH Tryd.prog Rows.recipeNotesRow.laid w) false (World.laidAll Tryd.prog os Rows.recipeNotesRow.laid) #[.string ByteArray.empty, .slice none 0 0, .string ByteArray.empty] 8 (World.laidAll_os _ _ _)
      (World.shaped_of_ZipB (by kernel_rfl) (by kernel_rfl)) (by kernel_rfl) (by kernel_rfl) (by kernel_rfl)
      (by rw [MakeChecks.laidMetH_plain _ _ _ (by kernel_rfl)]; exact laidMet_laidAll _ (by kernel_rfl) (by kernel_rfl))) ?_
  intro W base args ds gs before hval0 hW _ hsz hL hsh _
  have hval : ∀ (j : Nat) t v, Tryd.f7.params[j]? = some t → args[j]? = some v → Value.okWide Tryd.prog W .any base t v := hval0
  have hW' := hW
  obtain ⟨p, q, hA0, hV, rfl, _, _⟩ := hW
  have hA : DataW.TrodAll enc Tryd.prog W 0 (fun _ => true) true Tryd.f7.params.toList args.toList ds p := hA0
  have hsz1 : (DataW.weightsEach Tryd.prog (Tryd.f7.params.toList ++ Rows.recipeNotesSpec.plain.varTypes Tryd.prog) (ds ++ gs)).all (· ≤ reachBytes) = true := hsz
  rw [Tryd.params7] at hA hval hsz1
  obtain ⟨v0, v1, v2, d0, d1, d2, p0, p1, p2, rfl, rfl, rfl, h0, h1, h2⟩ := trodAll_three hA
  obtain ⟨rfl, rfl⟩ := trodVars_none hV
  obtain ⟨x0, rfl, rfl, rfl, wx0⟩ := open_string Tryd.underlying9 (hval 0 9 v0 rfl rfl) h0
  obtain ⟨l1, kb1, ko1, hn1⟩ := open_ints (hval 1 39 v1 rfl rfl) h1 (fun m hm => of_decide_eq_true (List.all_eq_true.1 hsz1 m (DataW.weights_mem_each (j := 1) (t := 39) (d := d1) rfl rfl m hm)))
  obtain ⟨x2, rfl, rfl, rfl, wx2⟩ := open_string Tryd.underlying9 (hval 2 9 v2 rfl rfl) h2
  simp only [List.append_nil] at hW'
  rw [MakeChecks.laidMetH_plain _ _ _ (by kernel_rfl)] at hL
  have hk := kw_of hL (by simp [Rows.recipeNotesRow]) hsh
  clear hA0 hval0
  refine (recipeNotes_all x0 l1 _ kb1 ko1 x2 W wx0 hn1 wx2 hk).mono fun e W' ⟨he, hb⟩ => ?_
  subst he
  exact ⟨_, rfl, _, _, _, [], _, [], hW', trodAll_mk1 (shut_bool Tryd.underlying4 _), (trodAll_cons_mk (shut_string Tryd.underlying9 wx0) (trodAll_cons_mk (ints_stay h1 hb.below) (trodAll_cons_mk (shut_string Tryd.underlying9 wx2) trodAll_mk0))), rfl, hb.below.frame _, fun h => by cases h⟩
theorem recipeNotes_holds : Rows.RecipeNotesSaid :=
  OpenClaim.holds_of_wide 7 Tryd.f7 rfl rfl rfl rfl rfl rfl rfl ⟨rfl, rfl, rfl, rfl, rfl⟩ rfl rfl rfl rfl rfl (by kernel_rfl) Tryd.func7 (by kernel_rfl)
    (of_decide_eq_true (by kernel_rfl)) (by unfold Func.isWrapper; first | (rw [if_pos (by decide +kernel)]; kernel_rfl) | (rw [if_neg (by decide +kernel)]; exact ⟨rfl, rfl⟩))
    (fun os started H enc _ => recipeNotes_lifted os started H enc)
theorem recipeNotes_card : Rows.RecipeNotesCardSaid :=
  Claim7.holds_tied_plain_at .later [] [.data, .widerDeep, .pinned] true (true, "84dcae1c79bcd0c5d1b5619793b6401619c3e41100eef341743cfb2d3a165d15") true recipeNotes_holds (fun _ h => by cases h) (by kernel_rfl) (fun _ h => by cases h) recipeNotes_row_tie rfl ⟨rfl, rfl⟩ (by kernel_rfl) rfl
    (fun f fn hf hfn => by
      obtain rfl : f = 7 := Option.some.inj ((show Tryd.prog.funcNamed "sapling/saplinglaw12.RecipeNotes" = some 7 by kernel_rfl).symm.trans hf) |>.symm
      obtain rfl : fn = Tryd.f7 := (Option.some.inj (Tryd.func7.symm.trans hfn)).symm
      exact ⟨by kernel_rfl, fun j t ht => by
        rw [Tryd.params7] at ht
        have hm : t ∈ [9, 39, 9] := by simpa using Array.mem_of_getElem? ht
        have hall : ([9, 39, 9].all fun u => !Tryd.prog.wantsStandIn u) = true := by kernel_rfl
        exact (show Tryd.prog.wantsStandIn t = false by simpa using List.all_eq_true.1 hall t hm)⟩)
    (by kernel_rfl)
#print axioms recipeNotes_card
end Go.Proofs.YtdgcpgbknfojhaaDoor
