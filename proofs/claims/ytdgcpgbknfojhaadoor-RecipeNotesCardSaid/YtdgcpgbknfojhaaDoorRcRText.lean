/- The contract of the document's text token. Condition: the text is not too long. -/
import Derived.Test.YtdgcpgbknfojhaaDoorRcRHex
import Derived.Test.YtdgcpgbknfojhaaDoorRcTerm

namespace Go.Proofs.YtdgcpgbknfojhaaDoor
set_option linter.unusedVariables false
open Go.ChangeShapes Go.WideShapes Go.ChangeAt Go.RowKit
/- what the byte at place i is the beginning of -/
theorem at_plain {l : List UInt8} {i : Nat} {b : UInt8} (hi : i < l.length) (hb : l[i] = b) (h : plainC b = true) : firstF (l.drop i) = (b, 1) := by
  subst hb
  rw [List.drop_eq_getElem_cons hi]
  simp [firstF, h]
theorem at_none {l : List UInt8} {i : Nat} {b : UInt8} (hi : i < l.length) (hb : l[i] = b) (h : plainC b = false) (h9 : b.toNat ≠ 92) : (firstF (l.drop i)).2 = 0 := by
  subst hb
  rw [List.drop_eq_getElem_cons hi]
  simp [firstF, h, h9]
theorem at_short {l : List UInt8} {i : Nat} {b : UInt8} (hi : i < l.length) (hb : l[i] = b) (h9 : b.toNat = 92) (hs : l.length ≤ i + 2) : (firstF (l.drop i)).2 = 0 := by
  subst hb
  have h : plainC l[i] = false := by simp [plainC, h9]
  rw [List.drop_eq_getElem_cons hi]
  have hl : (l.drop (i + 1)).length ≤ 1 := by rw [List.length_drop]; omega
  rcases hd : l.drop (i + 1) with _ | ⟨x, _ | ⟨y, z⟩⟩
  · simp [firstF, h, h9]
  · simp [firstF, h, h9]
  · rw [hd] at hl; simp at hl
theorem at_hex {l : List UInt8} {i : Nat} {b x y : UInt8} (hs : i + 2 < l.length) (hb : l[i]'(by omega) = b) (hx : l[i + 1]'(by omega) = x) (hy : l[i + 2] = y) (h9 : b.toNat = 92) :
    firstF (l.drop i) = match hexC x, hexC y with | some a, some b => (UInt8.ofNat (16 * a + b), 3) | _, _ => (0, 0) := by
  have h : plainC b = false := by simp [plainC, h9]
  rw [List.drop_eq_getElem_cons (by omega), List.drop_eq_getElem_cons (by omega), List.drop_eq_getElem_cons (by omega), hb, hx, hy]
  simp only [firstF, h, Bool.false_eq_true, if_false, h9, ne_eq, not_true_eq_false]
  rfl
theorem get_tx {l : List UInt8} {i : Nat} (h : i < (tx l).size) : (tx l)[i] = l[i]'(by rw [tx_size] at h; exact h) := rfl

theorem hexN_none {c : UInt8} (h : hexC c = none) : hexN c = 16 := by unfold hexN; rw [h]; rfl
theorem hexN_some {c : UInt8} {a : Nat} (h : hexC c = some a) : hexN c = a ∧ a ≤ 15 := by
  refine ⟨by unfold hexN; rw [h]; rfl, ?_⟩
  unfold hexC at h
  split at h
  · cases h; omega
  · split at h
    · cases h; omega
    · cases h
theorem onto_at {acc l : List UInt8} {i : Nat} (hi : i < l.length) (h1 : l[i].toNat ≠ 34) (h2 : (firstF (l.drop i)).2 ≠ 0) : onto acc (cutR (l.drop i)) = onto (acc ++ [(firstF (l.drop i)).1]) (cutR (l.drop (i + (firstF (l.drop i)).2))) := by
  rw [← List.drop_drop]
  have e := List.drop_eq_getElem_cons hi
  rw [e] at h2 ⊢
  exact onto_first h1 h2
theorem onto_end {acc l : List UInt8} {i : Nat} (hi : i < l.length) (h1 : l[i].toNat = 34) : onto acc (cutR (l.drop i)) = some (acc, l.drop (i + 1)) := by
  rw [List.drop_eq_getElem_cons hi, cutR_cons, if_pos h1]
  simp [onto]
theorem onto_bad {acc l : List UInt8} {i : Nat} (hi : i < l.length) (h1 : l[i].toNat ≠ 34) (h2 : (firstF (l.drop i)).2 = 0) : onto acc (cutR (l.drop i)) = none := by
  have e := List.drop_eq_getElem_cons hi
  rw [e] at h2 ⊢
  rw [cutR_cons, if_neg h1, if_pos h2]
  rfl
/- the token's value; no token -/
def tokV (kind : Nat) (s : List UInt8) (at' fin : Nat) : Value := .agg #[.int .i64 kind, .string (tx s), .int .i64 at', .int .i64 fin]
def RTokP (L p : Nat) (D : Option (List UInt8 × List UInt8)) (w : World) (e : Ending) (w' : World) : Prop := Chg NoB w w' ∧ match D with
  | some (t, b) => e = .returned (.tuple #[tokV 3 t p (L - b.length), .bool true])
  | none => e = .returned (.tuple #[tokV 0 [] p 0, .bool false])
theorem results_4T {fn : Func} {p q : Tmp} {ty : TypeId} (h : fn.results = #[.cell p ty, .tmp q]) (tmps : Array Value) {P : Program} {w : World} {a : Addr} {v : Value} (hp : tmps.getD p undef = .pointer (some a)) (hl : (loadVar ty a).run P w = .ok v w) : (results fn tmps).run P w = .ok (.tuple #[v, tmps.getD q undef]) w := by
  rw [Array.getD_eq_getD_getElem?] at hp
  simp only [results, h]
  simp [hp, asAddr, hl]
theorem set4 {w : World} {b : Nat} {x0 x1 x2 x3 : Value} {t : TypeId} (h : w.heap[b]? = some (.cells #[x0, x1, x2, x3] t (0, 0))) (y0 y1 y2 y3 : Value) :
    ((((w.setCell ⟨b, 0, none⟩ y0).setCell ⟨b, 1, none⟩ y1).setCell ⟨b, 2, none⟩ y2).setCell ⟨b, 3, none⟩ y3).heap[b]? = some (.cells #[y0, y1, y2, y3] t (0, 0)) ∧
    Chg (fun k => k = b) w ((((w.setCell ⟨b, 0, none⟩ y0).setCell ⟨b, 1, none⟩ y1).setCell ⟨b, 2, none⟩ y2).setCell ⟨b, 3, none⟩ y3) :=
  ⟨heap_set (heap_set (heap_set (heap_set h (i := 0) y0) (i := 1) y1) (i := 2) y2) (i := 3) y3, ((((Chg.refl (fun k => k = b) w).setCell (p := ⟨b, 0, none⟩) (.inl rfl) y0).setCell (p := ⟨b, 1, none⟩) (.inl rfl) y1).setCell (p := ⟨b, 2, none⟩) (.inl rfl) y2).setCell (p := ⟨b, 3, none⟩) (.inl rfl) y3⟩
/- no token: the box is set and answered -/
set_option maxHeartbeats 8000000 in
set_option maxRecDepth 20000 in
theorem rtext_any (s : List UInt8) (p : Nat) (w : World) (hp : p < s.length) (hs : s.length ≤ 8192) : Calls Tryd.prog 45 #[.string (tx s), .int .i64 (p : Int)] w (RTokP s.length p (cutR (s.drop (p + 1))) w) := by
  have hz : (tx s).size = s.length := tx_size s
  obtain ⟨D, hD⟩ : ∃ D, D = cutR (s.drop (p + 1)) := ⟨_, rfl⟩
  obtain ⟨L, hL⟩ : ∃ L, L = s.length := ⟨_, rfl⟩
  rw [← hD, ← hL]
  have HD := Lib.hid hD
  have HLn := Lib.hid hL
  rw [← hL] at hz hp hs
  clear hD hL
  have hal_ := (Chg.refl NoB w).alloc (.cells #[.int .i64 0, .string ⟨#[]⟩, .int .i64 0, .int .i64 0] 42)
  have hb_ := heap_alloc_new w (.cells #[.int .i64 0, .string ⟨#[]⟩, .int .i64 0, .int .i64 0] 42)
  obtain ⟨b4, hxb_⟩ : ∃ b, b = w.heap.size := ⟨_, rfl⟩
  obtain ⟨w1, hw_⟩ : ∃ w_, w.alloc (.cells #[.int .i64 0, .string ⟨#[]⟩, .int .i64 0, .int .i64 0] 42) = w_ := ⟨_, rfl⟩
  have hz_ : w1.heap.size = b4 + 1 := by rw [← hw_, hxb_]; exact alloc_size _ _
  rw [hw_] at hal_ hb_
  rw [← hxb_] at hb_
  have Hw4 := Lib.hid hw_
  have Hx4 := Lib.hid hxb_
  have Ha4 := Lib.hid hal_
  have Hb4 := Lib.hid hb_
  have Hz4 := Lib.hid hz_
  clear hal_ hb_ hxb_ hw_ hz_
  go_enter Tryd.func45, Tryd.ntmps45
  go_upto_region 1 with fail
  rw [Hw4.out, ← Hx4.out]
  go_wp2_with fail
  go_loopw [6, 7] (fun o iv wr => ∃ i acc, iv = .int .i64 (i : Nat) ∧ i ≤ L ∧ acc.length ≤ i ∧ Own wr w1.heap.size o acc ∧ wr.heap[b4]? = some (.cells #[.int .i64 0, .string ⟨#[]⟩, .int .i64 0, .int .i64 0] 42 (0, 0)) ∧ Chg NoB w1 wr ∧ D = onto acc (cutR (s.drop i))) (fun _ iv _ => L - (intOf iv).toNat)
  case atStart => exact ⟨p + 1, [], by go_num, by omega, Nat.zero_le _, World.ownsRow_nil _ _ _ _, Hb4.out, Chg.refl _ _, by rw [onto_nil]; exact HD.out⟩
  case round =>
    obtain ⟨i, acc, rfl, hil, hal, ho, hb4, hch, hx⟩ := hrel
    have Hx := Lib.hid hx
    obtain ⟨ad, cap, rfl, -, -, -⟩ := ho.shape
    obtain ⟨n, hn⟩ : ∃ n, n = acc.length := ⟨_, rfl⟩
    have Hown := Lib.hid ho
    unfold Own at ho
    rw [← hn] at ho ⊢
    have Hn := Lib.hid hn
    have Ho := Lib.hid ho
    have Hch1 := Lib.hid hch
    have Hch := Lib.hid (Ha4.out.trans hch)
    have Hb4r := Lib.hid hb4
    have HS := set4 hb4
    obtain ⟨v0, v1, v2, v3⟩ := var4 hb4
    have fr := row_free hb4
    have hnb : n ≤ 8192 := by omega
    clear hx ho hch hn hb4
    by_cases hlt : i < L
    · have hls : i < s.length := by rw [← HLn.out]; exact hlt
      have hkk : i < (tx s).size := by omega
      obtain ⟨b, hb⟩ : ∃ b, (tx s)[i] = b := ⟨_, rfl⟩
      have hmi : s[i] = b := hb
      have Hb := Lib.hid hmi
      clear hmi
      by_cases h34 : b.toNat = 34
      · have r0 : ((b.toNat : Int) != 34) = false := by simp [h34]
        have Hend := Lib.hid (show D = some (acc, s.drop (i + 1)) by rw [Hx.out]; exact onto_end hls ((congrArg UInt8.toNat Hb.out).trans h34))
        have cv := Hown.out.src.conv
        rw [← Hn.out] at cv
        have hle : ¬ (L : Int) ≤ (i : Int) := by omega
        clear h34
        go_wp2_with fail
        refine bodyPost_ret (results_4T rfl _ rfl (run_loadVar_row _ _ _ _ _ _ _ (HS _ _ _ _).1 (Tryd.underlying42) rfl rfl)) rfl ⟨Hch.out.above (HS _ _ _ _).2 fun k e => by have := Hx4.out; omega, ?_⟩
        rw [Hend.out]
        show _ = Ending.returned (.tuple #[tokV 3 acc p (L - (s.drop (i + 1)).length), .bool true])
        rw [List.length_drop, ← HLn.out, show L - (L - (i + 1)) = i + 1 by omega]
        rfl
      · have r0 : ((b.toNat : Int) != 34) = true := by rw [bne_iff_ne]; omega
        have H34 := Lib.hid (show s[i].toNat ≠ 34 from fun e => h34 ((congrArg UInt8.toNat Hb.out).symm.trans e))
        by_cases hbad : b.toNat < 32 ∨ 126 < b.toNat
        · have Hnone := Lib.hid (show D = none by
            rw [Hx.out]
            refine onto_bad hls H34.out (at_none hls Hb.out ?_ ?_)
            · simp only [plainC, decide_eq_false_iff_not]; omega
            · omega)
          by_cases r1 : (b.toNat : Int) < 32
          · clear hbad
            go_wp2_with fail
            refine bodyPost_ret (results_4T rfl _ rfl (run_loadVar_row _ _ _ _ _ _ _ (HS _ _ _ _).1 (Tryd.underlying42) rfl rfl)) rfl ⟨Hch.out.above (HS _ _ _ _).2 fun k e => by have := Hx4.out; omega, ?_⟩
            rw [Hnone.out]
            rfl
          · have r2 : (126 : Int) < (b.toNat : Int) := by omega
            clear hbad
            go_wp2_with fail
            refine bodyPost_ret (results_4T rfl _ rfl (run_loadVar_row _ _ _ _ _ _ _ (HS _ _ _ _).1 (Tryd.underlying42) rfl rfl)) rfl ⟨Hch.out.above (HS _ _ _ _).2 fun k e => by have := Hx4.out; omega, ?_⟩
            rw [Hnone.out]
            rfl
        · have r1 : ¬ ((b.toNat : Int) < 32) := by omega
          have r2 : ¬ ((126 : Int) < (b.toNat : Int)) := by omega
          by_cases h92 : b.toNat = 92
          · have r4 : ((b.toNat : Int) != 92) = false := by simp [h92]
            by_cases hsh : i + 2 < L
            · have hss : i + 2 < s.length := by rw [← HLn.out]; exact hsh
              have k1 : i + 1 < (tx s).size := by omega
              have k2 : i + 2 < (tx s).size := by omega
              obtain ⟨x, hx⟩ : ∃ x, (tx s)[i + 1] = x := ⟨_, rfl⟩
              obtain ⟨y, hy⟩ : ∃ y, (tx s)[i + 2] = y := ⟨_, rfl⟩
              have Hf := Lib.hid (at_hex hss Hb.out hx hy h92)
              have s0 : ¬ ((L : Int) ≤ (i : Int) + 2) := by omega
              have s1 : ((i : Int) + 1).toNat = i + 1 := by omega
              have s2 : ((i : Int) + 2).toNat = i + 2 := by omega
              have s3 : (i : Int) + 1 < (L : Int) := by omega
              have s4 : (i : Int) + 2 < (L : Int) := by omega
              have HX := Lib.hid (fun w => rhex_any x w)
              have HY := Lib.hid (fun w => rhex_any y w)
              clear hbad h92 h34
              cases hhx : hexC x with
              | none =>
                have Hnone := Lib.hid (show D = none by
                  rw [Hx.out]
                  exact onto_bad hls H34.out (by rw [Hf.out, hhx]))
                rw [hexN_none hhx] at HX
                clear hhx
                go_wp2_with fail
                refine (HX.out _).mono ?_
                rintro e w2 ⟨rfl, hw2⟩
                obtain rfl : wr = w2 := hw2.symm
                go_wp2_with fail
                refine bodyPost_ret (results_4T rfl _ rfl (run_loadVar_row _ _ _ _ _ _ _ (HS _ _ _ _).1 (Tryd.underlying42) rfl rfl)) rfl ⟨Hch.out.above (HS _ _ _ _).2 fun k e => by have := Hx4.out; omega, ?_⟩
                rw [Hnone.out]
                rfl
              | some a =>
                obtain ⟨hva, ha1⟩ := hexN_some hhx
                have t0 : ¬ ((15 : Int) < (a : Int)) := by omega
                rw [hva] at HX
                rw [hhx] at Hf
                clear hhx
                cases hhy : hexC y with
                | none =>
                  have Hnone := Lib.hid (show D = none by
                    rw [Hx.out]
                    exact onto_bad hls H34.out (by rw [Hf.out, hhy]))
                  rw [hexN_none hhy] at HY
                  clear hhy
                  go_wp2_with fail
                  refine (HX.out _).mono ?_
                  rintro e w2 ⟨rfl, hw2⟩
                  obtain rfl : wr = w2 := hw2.symm
                  go_wp2_with fail
                  refine (HY.out _).mono ?_
                  rintro e w2 ⟨rfl, hw2⟩
                  obtain rfl : wr = w2 := hw2.symm
                  go_wp2_with fail
                  refine bodyPost_ret (results_4T rfl _ rfl (run_loadVar_row _ _ _ _ _ _ _ (HS _ _ _ _).1 (Tryd.underlying42) rfl rfl)) rfl ⟨Hch.out.above (HS _ _ _ _).2 fun k e => by have := Hx4.out; omega, ?_⟩
                  rw [Hnone.out]
                  rfl
                | some d =>
                  obtain ⟨hvd, hd1⟩ := hexN_some hhy
                  have t1 : ¬ ((15 : Int) < (d : Int)) := by omega
                  have HZ := Lib.hid (fun c w => rhex_any c w)
                  rw [hvd] at HY
                  rw [hhy] at Hf
                  clear hhy
                  have e5 : ((UInt8.ofNat (16 * a + d)).toNat : Int) = 16 * (a : Int) + d := by rw [UInt8.toNat_ofNat']; omega
                  have t3 : IntKind.u8.wrap (16 * (a : Int) + d) = 16 * (a : Int) + d := by unfold IntKind.wrap; simp [IntKind.bits, IntKind.signed]; omega
                  have n2 : n + 1 ≤ 1048576 := by omega
                  have Hnx := Lib.hid (show D = onto (acc ++ [UInt8.ofNat (16 * a + d)]) (cutR (s.drop (i + 3))) by
                    have := onto_at (acc := acc) hls H34.out (by rw [Hf.out]; simp)
                    rw [Hf.out] at this
                    rw [Hx.out, this])
                  have v0' : IntKind.i64.wrap ((i : Int) + 1) = (i : Int) + 1 := by rw [IntKind.wrap_i64]; omega
                  have v1' : IntKind.i64.wrap ((i : Int) + 2) = (i : Int) + 2 := by rw [IntKind.wrap_i64]; omega
                  have v2' : IntKind.i64.wrap (16 * (a : Int)) = 16 * (a : Int) := by rw [IntKind.wrap_i64]; omega
                  have v3' : IntKind.i64.wrap (16 * (a : Int) + d) = 16 * (a : Int) + d := by rw [IntKind.wrap_i64]; omega
                  have v4 : (0 : Int) ≤ (i : Int) + 1 := by omega
                  have v5 : (0 : Int) ≤ (i : Int) + 2 := by omega
                  have Hbs := Lib.hid (show w1.heap.size ≤ wr.heap.size from Hch1.out.size)
                  go_wp2_with fail
                  refine (HX.out _).mono ?_
                  rintro e w2 ⟨rfl, hw2⟩
                  obtain rfl : wr = w2 := hw2.symm
                  go_wp2_with fail
                  refine (HY.out _).mono ?_
                  rintro e w2 ⟨rfl, hw2⟩
                  obtain rfl : wr = w2 := hw2.symm
                  go_wp2_with fail
                  go_region_law (first
                    | (refine step_lit (by rfl) wr (.tmp 67) (.tmp 81) (by rfl) w1.heap.size n (.slice ad n cap) acc [UInt8.ofNat (16 * a + d)] 1 _ (by simp only [bytesV, List.map_cons, List.map_nil, e5]) rfl (by rfl) (by rfl) Hn.out Ho.out n2 Hbs.out ?_; intro v3 w3 h3 hc3)
                    | (go_simp; go_at_call 64; refine (HZ.out _ wr.drew).mono ?_; rintro e w2 ⟨rfl, hw2⟩; rw [hw2]; clear hw2))
                  all_goals
                    go_wp2_with fail
                    go_roundw
                    case rel => exact ⟨i + 3, acc ++ [UInt8.ofNat (16 * a + d)], by go_num, by omega, by rw [List.length_append, List.length_singleton]; omega, h3, row_kept hc3 Hb4r.out (fun e => by have := (World.ownsRow.lt Ho.out _ e).1; rw [Hz4.out] at this; omega), Hch1.out.above hc3 fun j hj => (World.ownsRow.lt Ho.out j hj).1, Hnx.out⟩
                    case measure => simp [intOf]; omega
            · have Hnone := Lib.hid (show D = none by
                rw [Hx.out]
                exact onto_bad hls H34.out (at_short hls Hb.out h92 (by rw [← HLn.out]; omega)))
              have s0 : (L : Int) ≤ (i : Int) + 2 := by omega
              clear hbad h92 h34
              go_wp2_with fail
              refine bodyPost_ret (results_4T rfl _ rfl (run_loadVar_row _ _ _ _ _ _ _ (HS _ _ _ _).1 (Tryd.underlying42) rfl rfl)) rfl ⟨Hch.out.above (HS _ _ _ _).2 fun k e => by have := Hx4.out; omega, ?_⟩
              rw [Hnone.out]
              rfl
          · have r4 : ((b.toNat : Int) != 92) = true := by rw [bne_iff_ne]; omega
            have Hf := Lib.hid (at_plain hls Hb.out (by simp only [plainC, decide_eq_true_eq]; omega))
            have Hnx := Lib.hid (show D = onto (acc ++ [b]) (cutR (s.drop (i + 1))) by
              have := onto_at (acc := acc) hls H34.out (by rw [Hf.out]; simp)
              rw [Hf.out] at this
              rw [Hx.out, this])
            clear hbad h92 h34
            have hal_ := (Chg.refl NoB wr).alloc (.cells #[.int .u8 (b.toNat : Int)] 5)
            have hb_ := heap_alloc_new wr (.cells #[.int .u8 (b.toNat : Int)] 5)
            obtain ⟨b2, hxb_⟩ : ∃ b, b = wr.heap.size := ⟨_, rfl⟩
            obtain ⟨w2, hw_⟩ : ∃ w_, wr.alloc (.cells #[.int .u8 (b.toNat : Int)] 5) = w_ := ⟨_, rfl⟩
            have hz_ : w2.heap.size = b2 + 1 := by rw [← hw_, hxb_]; exact alloc_size _ _
            rw [hw_] at hal_ hb_
            rw [← hxb_] at hb_
            have Hw2 := Lib.hid hw_
            have Hx2 := Lib.hid hxb_
            have Ha2 := Lib.hid hal_
            have Hb2 := Lib.hid hb_
            have Hz2 := Lib.hid hz_
            clear hal_ hb_ hxb_ hw_ hz_
            have Ho2 := Lib.hid (ownsRow_chg Ho.out Ha2.out fun _ _ => id)
            have Hbase := Lib.hid (show w1.heap.size ≤ w2.heap.size from Nat.le_trans Hch1.out.size Ha2.out.size)
            have Hz41 := Lib.hid (show b4 < w1.heap.size by rw [Hz4.out]; exact Nat.lt_succ_self _)
            go_wp2_with (at_builtin; go_loud (rw [← Hx2.out, Hw2.out]); go_loud (refine wpList_lit (m := 1) (v := .slice ad n cap) (ys := [b]) rfl _ _ rfl rfl rfl rfl Hn.out Ho2.out Hb2.out (by omega) Hbase.out ?_); intro v3 w3 h3 hc3)
            go_roundw
            case rel => exact ⟨i + 1, acc ++ [b], by go_num, by omega, by rw [List.length_append, List.length_singleton]; omega, h3, row_kept hc3 (row_kept Ha2.out Hb4r.out id) (fun e => by have := (World.ownsRow.lt Ho2.out _ e).1; have := Hz41.out; omega), (Hch1.out.trans Ha2.out).above hc3 fun j hj => (World.ownsRow.lt Ho2.out j hj).1, Hnx.out⟩
            case measure => simp [intOf]; omega
    · obtain rfl : i = L := by omega
      have Hnone := Lib.hid (show D = none by
        rw [Hx.out, HLn.out, List.drop_length]; rfl)
      go_wp2_with fail
      refine bodyPost_ret (results_4T rfl _ rfl (run_loadVar_row _ _ _ _ _ _ _ (HS _ _ _ _).1 (Tryd.underlying42) rfl rfl)) rfl ⟨Hch.out.above (HS _ _ _ _).2 fun k e => by have := Hx4.out; omega, ?_⟩
      rw [Hnone.out]
      rfl
end Go.Proofs.YtdgcpgbknfojhaaDoor
