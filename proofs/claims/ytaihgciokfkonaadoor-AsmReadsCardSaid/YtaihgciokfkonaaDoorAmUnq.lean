/- The contract of the document's unquoted. Condition: the text is not too long. -/
import Derived.Test.YtaihgciokfkonaaDoorAmRQuote

namespace Go.Proofs.YtaihgciokfkonaaDoor
set_option linter.unusedVariables false
open Go.ChangeShapes Go.WideShapes Go.ChangeAt Go.RowKit
def ontoI (acc : List UInt8) (o : Option (List UInt8)) : Option (List UInt8) := o.map fun x => acc ++ x
theorem ontoI_nil (o : Option (List UInt8)) : ontoI [] o = o := by cases o <;> rfl
theorem ontoI_first {acc : List UInt8} {l : List UInt8} {i : Nat} (hi : i < l.length) (h2 : (firstF (l.drop i)).2 ≠ 0) : ontoI acc (innerF (l.drop i)) = ontoI (acc ++ [(firstF (l.drop i)).1]) (innerF (l.drop (i + (firstF (l.drop i)).2))) := by
  rw [← List.drop_drop]
  have e := List.drop_eq_getElem_cons hi
  rw [e] at h2 ⊢
  rw [innerF_cons, if_neg h2]
  cases innerF ((l[i] :: l.drop (i + 1)).drop (firstF (l[i] :: l.drop (i + 1))).2) with
  | none => rfl
  | some x => simp [ontoI]
theorem ontoI_none {acc : List UInt8} {l : List UInt8} {i : Nat} (hi : i < l.length) (h2 : (firstF (l.drop i)).2 = 0) : ontoI acc (innerF (l.drop i)) = none := by
  have e := List.drop_eq_getElem_cons hi
  rw [e] at h2 ⊢
  rw [innerF_cons, if_pos h2]
  rfl
/- what the byte at place i is the beginning of -/
theorem at_plain {l : List UInt8} {i : Nat} {b : UInt8} (hi : i < l.length) (hb : l[i] = b) (h : plainC b = true) : firstF (l.drop i) = (b, 1) := by
  subst hb
  rw [List.drop_eq_getElem_cons hi]
  simp [firstF, h]
theorem at_none {l : List UInt8} {i : Nat} {b : UInt8} (hi : i < l.length) (hb : l[i] = b) (h : plainC b = false) (h9 : b.toNat ≠ 92) : (firstF (l.drop i)).2 = 0 := by
  subst hb
  rw [List.drop_eq_getElem_cons hi]
  simp [firstF, h, h9]
theorem at_short {l : List UInt8} {i : Nat} {b : UInt8} (hi : i < l.length) (hb : l[i] = b) (h9 : b.toNat = 92) (hs : l.length ≤ i + 2) : (firstF (l.drop i)).2 = 0 := by
  subst hb
  have h : plainC l[i] = false := by simp [plainC, h9]
  rw [List.drop_eq_getElem_cons hi]
  have hl : (l.drop (i + 1)).length ≤ 1 := by rw [List.length_drop]; omega
  rcases hd : l.drop (i + 1) with _ | ⟨x, _ | ⟨y, z⟩⟩
  · simp [firstF, h, h9]
  · simp [firstF, h, h9]
  · rw [hd] at hl; simp at hl
theorem at_hex {l : List UInt8} {i : Nat} {b x y : UInt8} (hs : i + 2 < l.length) (hb : l[i]'(by omega) = b) (hx : l[i + 1]'(by omega) = x) (hy : l[i + 2] = y) (h9 : b.toNat = 92) :
    firstF (l.drop i) = match hexC x, hexC y with | some a, some b => (UInt8.ofNat (16 * a + b), 3) | _, _ => (0, 0) := by
  have h : plainC b = false := by simp [plainC, h9]
  rw [List.drop_eq_getElem_cons (by omega), List.drop_eq_getElem_cons (by omega), List.drop_eq_getElem_cons (by omega), hb, hx, hy]
  simp only [firstF, h, Bool.false_eq_true, if_false, h9, ne_eq, not_true_eq_false]
  rfl
theorem get_tx {l : List UInt8} {i : Nat} (h : i < (tx l).size) : (tx l)[i] = l[i]'(by rw [tx_size] at h; exact h) := rfl
theorem cutTo (l : List UInt8) (a b : Nat) : (tx l).extract a b = tx ((l.take b).drop a) := by
  apply ByteArray.ext
  rw [ByteArray.data_extract]
  show l.toArray.extract a b = ((l.take b).drop a).toArray
  simp [List.drop_take]
/- the text within the quotes -/
set_option maxHeartbeats 8000000 in
set_option maxRecDepth 20000 in
theorem unq_in (src m : List UInt8) (c z : UInt8) (D : Option (List UInt8)) (w : World) (hz : (tx src).size = m.length + 2) (hs : m.length + 2 ≤ 131072) (h0 : 0 < (tx src).size) (h1 : m.length + 1 < (tx src).size) (g0 : (tx src)[0] = c) (g1 : (tx src)[m.length + 1] = z)
    (hin : (tx src).extract 1 (m.length + 1) = tx m) (hdoc : D = if c.toNat ≠ 34 ∨ z.toNat ≠ 34 then none else innerF m) : Calls Tryd.prog 43 #[.string (tx src)] w (SayO D w) := by
  have n0 : ¬ ((m.length : Int) + 2 < 2) := by omega
  have n1 : (m.length : Int) + 2 - 1 = (m.length : Int) + 1 := by omega
  have hzm : (tx m).size = m.length := tx_size m
  have q0 : (1 : Int) ≤ (m.length : Int) + 1 := by omega
  have q1 : (m.length : Int) + 1 ≤ (m.length : Int) + 2 := by omega
  have q2 : (0 : Int) ≤ (m.length : Int) + 1 := by omega
  have q3 : ((m.length : Int) + 1).toNat = m.length + 1 := by omega
  have Hd := Lib.hid hdoc
  clear hdoc
  by_cases hc : c.toNat = 34
  · have p0 : ((c.toNat : Int) != 34) = false := by simp [hc]
    by_cases hzz : z.toNat = 34
    · have p1 : ((z.toNat : Int) != 34) = false := by simp [hzz]
      have Hd2 := Lib.hid (show D = innerF m by rw [Hd.out, if_neg (by simp [hc, hzz])])
      clear hc hzz
      go_enter Tryd.func43, Tryd.ntmps43
      go_wp2_with fail
      go_loopw [5, 6] (fun o iv wr => ∃ i acc, iv = .int .i64 (i : Nat) ∧ i ≤ m.length ∧ acc.length ≤ i ∧ Own wr w.heap.size o acc ∧ Chg NoB w wr ∧ innerF m = ontoI acc (innerF (m.drop i))) (fun _ iv _ => m.length - (intOf iv).toNat)
      case atStart => exact ⟨0, [], rfl, Nat.zero_le _, Nat.le_refl _, World.ownsRow_nil _ _ _ _, Chg.refl _ _, (ontoI_nil _).symm⟩
      case round =>
        obtain ⟨i, acc, rfl, hil, hal, ho, hch, hx⟩ := hrel
        have Hx := Lib.hid hx
        obtain ⟨ad, cap, rfl, -, -, -⟩ := ho.shape
        obtain ⟨n, hn⟩ : ∃ n, n = acc.length := ⟨_, rfl⟩
        have Hown := Lib.hid ho
        unfold Own at ho
        rw [← hn] at ho ⊢
        have Hn := Lib.hid hn
        have Ho := Lib.hid ho
        have Hch := Lib.hid hch
        have hnb : n ≤ 131072 := by omega
        clear hx ho hch hn
        by_cases hlt : i < m.length
        · have hkk : i < (tx m).size := by omega
          obtain ⟨b, hb⟩ : ∃ b, (tx m)[i] = b := ⟨_, rfl⟩
          have hmi : m[i] = b := hb
          have Hb := Lib.hid hmi
          clear hmi
          by_cases hbad : b.toNat < 32 ∨ 126 < b.toNat ∨ b.toNat = 34
          · have Hnone := Lib.hid (show D = none by
              rw [Hd2.out, Hx.out]
              refine ontoI_none hlt (at_none hlt Hb.out ?_ ?_)
              · simp only [plainC, decide_eq_false_iff_not]; omega
              · omega)
            by_cases r1 : (b.toNat : Int) < 32
            · clear hbad
              go_wp2_with fail
              go_ret2
              exact ⟨by rw [Hnone.out]; rfl, Hch.out⟩
            · by_cases r2 : (126 : Int) < (b.toNat : Int)
              · clear hbad
                go_wp2_with fail
                go_ret2
                exact ⟨by rw [Hnone.out]; rfl, Hch.out⟩
              · have r3 : ((b.toNat : Int) == 34) = true := by rw [beq_iff_eq]; omega
                clear hbad
                go_wp2_with fail
                go_ret2
                exact ⟨by rw [Hnone.out]; rfl, Hch.out⟩
          · have r1 : ¬ ((b.toNat : Int) < 32) := by omega
            have r2 : ¬ ((126 : Int) < (b.toNat : Int)) := by omega
            have r3 : ((b.toNat : Int) == 34) = false := by rw [beq_eq_false_iff_ne]; omega
            by_cases h92 : b.toNat = 92
            · have r4 : ((b.toNat : Int) != 92) = false := by simp [h92]
              by_cases hsh : i + 2 < m.length
              · have k1 : i + 1 < (tx m).size := by omega
                have k2 : i + 2 < (tx m).size := by omega
                obtain ⟨x, hx⟩ : ∃ x, (tx m)[i + 1] = x := ⟨_, rfl⟩
                obtain ⟨y, hy⟩ : ∃ y, (tx m)[i + 2] = y := ⟨_, rfl⟩
                have Hf := Lib.hid (at_hex hsh Hb.out hx hy h92)
                have s0 : ¬ ((m.length : Int) ≤ (i : Int) + 2) := by omega
                have s1 : ((i : Int) + 1).toNat = i + 1 := by omega
                have s2 : ((i : Int) + 2).toNat = i + 2 := by omega
                have s3 : (i : Int) + 1 < (m.length : Int) := by omega
                have s4 : (i : Int) + 2 < (m.length : Int) := by omega
                have HX := Lib.hid (fun w => hex_any x w)
                have HY := Lib.hid (fun w => hex_any y w)
                clear hbad h92
                cases hhx : hexC x with
                | none =>
                  have hv : hexI x = -1 := by unfold hexI; rw [hhx]
                  have Hnone := Lib.hid (show D = none by
                    rw [Hd2.out, Hx.out]
                    exact ontoI_none hlt (by rw [Hf.out, hhx]))
                  rw [hv] at HX
                  clear hhx hv
                  go_wp2_with fail
                  refine (HX.out _).mono ?_
                  rintro e w2 ⟨rfl, rfl⟩
                  go_wp2_with fail
                  go_ret2
                  exact ⟨by rw [Hnone.out]; rfl, Hch.out⟩
                | some a =>
                  have hv : hexI x = (a : Int) := by unfold hexI; rw [hhx]
                  have ha1 := (hexC_ascii hhx).1
                  have t0 : ¬ ((a : Int) < 0) := by omega
                  have hvx := hv
                  rw [hv] at HX
                  rw [hhx] at Hf
                  clear hhx hv
                  cases hhy : hexC y with
                  | none =>
                    have hv : hexI y = -1 := by unfold hexI; rw [hhy]
                    have Hnone := Lib.hid (show D = none by
                      rw [Hd2.out, Hx.out]
                      exact ontoI_none hlt (by rw [Hf.out, hhy]))
                    rw [hv] at HY
                    clear hhy hv
                    go_wp2_with fail
                    refine (HX.out _).mono ?_
                    rintro e w2 ⟨rfl, rfl⟩
                    go_wp2_with fail
                    refine (HY.out _).mono ?_
                    rintro e w2 ⟨rfl, rfl⟩
                    go_wp2_with fail
                    go_ret2
                    exact ⟨by rw [Hnone.out]; rfl, Hch.out⟩
                  | some d =>
                    have hv : hexI y = (d : Int) := by unfold hexI; rw [hhy]
                    have hd1 := (hexC_ascii hhy).1
                    have t1 : ¬ ((d : Int) < 0) := by omega
                    have hvy := hv
                    have HZ := Lib.hid (fun c w => hex_any c w)
                    rw [hv] at HY
                    rw [hhy] at Hf
                    clear hhy hv
                    have t2 : 16 * a + d < 256 := by omega
                    have e5 : ((UInt8.ofNat (16 * a + d)).toNat : Int) = 16 * (a : Int) + d := by rw [UInt8.toNat_ofNat']; omega
                    have t3 : IntKind.u8.wrap (16 * (a : Int) + d) = 16 * (a : Int) + d := by rw [IntKind.wrap_u8']; omega
                    have n2 : n + 1 ≤ 1048576 := by omega
                    have Hnx := Lib.hid (show innerF m = ontoI (acc ++ [UInt8.ofNat (16 * a + d)]) (innerF (m.drop (i + 3))) by
                      have := ontoI_first (acc := acc) hlt (by rw [Hf.out]; simp)
                      rw [Hf.out] at this
                      rw [Hx.out, this])
                    have v0 : IntKind.i64.wrap ((i : Int) + 1) = (i : Int) + 1 := by rw [IntKind.wrap_i64]; omega
                    have v1 : IntKind.i64.wrap ((i : Int) + 2) = (i : Int) + 2 := by rw [IntKind.wrap_i64]; omega
                    have v2 : IntKind.i64.wrap (16 * (a : Int)) = 16 * (a : Int) := by rw [IntKind.wrap_i64]; omega
                    have v3 : IntKind.i64.wrap (16 * (a : Int) + d) = 16 * (a : Int) + d := by rw [IntKind.wrap_i64]; omega
                    have v4 : (0 : Int) ≤ (i : Int) + 1 := by omega
                    have v5 : (0 : Int) ≤ (i : Int) + 2 := by omega
                    go_wp2_with fail
                    refine (HX.out _).mono ?_
                    rintro e w2 ⟨rfl, hw2⟩
                    obtain rfl : wr = w2 := hw2.symm
                    go_wp2_with fail
                    refine (HY.out _).mono ?_
                    rintro e w2 ⟨rfl, hw2⟩
                    obtain rfl : wr = w2 := hw2.symm
                    go_wp2_with fail
                    go_region_law (first
                      | (go_simp; go_at_call 64; refine (HZ.out _ wr.drew).mono ?_; rintro e w2 ⟨rfl, hw2⟩; rw [hw2]; clear hw2)
                      | (refine step_lit (by rfl) wr (.tmp 81) (.tmp 95) (by rfl) w.heap.size n (.slice ad n cap) acc [UInt8.ofNat (16 * a + d)] 1 _ (by simp only [bytesV, List.map_cons, List.map_nil, e5]) rfl (by rfl) (by rfl) Hn.out Ho.out n2 Hch.out.size ?_; intro v3 w3 h3 hc3))
                    all_goals
                      go_wp2_with fail
                      go_roundw
                      case rel => exact ⟨i + 3, acc ++ [UInt8.ofNat (16 * a + d)], by go_num, by omega, by rw [List.length_append, List.length_singleton]; omega, h3, Hch.out.above hc3 fun j hj => (World.ownsRow.lt Ho.out j hj).1, Hnx.out⟩
                      case measure => simp [intOf]; omega
              · have Hnone := Lib.hid (show D = none by
                  rw [Hd2.out, Hx.out]
                  exact ontoI_none hlt (at_short hlt Hb.out h92 (by omega)))
                have s0 : (m.length : Int) ≤ (i : Int) + 2 := by omega
                clear hbad h92
                go_wp2_with fail
                go_ret2
                exact ⟨by rw [Hnone.out]; rfl, Hch.out⟩
            · have r4 : ((b.toNat : Int) != 92) = true := by rw [bne_iff_ne]; omega
              have Hf := Lib.hid (at_plain hlt Hb.out (by simp only [plainC, decide_eq_true_eq]; omega))
              have Hnx := Lib.hid (show innerF m = ontoI (acc ++ [b]) (innerF (m.drop (i + 1))) by
                have := ontoI_first (acc := acc) hlt (by rw [Hf.out]; simp)
                rw [Hf.out] at this
                rw [Hx.out, this])
              clear hbad h92
              have hal_ := (Chg.refl NoB wr).alloc (.cells #[.int .u8 (b.toNat : Int)] 5)
              have hb_ := heap_alloc_new wr (.cells #[.int .u8 (b.toNat : Int)] 5)
              obtain ⟨b2, hxb_⟩ : ∃ b, b = wr.heap.size := ⟨_, rfl⟩
              obtain ⟨w2, hw_⟩ : ∃ w_, wr.alloc (.cells #[.int .u8 (b.toNat : Int)] 5) = w_ := ⟨_, rfl⟩
              have hz_ : w2.heap.size = b2 + 1 := by rw [← hw_, hxb_]; exact alloc_size _ _
              rw [hw_] at hal_ hb_
              rw [← hxb_] at hb_
              have Hw2 := Lib.hid hw_
              have Hx2 := Lib.hid hxb_
              have Ha2 := Lib.hid hal_
              have Hb2 := Lib.hid hb_
              have Hz2 := Lib.hid hz_
              clear hal_ hb_ hxb_ hw_ hz_
              have Ho2 := Lib.hid (ownsRow_chg Ho.out Ha2.out fun _ _ => id)
              have Hbase := Lib.hid (show w.heap.size ≤ w2.heap.size from Nat.le_trans Hch.out.size Ha2.out.size)
              go_wp2_with (at_builtin; go_loud (rw [← Hx2.out, Hw2.out]); go_loud (refine wpList_lit (m := 1) (v := .slice ad n cap) (ys := [b]) rfl _ _ rfl rfl rfl rfl Hn.out Ho2.out Hb2.out (by omega) Hbase.out ?_); intro v3 w3 h3 hc3)
              go_roundw
              case rel => exact ⟨i + 1, acc ++ [b], by go_num, by omega, by rw [List.length_append, List.length_singleton]; omega, h3, (Hch.out.trans Ha2.out).above hc3 fun j hj => (World.ownsRow.lt Ho2.out j hj).1, Hnx.out⟩
              case measure => simp [intOf]; omega
        · obtain rfl : i = m.length := by omega
          have cv := Hown.out.src.conv
          rw [← Hn.out] at cv
          have Hd3 := Lib.hid (show D = some acc by rw [Hd2.out, Hx.out, List.drop_length, innerF_nil]; simp [ontoI])
          go_wp2_with fail
          go_ret2
          exact ⟨by rw [Hd3.out]; rfl, Hch.out⟩
    · have p1 : ((z.toNat : Int) != 34) = true := by rw [bne_iff_ne]; omega
      have Hd2 := Lib.hid (show D = none by rw [Hd.out, if_pos (.inr hzz)])
      clear hc hzz
      go_enter Tryd.func43, Tryd.ntmps43
      go_wp2_with fail
      go_ret2
      exact ⟨by rw [Hd2.out]; rfl, Chg.refl _ _⟩
  · have p0 : ((c.toNat : Int) != 34) = true := by rw [bne_iff_ne]; omega
    have Hd2 := Lib.hid (show D = none by rw [Hd.out, if_pos (.inl hc)])
    clear hc
    go_enter Tryd.func43, Tryd.ntmps43
    go_wp2_with fail
    go_ret2
    exact ⟨by rw [Hd2.out]; rfl, Chg.refl _ _⟩
set_option maxHeartbeats 8000000 in
set_option maxRecDepth 20000 in
theorem unq_any (s : List UInt8) (w : World) (hs : s.length ≤ 131072) : Calls Tryd.prog 43 #[.string (tx s)] w (SayO (docF s) w) := by
  have hz : (tx s).size = s.length := tx_size s
  by_cases h2 : s.length < 2
  · have Hx := Lib.hid (show docF s = none from if_pos (.inl h2))
    have h2' : (s.length : Int) < 2 := by omega
    clear h2
    go_enter Tryd.func43, Tryd.ntmps43
    go_wp2_with fail
    go_ret2
    exact ⟨by rw [Hx.out]; rfl, Chg.refl _ _⟩
  · obtain ⟨c, m, z, rfl⟩ : ∃ c m z, s = c :: (m ++ [z]) := by
      rcases s with _ | ⟨c, r⟩
      · simp at h2
      · have hr : r ≠ [] := by rintro rfl; simp at h2
        exact ⟨c, r.dropLast, r.getLast hr, by rw [List.dropLast_concat_getLast]⟩
    have hlen : (c :: (m ++ [z])).length = m.length + 2 := by simp
    rw [hlen] at hz hs h2
    have g0 : (tx (c :: (m ++ [z])))[0]'(by omega) = c := rfl
    have g1 : (tx (c :: (m ++ [z])))[m.length + 1]'(by omega) = z := by
      rw [get_tx]; simp
    have hin : (tx (c :: (m ++ [z]))).extract 1 (m.length + 1) = tx m := by
      rw [cutTo]
      simp
    have Hdoc := Lib.hid (show docF (c :: (m ++ [z])) = if c.toNat ≠ 34 ∨ z.toNat ≠ 34 then none else innerF m by
      unfold docF
      have e1 : (c :: (m ++ [z])).head? = some c := rfl
      have e2 : (c :: (m ++ [z])).getLast? = some z := by rw [← List.cons_append, List.getLast?_concat]
      have e3 : ((c :: (m ++ [z])).drop 1).dropLast = m := by simp
      rw [e1, e2, e3]
      have e4 : ∀ x : UInt8, some x ≠ some (34 : UInt8) ↔ x.toNat ≠ 34 := fun x => by
        rw [ne_eq, Option.some.injEq, ← UInt8.toNat_inj]; rfl
      by_cases h : c.toNat ≠ 34 ∨ z.toNat ≠ 34
      · rw [if_pos h, if_pos (.inr (h.imp (e4 c).2 (e4 z).2))]
      · rw [if_neg h, if_neg]
        rintro (h' | h' | h')
        · exact absurd h' (by rw [hlen]; omega)
        · exact h (.inl ((e4 c).1 h'))
        · exact h (.inr ((e4 z).1 h')))
    exact unq_in _ m c z _ w hz hs (by omega) (by omega) g0 g1 hin Hdoc.out
end Go.Proofs.YtaihgciokfkonaaDoor
