/- The walk of the statement LogReads. Condition: each text within the form's reach. -/
import Derived.Test.YtdgpeffbgejjlaaLogWalkE
import Derived.Lib.ConvBytes
import Derived.Lib.SmallJoins
import Derived.StillTailTactics
import Derived.Lib.QuietBelow
namespace Go.Proofs.Ytdgpeffbgejjlaa
set_option linter.unusedVariables false
open Go.ChangeShapes Go.WideShapes Go.ChangeAt Go.RowKit Go.Sort
theorem chg_of_below {w w' : World} (h : Below w.heap.size w w') : Chg NoB w w' := ⟨h.os, h.tape, h.output, h.size, fun k hk _ => h.block k hk⟩
theorem bytes_src (w : World) (s : ByteArray) (hs : s.size ≤ maxLen) : Src (Lib.bytesWorld w 5 s) (.slice (some ⟨w.heap.size, 0, none⟩) s.size (grownCap w s.size 0 5)) s.data.toList := by
  have hl : s.data.toList.length = s.size := by simp
  refine .inr ⟨_, _, by rw [hl], by rw [hl]; exact grownCap_ge _ _ _ _, grownCap_le_maxLen _ _ _ _ hs, fun j hj => ?_⟩
  have hj' : j < s.size := by omega
  have := Lib.bytesWorld_cell w 5 s j hj'
  rw [Addr.add_lit, Nat.zero_add, this, List.getD_eq_getElem?_getD, List.getElem?_eq_getElem hj]
  rfl
theorem bytes_chg (w : World) (s : ByteArray) : Chg NoB w (Lib.bytesWorld w 5 s) := by
  have := Joins.below_bytesWorld w.heap.size w 5 s (Nat.le_refl _)
  exact ⟨this.os, this.tape, this.output, this.size, fun k hk _ => this.block k hk⟩
/- how many bytes are counted, behind so many records -/
def cnt3 (n0 : Nat) (ps : List ByteArray) (k : Nat) : Nat := n0 + ((ps.take k).map fun p => 3 + p.size).sum
theorem cnt3_zero (n0 : Nat) (ps : List ByteArray) : cnt3 n0 ps 0 = n0 := by simp [cnt3]
theorem cnt3_succ (n0 : Nat) (ps : List ByteArray) (k : Nat) (h : k < ps.length) : cnt3 n0 ps (k + 1) = cnt3 n0 ps k + (3 + ps[k].size) := by
  unfold cnt3
  rw [List.take_succ_eq_append_getElem h]
  simp only [List.map_append, List.map_cons, List.map_nil, List.sum_append, List.sum_cons, List.sum_nil]
  omega
def raw (ps : List ByteArray) : List (List UInt8) := ps.map (·.data.toList)
theorem raw_len (ps : List ByteArray) : (raw ps).length = ps.length := by simp [raw]
theorem raw_tx (ps : List ByteArray) : (raw ps).map tx = ps := by
  unfold raw
  induction ps with
  | nil => rfl
  | cons p ps ih => rw [List.map_cons, List.map_cons, ih]; rfl
theorem raw_take (ps : List ByteArray) (k : Nat) (h : k < ps.length) : framesL ((raw ps).take (k + 1)) = framesL ((raw ps).take k) ++ frameL ps[k].data.toList := by
  rw [framesL_take _ k (by rw [raw_len]; exact h)]
  simp [raw]
theorem frames_cnt (n0 : Nat) (ps : List ByteArray) : ∀ k, k ≤ ps.length → (framesL ((raw ps).take k)).length + n0 = cnt3 n0 ps k := by
  intro k
  induction k with
  | zero => intro _; simp [cnt3, framesL]
  | succ k ih =>
    intro hk
    rw [raw_take ps k (by omega), List.length_append, frameL_len, cnt3_succ n0 ps k (by omega), ← ih (by omega)]
    simp
    omega
theorem cnt3_mono (n0 : Nat) (ps : List ByteArray) (k : Nat) (h : k < ps.length) : 3 + ps[k].size ≤ cnt3 n0 ps ps.length := by
  have : ∀ d, k + 1 + d ≤ ps.length → cnt3 n0 ps (k + 1) ≤ cnt3 n0 ps (k + 1 + d) := by
    intro d
    induction d with
    | zero => intro _; exact Nat.le_refl _
    | succ d ih =>
      intro hd
      have := ih (by omega)
      have e := cnt3_succ n0 ps (k + 1 + d) (by omega)
      rw [show k + 1 + (d + 1) = k + 1 + d + 1 by omega, e]
      omega
  have h2 := this (ps.length - (k + 1)) (by omega)
  rw [show k + 1 + (ps.length - (k + 1)) = ps.length by omega, cnt3_succ n0 ps k h] at h2
  omega
/- what the statement asks of its input's end -/
structure Fit (ps : List ByteArray) (last more : ByteArray) (n : Nat) : Prop where
  few : ps.length ≤ 60
  cnt : cnt3 (last.size + more.size) ps ps.length ≤ 65536
  at_ : n < 3 + last.size
theorem Fit.small {ps : List ByteArray} {last more : ByteArray} {n : Nat} (h : Fit ps last more n) : ∀ r ∈ raw ps, r.length ≤ 65536 := by
  intro r hr
  obtain ⟨p, hp, rfl⟩ := List.mem_map.1 hr
  obtain ⟨j, hj, rfl⟩ := List.getElem_of_mem hp
  have := cnt3_mono (last.size + more.size) ps j hj
  have h2 := h.cnt
  have e : ps[j].data.toList.length = ps[j].size := by simp
  omega
theorem Fit.len {ps : List ByteArray} {last more : ByteArray} {n : Nat} (h : Fit ps last more n) : (framesL (raw ps)).length + last.size + more.size ≤ 65536 := by
  have := frames_cnt (last.size + more.size) ps ps.length (Nat.le_refl _)
  rw [List.take_of_length_le (by rw [raw_len]; exact Nat.le_refl _)] at this
  have := h.cnt
  omega
/- the ribbon's first bytes, the log opened on it -/
theorem open_fit (b : Nat) (R : Nat → Prop) (ps : List ByteArray) (last more : ByteArray) (n : Nat) (hf : Fit ps last more n) (w : World) (xs : List UInt8) (hx : xs = framesL (raw ps) ++ (frameL last.data.toList).take n) (h : Rb w b R ⟨xs, xs.length, false, 0, 0, 0⟩) (hbd : Bd R w) :
    Calls Try.prog 7 #[.pointer (some ⟨b, 0, none⟩)] w fun e w' => ∃ l v R' safe ac, e = .returned (.tuple #[.pointer (some ⟨l, 0, none⟩), v, .int .i64 0]) ∧ ac ≤ 1 ∧ Opn b R (raw ps) ⟨framesL (raw ps), safe, false, ac, 0, 0⟩ w l v R' w' := by
  have hl := hf.len
  have hn := hf.at_
  by_cases h0 : n = 0
  · subst h0
    rw [List.take_zero, List.append_nil] at hx
    subst hx
    exact (open_clean b R (raw ps) _ 0 0 w h hbd hf.small (by omega)).mono fun e w' ⟨l, v, R', he, ho⟩ => ⟨l, v, R', _, 0, he, by omega, ho⟩
  · subst hx
    have hll : last.data.toList.length = last.size := by simp
    have htl : ((frameL last.data.toList).take n).length = n := by rw [List.length_take, frameL_len, hll]; omega
    exact (open_cut b R (raw ps) ((frameL last.data.toList).take n) _ 0 0 w h hbd hf.small (by rw [List.length_append, htl]; omega) (part_frame _ n (by rw [hll]; exact hn) (by omega)) (by omega) (by decide)).mono fun e w' ⟨l, v, R', he, ho⟩ => ⟨l, v, R', _, 1, he, by omega, ho⟩
def Yes (w : World) (e : Ending) (w' : World) : Prop := e = .returned (.bool true) ∧ Below w.heap.size w w'
set_option maxHeartbeats 8000000 in
theorem reads_walk (ad : Option Addr) (cap : Nat) (ps : List ByteArray) (last more : ByteArray) (at0 : Int) (w : World) (hv : TxS w (.slice ad ps.length cap) ps) (hp : ∀ p ∈ ps, p.size ≤ 140737488351232) (hl : last.size ≤ 140737488351232) (hm : more.size ≤ 140737488351232) (hlen : ps.length ≤ 9223372036854775807) :
    Calls Try.prog 3 #[.slice ad ps.length cap, .string last, .int .i64 at0, .string more] w (Yes w) := by
  have HV := Lib.hid hv
  have HP := Lib.hid hp
  have hA : ∀ k (h : k < ps.length), ∃ b off, ad = some ⟨b, off, none⟩ ∧ w.cell? ⟨b, off + k, none⟩ = some (.string ps[k]) := by
    intro k h
    rcases hv with ⟨x, hn⟩ | ⟨b, off, c, x, _, hc⟩
    · rw [hn] at h; simp at h
    · simp only [Value.slice.injEq] at x
      exact ⟨b, off, x.1, hc k h⟩
  have HA := Lib.hid hA
  obtain ⟨n0, hn0⟩ : ∃ n, last.size + more.size = n := ⟨_, rfl⟩
  have hn1 : n0 ≤ 281474976702464 := by omega
  have Hn0 := Lib.hid hn0
  have hadd : (last.size : Int) + (more.size : Int) = (n0 : Int) := by omega
  clear hv hp hA hn0
  go_enter Try.func3, Try.ntmps3
  go_wp2_with fail
  refine (alive_any _).mono ?_
  rintro e w1 ⟨rfl, hc1⟩
  have HC1 := Lib.hid hc1
  clear hc1
  go_wp2_with fail
  go_loopw [9, 10, 27] (fun n t i wr => ∃ k : Nat, k ≤ ps.length ∧ i = .int .i64 k ∧ n = .int .i64 (cnt3 n0 ps k : Nat) ∧ t = .string (tx (framesL ((raw ps).take k))) ∧ (k = 0 ∨ cnt3 n0 ps k ≤ 65536) ∧ Chg NoB w wr) (fun _ _ i _ => ps.length - (intOf i).toNat)
  case atStart => exact ⟨0, Nat.zero_le _, rfl, by rw [cnt3_zero], rfl, .inl rfl, HC1.out⟩
  case round =>
    obtain ⟨k, hk, rfl, rfl, rfl, hbd, hch⟩ := hrel
    have Hch := Lib.hid hch
    clear hch
    have hcb : cnt3 n0 ps k ≤ 281474976702464 := by
      rcases hbd with rfl | h
      · rw [cnt3_zero]; exact hn1
      · omega
    by_cases hlt : k < ps.length
    · obtain ⟨b, off, rfl, hcell⟩ := HA.out k hlt
      have hcell2 := Hch.out.keep hcell
      have hps := HP.out _ (List.getElem_mem hlt)
      have hsc := cnt3_succ n0 ps k hlt
      have hrt := raw_take ps k hlt
      have hsn : ((cnt3 n0 ps k : Nat) : Int) + (3 + (ps[k].size : Int)) = ((cnt3 n0 ps (k + 1) : Nat) : Int) := by omega
      obtain ⟨N, hN⟩ : ∃ N, cnt3 n0 ps k = N := ⟨_, rfl⟩
      obtain ⟨N2, hN2⟩ : ∃ N, cnt3 n0 ps (k + 1) = N := ⟨_, rfl⟩
      obtain ⟨F, hF⟩ : ∃ F, framesL ((raw ps).take k) = F := ⟨_, rfl⟩
      obtain ⟨P, hP⟩ : ∃ P, ps[k] = P := ⟨_, rfl⟩
      have hFl : F.length ≤ N := by rw [← hF, ← hN]; have := frames_cnt n0 ps k hk; omega
      rw [hN, hN2, hP] at hsn
      rw [hN] at hcb
      rw [hP] at hps hcell2 hrt
      rw [hF] at hrt
      simp only [hN, hF]
      have HN2 := Lib.hid hN2
      have Hrt := Lib.hid hrt
      clear hcell hbd hsc hN hN2 hF hP hrt
      by_cases hbig : 65536 < N2
      · go_wp2_with fail
        go_ret
        exact ⟨rfl, Hch.out.below⟩
      · have hpl : P.size ≤ 131072 := by omega
        have hN3 : N ≤ 65536 := by omega
        go_wp2_with fail
        refine (frame_any P wr hpl).mono ?_
        rintro e w2 ⟨rfl, hc2⟩
        have Hc2 := Lib.hid (Hch.out.trans hc2)
        have hfs : (tx (frameL P.data.toList)).size = 3 + P.size := by rw [tx_size, frameL_len]; simp
        have hq : ¬ 9223372036854775807 < (tx F).size + (tx (frameL P.data.toList)).size := by rw [hfs, tx_size]; omega
        have hcat := tx_app F (frameL P.data.toList)
        clear hc2 hfs
        go_wp2_with fail
        go_roundw
        case rel => exact ⟨k + 1, by omega, by go_num, by rw [HN2.out], by rw [Hrt.out], .inr (by rw [HN2.out]; omega), Hc2.out⟩
        case measure => simp [intOf]; omega
    · obtain rfl : k = ps.length := by omega
      obtain ⟨N, hN⟩ : ∃ N, cnt3 n0 ps ps.length = N := ⟨_, rfl⟩
      have hFt : framesL ((raw ps).take ps.length) = framesL (raw ps) := by rw [List.take_of_length_le (by rw [raw_len]; exact Nat.le_refl _)]
      obtain ⟨F, hF⟩ : ∃ F, framesL (raw ps) = F := ⟨_, rfl⟩
      rw [hN] at hcb
      simp only [hN, hFt, hF]
      have HN := Lib.hid hN
      have HF := Lib.hid hF
      clear hbd hN hFt hF
      by_cases h1 : 65536 < N
      · go_wp2_with fail
        go_ret
        exact ⟨rfl, Hch.out.below⟩
      · by_cases h2 : 60 < ps.length
        · go_wp2_with fail
          go_ret
          exact ⟨rfl, Hch.out.below⟩
        · by_cases h3 : at0 < 0
          · go_wp2_with fail
            go_ret
            exact ⟨rfl, Hch.out.below⟩
          · by_cases h4 : 3 + (last.size : Int) ≤ at0
            · go_wp2_with fail
              go_ret
              exact ⟨rfl, Hch.out.below⟩
            · obtain ⟨n, rfl⟩ := Int.eq_ofNat_of_zero_le (a := at0) (by omega)
              have hfit : Fit ps last more n := ⟨by omega, by rw [Hn0.out, HN.out]; omega, by omega⟩
              have Hfit := Lib.hid hfit
              have hfl := hfit.len
              rw [HF.out] at hfl
              clear hfit
              go_wp2_with fail
              refine (frame_any last wr (by omega)).mono ?_
              rintro e w2 ⟨rfl, hc2⟩
              have Hc2 := Lib.hid (Hch.out.trans hc2)
              clear hc2
              obtain ⟨X, hX⟩ : ∃ X, F ++ (frameL last.data.toList).take n = X := ⟨_, rfl⟩
              obtain ⟨Y, hY⟩ : ∃ Y, F ++ frameL more.data.toList = Y := ⟨_, rfl⟩
              have hll : last.data.toList.length = last.size := by simp
              have hml : more.data.toList.length = more.size := by simp
              have hfz : (tx (frameL last.data.toList)).size = 3 + last.size := by rw [tx_size, frameL_len, hll]
              have hx1 : (tx (frameL last.data.toList)).extract 0 n = tx ((frameL last.data.toList).take n) := text_cut _ n
              have hx2 : tx F ++ tx ((frameL last.data.toList).take n) = tx X := by rw [tx_app, hX]
              have hXl : X.length ≤ 131072 := by
                rw [← hX, List.length_append, List.length_take, frameL_len, hll]; omega
              have hYs : tx F ++ tx (frameL more.data.toList) = (⟨Y.toArray⟩ : ByteArray) := by rw [tx_app, hY]; rfl
              have hn2 : (n : Int) ≤ ((tx (frameL last.data.toList)).size : Int) := by rw [hfz]; omega
              have hn3 : n ≤ (tx (frameL last.data.toList)).size := by rw [hfz]; omega
              have hq1 : ¬ 9223372036854775807 < (tx F).size + (tx ((frameL last.data.toList).take n)).size := by
                rw [tx_size, tx_size, List.length_take, frameL_len, hll]; omega
              have hq2 : ¬ 9223372036854775807 < (tx F).size + (tx (frameL more.data.toList)).size := by
                rw [tx_size, tx_size, frameL_len, hml]; omega
              have hcv := fun w => Lib.run_convert_string_bytes (P := Try.prog) w 9 27 5 (tx X) (u := .string) Try.underlying9 Try.underlying27 Try.underlying5
              have HXe := Lib.hid (show X = framesL (raw ps) ++ (frameL last.data.toList).take n by rw [HF.out, hX])
              have HY := Lib.hid hY
              have HYs := Lib.hid hYs
              clear hX hY hll hfz hYs hml
              go_wp2_with fail
              refine (new_any _ X _ (bytes_src w2 (tx X) (by rw [tx_size]; unfold maxLen; omega)) (by omega)).mono ?_
              rintro e w3 ⟨b, R, rfl, hr, hc3, hR⟩
              have Hr3 := Lib.hid hr
              have HR := Lib.hid hR
              have Hc3 := Lib.hid ((Hc2.out.trans (bytes_chg w2 (tx X))).trans hc3)
              have HRw := Lib.hid (show ∀ k, R k → w.heap.size ≤ k from fun k hk => Nat.le_trans (Hc2.out.trans (bytes_chg w2 (tx X))).size (hR k hk).1)
              clear hr hc3 hR hcv
              go_wp2_with fail
              refine (open_fit b R ps last more n Hfit.out w3 X HXe.out Hr3.out (fun k hk => (HR.out k hk).2)).mono ?_
              rintro e w4 ⟨l, v, R', safe, ac, rfl, hac, ho⟩
              have Ho := Lib.hid ho
              have htv : TxS w4 v ps := by have := ho.txs; rwa [raw_tx] at this
              have Htv := Lib.hid htv
              obtain ⟨ad2, cp2, rfl⟩ : ∃ ad cp, v = .slice ad ps.length cp := by
                rcases htv with ⟨⟨a, c, rfl⟩, hz⟩ | ⟨b', off', c', rfl, _, _⟩
                · exact ⟨a, c, by rw [hz]; rfl⟩
                · exact ⟨_, _, rfl⟩
              have Hc4 := Lib.hid (Hc3.out.above ho.chg HRw.out)
              clear ho htv
              go_wp2_with fail
              refine (same_any _ _ ps w4 Htv.out (HV.out.keep Hc4.out) (by omega)).mono ?_
              rintro e w5 ⟨rfl, hc5⟩
              have Hc5 := Lib.hid hc5
              have hlg5 : Lg w5 l b ps.length := by have := Ho.out.lg.chg hc5 id; rwa [raw_len] at this
              have hrb5 : Rb w5 b R' ⟨F, safe, false, ac, 0, 0⟩ := by have := Ho.out.rb.keep hc5; rwa [HF.out] at this
              have Hlg5 := Lib.hid hlg5
              have Hrb5 := Lib.hid hrb5
              clear hc5 hlg5 hrb5
              go_wp2_with fail
              refine (append_log l b ps.length R' F safe ac 0 more w5 Hrb5.out Hlg5.out Ho.out.out (Ho.out.bd.chg Hc5.out) (by omega) (by omega) (by omega) (by omega)).mono ?_
              rintro e w6 ⟨rfl, hl6, hc6, R3, hr6, hx6, ho6, hb6⟩
              rw [HY.out] at hr6
              have Hr6 := Lib.hid hr6
              have Hl6 := Lib.hid hl6
              have Hc6 := Lib.hid (show Chg NoB w w6 from by
                refine Chg.above (Hc4.out.trans Hc5.out) hc6 fun k hk => ?_
                have h1 := Hc3.out.size
                rcases hk with hk | rfl
                · rcases Ho.out.ext k hk with x | x
                  · exact HRw.out k x
                  · omega
                · have := Ho.out.new; omega)
              clear hr6 hl6 hc6 hx6 ho6 hb6
              go_wp2_with fail
              refine (count_any w6 l b (ps.length + 1) Hl6.out (by omega)).mono ?_
              rintro e w7 ⟨rfl, rfl⟩
              go_wp2_with fail
              refine (read_plain b R3 Y _ _ _ _ w6 Hr6.out).mono ?_
              rintro e w7 ⟨v, rfl, ho7, hc7⟩
              have Hc7 := Lib.hid (Hc6.out.trans hc7)
              have hcvd : ∀ d os, (convert 27 9 v).run Try.prog (grow (redrawn w7 d) os) = .ok (.string ⟨Y.toArray⟩) (grow (redrawn w7 d) os) := fun d os =>
                (ho7.src.chg (chg_of_below (below_regrown w7 d os)) fun _ _ => id).conv
              have hys := HYs.out
              have q0 : ∀ d os, Calls Try.prog 5 #[.string more] (grow (redrawn w7 d) os) fun e w' => e = .returned (.string (tx (frameL more.data.toList))) ∧ ∃ p : Regrown, w' = grow (redrawn w7 p.d) p.os := fun d os =>
                Calls.regrown_of ((frame_any more _ (by omega)).mono fun e w' h => ⟨h.1, h.2.below⟩)
              clear ho7 hc7
              generalize ByteArray.mk Y.toArray = Z at hcvd hys
              go_wp2_with fail
              refine wp_region_quiet_below (by kernel_rfl) (by kernel_rfl) ?_
              repeat (quiet_step (exact q0 _ _))
              refine wpQuiet_nil ?_
              intro _ hw'
              obtain ⟨⟨dq, osq⟩, hw''⟩ := hw'
              subst hw''
              go_wp2_with fail
              go_ret
              exact ⟨rfl, (Hc7.out.trans (chg_of_below (below_regrown w7 dq osq))).below⟩
end Go.Proofs.Ytdgpeffbgejjlaa
