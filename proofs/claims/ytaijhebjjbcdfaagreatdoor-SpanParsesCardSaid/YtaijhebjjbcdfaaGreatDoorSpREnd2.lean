/- The document's side: Ends. No condition. -/
import Derived.Test.YtaijhebjjbcdfaaGreatDoorSpREnds

namespace Go.Proofs.YtaijhebjjbcdfaaGreatDoor
set_option linter.unusedVariables false
open Go.ChangeShapes Go.WideShapes Go.ChangeAt Go.RowKit
theorem ends_take {l : List GapL} {k : Nat} (h : k < l.length) : endsL (l.take (k + 1)) = withL (withL (endsL (l.take k)) l[k].1) l[k].2 := by
  unfold endsL
  rw [take_at h, List.foldl_append]
  rfl
theorem ends_lens {l : List GapL} {k : Nat} (h : k < l.length) : (endsL (l.take k)).length ≤ 2 + 2 * k ∧ (withL (endsL (l.take k)) l[k].1).length ≤ 3 + 2 * k := by
  obtain ⟨a, b, -⟩ := ends_ok (l.take k)
  have := withL_len _ a.up l[k].1
  rw [List.length_take] at b
  omega
set_option maxHeartbeats 4000000 in
set_option maxRecDepth 20000 in
theorem ends_any (l : List GapL) (S : Nat → Prop) (v : Value) (kb ko : Nat) (w : World) (hs : GapS w S v l kb ko) (hl : l.length ≤ 4096) : Calls Tryz.prog 31 #[v] w (WithP (endsL l) w.heap.size w) := by
  obtain ⟨⟨q, c, rfl, h1, h2, h3⟩, hat, -⟩ := hs
  obtain ⟨n, hn⟩ : ∃ n, n = l.length := ⟨_, rfl⟩
  rw [← hn] at h1 hl ⊢
  have H3 := Lib.hid h3
  have Hat := Lib.hid hat
  have Hn := Lib.hid hn
  obtain ⟨r, hr⟩ : ∃ r, r = endsL l := ⟨_, rfl⟩
  rw [← hr]
  have Hr := Lib.hid hr
  unfold maxLen at h2
  clear h3 hat hn hr
  have hal_ := (Chg.refl NoB w).alloc (.cells #[.int .i64 0, .int .i64 1000000000] 3)
  have hb_ := heap_alloc_new w (.cells #[.int .i64 0, .int .i64 1000000000] 3)
  obtain ⟨b1, hxb_⟩ : ∃ b, b = w.heap.size := ⟨_, rfl⟩
  obtain ⟨w1, hw_⟩ : ∃ w_, w.alloc (.cells #[.int .i64 0, .int .i64 1000000000] 3) = w_ := ⟨_, rfl⟩
  have hz_ : w1.heap.size = b1 + 1 := by rw [← hw_, hxb_]; exact alloc_size _ _
  rw [hw_] at hal_ hb_
  rw [← hxb_] at hb_
  have Hw1 := Lib.hid hw_
  have Hx1 := Lib.hid hxb_
  have Ha1 := Lib.hid hal_
  have Hb1 := Lib.hid hb_
  have Hz1 := Lib.hid hz_
  clear hal_ hb_ hxb_ hw_ hz_
  have HR1 := Lib.hid (show w1.ownsRow w.heap.size 3 1 (.slice (some ⟨b1, 0, none⟩) 2 2) 2 (numsV [0, allG]) from ⟨rfl, .inr ⟨b1, 2, _, rfl, by have := Hx1.out; omega, Hb1.out, Nat.le_refl _, by decide, rfl, rfl⟩⟩)
  go_enter Tryz.func31, Tryz.ntmps31
  go_wp2_with fail
  rw [Hw1.out, ← Hx1.out]
  go_loopw [3, 9] (fun ov i wr => ∃ (k m c' : Nat) (q' : Option Addr) (o : List Int), k ≤ n ∧ i = .int .i64 k ∧ ov = .slice q' m c' ∧ m = o.length ∧ o = endsL (l.take k) ∧ wr.ownsRow w.heap.size 3 1 (.slice q' m c') m (numsV o) ∧ Chg NoB w wr) (fun _ i _ => n - (intOf i).toNat)
  case atStart => exact ⟨0, 2, 2, some ⟨b1, 0, none⟩, [0, allG], Nat.zero_le _, rfl, rfl, rfl, rfl, HR1.out, Ha1.out⟩
  case round =>
    obtain ⟨k, m, c', q', o, hk, rfl, rfl, hm, ho, hor, hch⟩ := hrel
    have Hm := Lib.hid hm
    have Ho := Lib.hid ho
    have Hor := Lib.hid hor
    have Hch := Lib.hid hch
    clear hm ho hor hch
    by_cases hlt : k < n
    · have hkl : k < l.length := by rw [← Hn.out]; exact hlt
      obtain ⟨rfl, -⟩ := H3.out (by intro e; rw [e] at hkl; simp at hkl)
      obtain ⟨c0, c1⟩ := Hat.out k hkl
      have c0 := Hch.out.keep c0
      have c1 := Hch.out.keep c1
      have Htk := Lib.hid (ends_take hkl)
      have Hle := Lib.hid (ends_lens hkl)
      rw [← Ho.out] at Htk Hle
      generalize l[k] = g at *
      obtain ⟨x1, x2⟩ := g
      simp only at c0 c1
      have hle1 : o.length ≤ 2 + 2 * k := Hle.out.1
      have hle2 : (withL o x1).length ≤ 3 + 2 * k := Hle.out.2
      have Hq1 := Lib.hid (show o.length ≤ 65536 by omega)
      have Hq2 := Lib.hid (show (withL o x1).length ≤ 65536 by omega)
      clear hle1 hle2
      have hal_ := (Chg.refl NoB wr).alloc (.cells #[.int .i64 x1, .int .i64 x2] 37)
      have hb_ := heap_alloc_new wr (.cells #[.int .i64 x1, .int .i64 x2] 37)
      obtain ⟨b5, hxb_⟩ : ∃ b, b = wr.heap.size := ⟨_, rfl⟩
      obtain ⟨w2, hw_⟩ : ∃ w_, wr.alloc (.cells #[.int .i64 x1, .int .i64 x2] 37) = w_ := ⟨_, rfl⟩
      have hz_ : w2.heap.size = b5 + 1 := by rw [← hw_, hxb_]; exact alloc_size _ _
      rw [hw_] at hal_ hb_
      rw [← hxb_] at hb_
      have Hw5 := Lib.hid hw_
      have Hx5 := Lib.hid hxb_
      have Ha5 := Lib.hid hal_
      have Hb5 := Lib.hid hb_
      have Hz5 := Lib.hid hz_
      clear hal_ hb_ hxb_ hw_ hz_
      obtain ⟨d0, d1⟩ := var2 Hb5.out
      have Hc2 := Lib.hid (Hch.out.trans Ha5.out)
      have Hor2 := Lib.hid (ownsRow_chg Hor.out Ha5.out fun _ _ => id)
      have hA := And.intro d0 d1
      obtain ⟨r1, hr1⟩ : ∃ z, z = withL o x1 := ⟨_, rfl⟩
      obtain ⟨r2, hr2⟩ : ∃ z, z = withL r1 x2 := ⟨_, rfl⟩
      have HW1 := Lib.hid (fun (w' : World) (h : w'.ownsRow w.heap.size 3 1 (.slice q' m c') m (numsV o)) (hb : w.heap.size ≤ w'.heap.size) => (show Calls Tryz.prog 50 #[.slice q' m c', .int .i64 x1] w' (WithP r1 w.heap.size w') from by rw [hr1]; exact with_any o x1 w.heap.size _ w' (by rw [← Hm.out]; exact h) Hq1.out hb))
      have HW2 := Lib.hid (fun (q3 : Option Addr) (m3 c3 : Nat) (w' : World) (hm3 : m3 = r1.length) (h : w'.ownsRow w.heap.size 3 1 (.slice q3 m3 c3) m3 (numsV r1)) (hb : w.heap.size ≤ w'.heap.size) => (show Calls Tryz.prog 50 #[.slice q3 m3 c3, .int .i64 x2] w' (WithP r2 w.heap.size w') from by rw [hr2]; exact with_any r1 x2 w.heap.size _ w' (by rw [← hm3]; exact h) (by rw [hr1]; exact Hq2.out) hb))
      have Hr2 := Lib.hid (show r2 = endsL (l.take (k + 1)) by rw [Htk.out, hr2, hr1])
      clear hkl hr1 hr2 Hq1 Hq2 Htk Hle
      go_upto_region 5 with fail
      rw [Hw5.out, ← Hx5.out]
      clear c0 c1
      go_region_held3 (fun w' => w'.cell? ⟨b5, 0, none⟩ = some (.int .i64 x1) ∧ w'.cell? ⟨b5, 1, none⟩ = some (.int .i64 x2))
        (first | exact hC | exact hB | exact hA)
        (first
          | (have hq3 := hc3; go_at_call 50; refine (HW2.out q3 m3 c3 w3 Hm3.out hr3 (Hc2.out.trans hc3).size).mono ?_; rintro e w4 ⟨q4, m4, c4, hm4, rfl, hr4, hc4'⟩; have Hm4 := Lib.hid hm4; clear hm4; have hc4 : Chg NoB w2 w4 := hc3.trans hc4'; have hC := And.intro (hc4.keep d0) (hc4.keep d1))
          | (go_at_call 50; refine (HW1.out w2.drew (ownsRow_chg Hor2.out (Chg.refl NoB w2).drew fun _ _ => id) (Hc2.out.trans (Chg.refl NoB w2).drew).size).mono ?_; rintro e w3 ⟨q3, m3, c3, hm3, rfl, hr3, hc3'⟩; have Hm3 := Lib.hid hm3; clear hm3; have hc3 : Chg NoB w2 w3 := ((Chg.refl NoB w2).drew).trans hc3'; have hB := And.intro (hc3.keep d0) (hc3.keep d1)))
      all_goals
        have Hc4 := Lib.hid (Hc2.out.trans hc4)
        have Hr4 := Lib.hid hr4
        clear hA hB hC hc3 hc4 hr3 hr4 d0 d1
        go_wp2_with fail
        go_roundw
        case rel => exact ⟨k + 1, m4, c4, q4, _, by omega, by go_num, rfl, Hm4.out, Hr2.out, Hr4.out, Hc4.out⟩
        case measure => simp [intOf]; omega
    · obtain rfl : k = n := by omega
      have Hfin := Lib.hid (show o = r by rw [Ho.out, Hr.out, Hn.out, List.take_length])
      go_wp2_with fail
      go_ret
      obtain rfl := Hfin.out
      exact ⟨q', m, c', Hm.out, rfl, Hor.out, Hch.out⟩
end Go.Proofs.YtaijhebjjbcdfaaGreatDoor
