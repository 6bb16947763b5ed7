/- The document's ribbon: Flush, Cut, New. Condition: what stands in RS.ok; fewer than 10^9 acts. -/
import Derived.Test.YtpjnbcecbppeoaaRefD
namespace Go.Proofs.Ytpjnbcecbppeoaa
set_option linter.unusedVariables false
open Go.ChangeShapes Go.WideShapes Go.ChangeAt Go.RowKit
def RS.mflush (s : RS) : RS := if s.down then s else if s.cut1 then s.mact else { s.mact with safe := s.mact.xs.length }
def RS.mflushC (s : RS) : Int := if s.down then 70 else if s.cut1 then 70 else 0
set_option maxHeartbeats 1000000 in
theorem mflush_down (b : Nat) (R : Nat → Prop) (s : RS) (w : World) (h : Mb w b R s) (hd : s.down = true) :
    Calls Try.prog 14 #[.pointer (some ⟨b, 0, none⟩)] w (MDid b R s (.int .i64 70) w) := by
  have H := Lib.hid h
  obtain ⟨hok, h1, ad, cap, h2, h3, h4⟩ := h
  obtain ⟨_, _, c2, _, _, _, _⟩ := row_cells h2
  rw [hd] at c2
  simp at c2
  clear h2 h3 h4 hd
  go_enter Try.func14, Try.ntmps14
  go_wp2_with fail
  go_ret
  exact ⟨rfl, R, H.out, Went.refl _ _⟩
set_option maxHeartbeats 1000000 in
theorem mflush_cut (b : Nat) (R : Nat → Prop) (s : RS) (w : World) (h : Mb w b R s) (hd : s.down = false) (hb : s.acts < 1000000000) (hc : s.cut1 = true) :
    Calls Try.prog 14 #[.pointer (some ⟨b, 0, none⟩)] w (MDid b R s.mact (.int .i64 70) w) := by
  have H := Lib.hid h
  have Hd := Lib.hid hd
  have Hc := Lib.hid hc
  obtain ⟨hok, h1, ad, cap, h2, h3, h4⟩ := h
  obtain ⟨_, _, c2, _, _, _, _⟩ := row_cells h2
  rw [hd] at c2
  simp at c2
  clear h2 h3 h4 hd hc
  go_enter Try.func14, Try.ntmps14
  go_wp2_with fail
  refine (mact_any b R _ _ H.out Hd.out hb).mono ?_
  rintro e w3 ⟨rfl, R3, hm3, hw3⟩
  rw [Hc.out]
  have Hm3 := Lib.hid hm3
  have Hw3 := Lib.hid hw3
  clear hm3 hw3
  go_wp2_with fail
  go_ret
  exact ⟨rfl, R3, Hm3.out, Hw3.out⟩
set_option maxHeartbeats 1000000 in
theorem mflush_up (b : Nat) (R : Nat → Prop) (s : RS) (w : World) (h : Mb w b R s) (hd : s.down = false) (hb : s.acts < 1000000000) (hc : s.cut1 = false) :
    Calls Try.prog 14 #[.pointer (some ⟨b, 0, none⟩)] w (MDid b R { s.mact with safe := s.mact.xs.length } (.int .i64 0) w) := by
  have H := Lib.hid h
  have Hd := Lib.hid hd
  have Hc := Lib.hid hc
  obtain ⟨hok, h1, ad, cap, h2, h3, h4⟩ := h
  obtain ⟨_, _, c2, _, _, _, _⟩ := row_cells h2
  rw [hd] at c2
  simp at c2
  clear h2 h3 h4 hd hc
  go_enter Try.func14, Try.ntmps14
  go_wp2_with fail
  refine (mact_any b R _ _ H.out Hd.out hb).mono ?_
  rintro e w3 ⟨rfl, R3, hm3, hw3⟩
  rw [Hc.out]
  have Hw3 := Lib.hid hw3
  generalize s.mact = s1 at *
  obtain ⟨hok3, h13, ad3, cap3, h23, h33, h43⟩ := hm3
  obtain ⟨d0, d1, _, _, _, _, d6⟩ := row_cells h23
  have H23 := Lib.hid h23
  have H33 := Lib.hid h33
  have H43 := Lib.hid h43
  clear h23 h33 h43 hw3 c2
  go_wp2_with fail
  go_ret
  have hcb : Chg (fun k => k = b) w3 (w3.setCell ⟨b, 1, none⟩ (.int .i64 s1.xs.length)) := setB _ (Chg.refl _ w3)
  have hh := set_1 H23.out (.int .i64 s1.xs.length)
  generalize w3.setCell ⟨b, 1, none⟩ (.int .i64 s1.xs.length) = w4 at hcb hh
  exact ⟨rfl, R3, mb_mk _ _ _ _ _ _ _ _ _ _ _ _ _ rfl rfl hh (H33.out.chg hcb fun k hk => (H43.out k hk).2) H43.out h13 ⟨Nat.le_refl _, hok3.2.1, hok3.2.2⟩, Hw3.out.more (hcb.mono fun k _ hk => by rw [hk]; exact h13)⟩
theorem mflush_any (b : Nat) (R : Nat → Prop) (s : RS) (w : World) (h : Mb w b R s) (hb : s.acts < 1000000000) :
    Calls Try.prog 14 #[.pointer (some ⟨b, 0, none⟩)] w (MDid b R s.mflush (.int .i64 s.mflushC) w) := by
  cases hd : s.down
  · cases hc : s.cut1
    · have e1 : s.mflush = { s.mact with safe := s.mact.xs.length } := by unfold RS.mflush; rw [hd, hc]; rfl
      have e2 : s.mflushC = 0 := by unfold RS.mflushC; rw [hd, hc]; rfl
      rw [e1, e2]; exact mflush_up b R s w h hd hb hc
    · have e1 : s.mflush = s.mact := by unfold RS.mflush; rw [hd, hc]; rfl
      have e2 : s.mflushC = 70 := by unfold RS.mflushC; rw [hd, hc]; rfl
      rw [e1, e2]; exact mflush_cut b R s w h hd hb hc
  · have e1 : s.mflush = s := by unfold RS.mflush; rw [hd]; rfl
    have e2 : s.mflushC = 70 := by unfold RS.mflushC; rw [hd]; rfl
    rw [e1, e2]; exact mflush_down b R s w h hd
set_option maxHeartbeats 1000000 in
theorem mcut_down (b : Nat) (R : Nat → Prop) (s : RS) (n : Int) (w : World) (h : Mb w b R s) (hd : s.down = true) :
    Calls Try.prog 16 #[.pointer (some ⟨b, 0, none⟩), .int .i64 n] w (MDid b R s (.int .i64 70) w) := by
  have H := Lib.hid h
  obtain ⟨hok, h1, ad, cap, h2, h3, h4⟩ := h
  obtain ⟨_, _, c2, _, _, _, _⟩ := row_cells h2
  rw [hd] at c2
  simp at c2
  clear h2 h3 h4 hd
  go_enter Try.func16, Try.ntmps16
  go_wp2_with fail
  go_ret
  exact ⟨rfl, R, H.out, Went.refl _ _⟩
set_option maxHeartbeats 1000000 in
theorem mcut_arg (b : Nat) (R : Nat → Prop) (s : RS) (n : Int) (w : World) (h : Mb w b R s) (hd : s.down = false) (hn : n < 0 ∨ (s.xs.length : Int) < n) :
    Calls Try.prog 16 #[.pointer (some ⟨b, 0, none⟩), .int .i64 n] w (MDid b R s (.int .i64 1) w) := by
  have H := Lib.hid h
  obtain ⟨hok, h1, ad, cap, h2, h3, h4⟩ := h
  obtain ⟨c0, _, c2, _, _, _, _⟩ := row_cells h2
  rw [hd] at c2
  simp at c2
  clear h2 h3 h4 hd
  by_cases hn0 : n < 0
  · clear hn
    go_enter Try.func16, Try.ntmps16
    go_wp2_with fail
    go_ret
    exact ⟨rfl, R, H.out, Went.refl _ _⟩
  · have hn1 : (s.xs.length : Int) < n := by omega
    clear hn
    go_enter Try.func16, Try.ntmps16
    go_wp2_with fail
    go_ret
    exact ⟨rfl, R, H.out, Went.refl _ _⟩
set_option maxHeartbeats 1000000 in
theorem mcut_cut (b : Nat) (R : Nat → Prop) (s : RS) (n : Nat) (w : World) (h : Mb w b R s) (hd : s.down = false) (hb : s.acts < 1000000000) (hn : n ≤ s.xs.length) (hc : s.cut1 = true) :
    Calls Try.prog 16 #[.pointer (some ⟨b, 0, none⟩), .int .i64 n] w (MDid b R s.mact (.int .i64 70) w) := by
  have H := Lib.hid h
  have Hd := Lib.hid hd
  have Hc := Lib.hid hc
  obtain ⟨hok, h1, ad, cap, h2, h3, h4⟩ := h
  obtain ⟨c0, _, c2, _, _, _, _⟩ := row_cells h2
  rw [hd] at c2
  simp at c2
  have hl := hok.2.1
  clear h2 h3 h4 hd hc
  go_enter Try.func16, Try.ntmps16
  go_wp2_with fail
  refine (mact_any b R _ _ H.out Hd.out hb).mono ?_
  rintro e w3 ⟨rfl, R3, hm3, hw3⟩
  rw [Hc.out]
  have Hm3 := Lib.hid hm3
  have Hw3 := Lib.hid hw3
  clear hm3 hw3
  go_wp2_with fail
  go_ret
  exact ⟨rfl, R3, Hm3.out, Hw3.out⟩
theorem m_trim (w w1 : World) (b : Nat) (R : Nat → Prop) (s : RS) (g cp n : Nat) (ad : Option Addr) (cap : Nat) (zs : List UInt8) (hn : zs.length = n) (hok : s.ok) (h1 : R b)
    (h2 : w.heap[b]? = some (.cells #[.slice ad s.xs.length cap, .int .i64 s.safe, .bool (!s.down), .int .i64 s.acts, .int .i64 s.armed, .int .i64 s.keep] 38 (0, 0)))
    (hc : Chg NoB w w1) (ho : Own w1 w.heap.size (.slice (some ⟨g, 0, none⟩) n cp) zs) (hl : zs.length ≤ 1048576) :
    ∃ R', Mb ((w1.setCell ⟨b, 0, none⟩ (.slice (some ⟨g, 0, none⟩) n cp)).setCell ⟨b, 1, none⟩ (.int .i64 (n : Int))) b R' { s with xs := zs, safe := n } ∧ Went R R' w ((w1.setCell ⟨b, 0, none⟩ (.slice (some ⟨g, 0, none⟩) n cp)).setCell ⟨b, 1, none⟩ (.int .i64 (n : Int))) := by
  subst hn
  obtain ⟨r0, ow0, wt0, sz0, bl0⟩ := m_new w w1 b R _ _ _ _ _ _ _ (some ⟨g, 0, none⟩) zs.length cp zs h2 hc ho h1
  have hcb : Chg (fun k => k = b) (w1.setCell ⟨b, 0, none⟩ (.slice (some ⟨g, 0, none⟩) zs.length cp)) ((w1.setCell ⟨b, 0, none⟩ (.slice (some ⟨g, 0, none⟩) zs.length cp)).setCell ⟨b, 1, none⟩ (.int .i64 (zs.length : Int))) := setB _ (Chg.refl _ _)
  have hh := set_1 r0 (.int .i64 (zs.length : Int))
  exact ⟨_, mb_mk _ _ _ _ _ _ _ _ _ _ _ _ _ rfl rfl hh (ow0.chg hcb fun k hk => (bl0 k hk).2) bl0 (.inl h1) ⟨Nat.le_refl _, hl, hok.2.2.1, hok.2.2.2⟩, wt0.more (hcb.mono fun k _ hk => by rw [hk]; exact .inl h1)⟩
set_option maxHeartbeats 1000000 in
theorem mcut_up (b : Nat) (R : Nat → Prop) (s : RS) (n : Nat) (w : World) (h : Mb w b R s) (hd : s.down = false) (hb : s.acts < 1000000000) (hn : n ≤ s.xs.length) (hc : s.cut1 = false) :
    Calls Try.prog 16 #[.pointer (some ⟨b, 0, none⟩), .int .i64 n] w (MDid b R { s.mact with xs := s.mact.xs.take n, safe := n } (.int .i64 0) w) := by
  have H := Lib.hid h
  have Hd := Lib.hid hd
  have Hc := Lib.hid hc
  have hx : s.mact.xs = s.xs := by rw [mact_keep s hc]
  have Hx := Lib.hid hx
  obtain ⟨hok, h1, ad, cap, h2, h3, h4⟩ := h
  obtain ⟨c0, _, c2, _, _, _, _⟩ := row_cells h2
  rw [hd] at c2
  simp at c2
  have hl := hok.2.1
  clear h2 h3 h4 hd hc hx
  go_enter Try.func16, Try.ntmps16
  go_wp2_with fail
  refine (mact_any b R _ _ H.out Hd.out hb).mono ?_
  rintro e w3 ⟨rfl, R3, hm3, hw3⟩
  rw [Hc.out]
  have Hw3 := Lib.hid hw3
  obtain ⟨hok3, h13, ad3, cap3, h23, h33, h43⟩ := hm3
  have hle : s.mact.xs.length ≤ cap3 ∧ cap3 ≤ maxLen := by
    obtain ⟨_, _, e, q1, q2, _⟩ := h33.shape
    simp only [Value.slice.injEq] at e
    obtain ⟨_, _, rfl⟩ := e
    exact ⟨q1, q2⟩
  obtain ⟨hle, hcm⟩ := hle
  unfold maxLen at hcm
  obtain ⟨d0, d1, _, _, _, _, d6⟩ := row_cells h23
  have hn3 : n ≤ s.mact.xs.length := by rw [Hx.out]; exact hn
  have hnc : n ≤ cap3 := by omega
  have hblt := lt_of_block h23
  have Hsrc := Lib.hid (src_take h33 n hn3)
  have Hok3 := Lib.hid hok3
  have Hl3 := Lib.hid (show (s.mact.xs.take n).length = n by rw [List.length_take]; omega)
  have Hln := Lib.hid (show n ≤ 1048576 by have := hok3.2.1; omega)
  generalize s.mact = s1 at *
  obtain ⟨zs, hzs⟩ : ∃ zs, zs = s1.xs.take n := ⟨_, rfl⟩
  rw [← hzs] at Hsrc Hl3
  have Hzs := Lib.hid hzs
  have H23 := Lib.hid h23
  have H33 := Lib.hid h33
  have H43 := Lib.hid h43
  clear h23 h33 h43 hw3 c2 hzs c0 hle hcm hok3
  go_wp2_with (at_builtin; refine append_new rfl (.tmp 24) (.tmp 30) rfl w3 rfl _ rfl zs Hsrc.out (by rw [Hl3.out]; exact Hln.out) ?_; rw [Hl3.out]; intro g cp w4 ho hc4; obtain ⟨s0, s1', s2, s3, s4, s5, s6⟩ := row_cells (row_kept hc4 H23.out id); have Hc4 := Lib.hid hc4; have Ho4 := Lib.hid ho; clear ho hc4 d0 d1 d6)
  go_ret
  obtain ⟨R5, hm5, hw5⟩ := m_trim w3 _ b R3 s1 _ _ n ad3 cap3 zs Hl3.out Hok3.out h13 H23.out Hc4.out Ho4.out (by rw [Hl3.out]; exact Hln.out)
  rw [Hzs.out] at hm5
  exact ⟨rfl, R5, hm5, Hw3.out.trans hw5⟩
def RS.mcut (s : RS) (n : Int) : RS := if s.down then s else if n < 0 ∨ (s.xs.length : Int) < n then s else if s.cut1 then s.mact else { s.mact with xs := s.mact.xs.take n.toNat, safe := n.toNat }
def RS.mcutC (s : RS) (n : Int) : Int := if s.down then 70 else if n < 0 ∨ (s.xs.length : Int) < n then 1 else if s.cut1 then 70 else 0
theorem mcut_any (b : Nat) (R : Nat → Prop) (s : RS) (n : Int) (w : World) (h : Mb w b R s) (hb : s.acts < 1000000000) :
    Calls Try.prog 16 #[.pointer (some ⟨b, 0, none⟩), .int .i64 n] w (MDid b R (s.mcut n) (.int .i64 (s.mcutC n)) w) := by
  cases hd : s.down
  · by_cases hn : n < 0 ∨ (s.xs.length : Int) < n
    · have e1 : s.mcut n = s := by unfold RS.mcut; rw [hd, if_neg (by simp), if_pos hn]
      have e2 : s.mcutC n = 1 := by unfold RS.mcutC; rw [hd, if_neg (by simp), if_pos hn]
      rw [e1, e2]; exact mcut_arg b R s n w h hd hn
    · obtain ⟨m, rfl⟩ := Int.eq_ofNat_of_zero_le (show 0 ≤ n by omega)
      cases hc : s.cut1
      · have e1 : s.mcut m = { s.mact with xs := s.mact.xs.take m, safe := m } := by unfold RS.mcut; rw [hd, if_neg (by simp), if_neg hn, hc]; rfl
        have e2 : s.mcutC m = 0 := by unfold RS.mcutC; rw [hd, if_neg (by simp), if_neg hn, hc]; rfl
        rw [e1, e2]; exact mcut_up b R s m w h hd hb (by omega) hc
      · have e1 : s.mcut m = s.mact := by unfold RS.mcut; rw [hd, if_neg (by simp), if_neg hn, hc]; rfl
        have e2 : s.mcutC m = 70 := by unfold RS.mcutC; rw [hd, if_neg (by simp), if_neg hn, hc]; rfl
        rw [e1, e2]; exact mcut_cut b R s m w h hd hb (by omega) hc
  · have e1 : s.mcut n = s := by unfold RS.mcut; rw [hd]; rfl
    have e2 : s.mcutC n = 70 := by unfold RS.mcutC; rw [hd]; rfl
    rw [e1, e2]; exact mcut_down b R s n w h hd
end Go.Proofs.Ytpjnbcecbppeoaa
