/- The document's ribbon: Write, Flush, Cut, New. Condition: what stands in RS.ok; fewer than 10^9 acts. -/
import Derived.Test.YtpjnbcecbppeoaaRefC
namespace Go.Proofs.Ytpjnbcecbppeoaa
set_option linter.unusedVariables false
open Go.ChangeShapes Go.WideShapes Go.ChangeAt Go.RowKit
theorem mact_keep (s : RS) (h : s.cut1 = false) : s.mact = { s with acts := s.acts + 1, armed := s.armed - 1 } := by
  have h' : s.armed ≠ 1 := by unfold RS.cut1 at h; simpa using h
  unfold RS.mact
  by_cases ha : s.armed = 0
  · rw [if_pos ha]
    have : s.armed - 1 = s.armed := by omega
    rw [this]
  · rw [if_neg ha, if_neg h']
theorem MDid.went {b : Nat} {R R' : Nat → Prop} {s : RS} {v : Value} {w w1 : World} {e : Ending} {w' : World} (g : Went R R' w w1) (h : MDid b R' s v w1 e w') : MDid b R s v w e w' := by
  obtain ⟨h1, R'', h2, h3⟩ := h
  exact ⟨h1, R'', h2, g.trans h3⟩
set_option maxHeartbeats 1000000 in
theorem mwrite_down (b : Nat) (R : Nat → Prop) (s : RS) (v : Value) (w : World) (h : Mb w b R s) (hd : s.down = true) :
    Calls Try.prog 12 #[.pointer (some ⟨b, 0, none⟩), v] w (MDid b R s (.int .i64 70) w) := by
  have H := Lib.hid h
  obtain ⟨hok, h1, ad, cap, h2, h3, h4⟩ := h
  obtain ⟨_, _, c2, _, _, _, _⟩ := row_cells h2
  rw [hd] at c2
  simp at c2
  clear h2 h3 h4 hd
  go_enter Try.func12, Try.ntmps12
  go_wp2_with fail
  go_ret
  exact ⟨rfl, R, H.out, Went.refl _ _⟩
set_option maxHeartbeats 1000000 in
theorem mwrite_full (b : Nat) (R : Nat → Prop) (s : RS) (q : Option Addr) (n c : Nat) (w : World) (h : Mb w b R s) (hd : s.down = false) (hl : 1048576 < s.xs.length + n) (hn : n ≤ 4194304) :
    Calls Try.prog 12 #[.pointer (some ⟨b, 0, none⟩), .slice q n c] w (MDid b R s (.int .i64 71) w) := by
  have H := Lib.hid h
  obtain ⟨hok, h1, ad, cap, h2, h3, h4⟩ := h
  obtain ⟨c0, _, c2, _, _, _, _⟩ := row_cells h2
  rw [hd] at c2
  simp at c2
  have hok2 := hok.2.1
  have hbig : (1048576 : Int) < (s.xs.length : Int) + (n : Int) := by omega
  clear h2 h3 h4 hd
  go_enter Try.func12, Try.ntmps12
  go_wp2_with fail
  go_ret
  exact ⟨rfl, R, H.out, Went.refl _ _⟩
theorem m_wrote (w w1 : World) (b : Nat) (R : Nat → Prop) (s : RS) (g cp n : Nat) (ad : Option Addr) (cap : Nat) (zs : List UInt8) (hn : zs.length = n) (hok : s.ok) (h1 : R b)
    (h2 : w.heap[b]? = some (.cells #[.slice ad s.xs.length cap, .int .i64 s.safe, .bool (!s.down), .int .i64 s.acts, .int .i64 s.armed, .int .i64 s.keep] 38 (0, 0)))
    (hc : Chg NoB w w1) (ho : Own w1 w.heap.size (.slice (some ⟨g, 0, none⟩) n cp) zs) (hl : zs.length ≤ 1048576) (hs : s.safe ≤ zs.length) :
    ∃ R', Mb (w1.setCell ⟨b, 0, none⟩ (.slice (some ⟨g, 0, none⟩) n cp)) b R' { s with xs := zs } ∧ Went R R' w (w1.setCell ⟨b, 0, none⟩ (.slice (some ⟨g, 0, none⟩) n cp)) := by
  subst hn
  obtain ⟨r0, ow0, wt0, sz0, bl0⟩ := m_new w w1 b R _ _ _ _ _ _ _ (some ⟨g, 0, none⟩) zs.length cp zs h2 hc ho h1
  exact ⟨_, mb_mk _ _ _ _ _ _ _ _ _ _ _ _ _ rfl rfl r0 ow0 bl0 (.inl h1) ⟨hs, hl, hok.2.2.1, hok.2.2.2⟩, wt0⟩
theorem two_done (w w1 w2 : World) (b : Nat) (R : Nat → Prop) (s : RS) (g1 cp1 g2 cp2 : Nat) (ad : Option Addr) (cap : Nat) (ys : List UInt8) (hok : s.ok) (h1 : R b)
    (h2 : w.heap[b]? = some (.cells #[.slice ad s.xs.length cap, .int .i64 s.safe, .bool (!s.down), .int .i64 s.acts, .int .i64 s.armed, .int .i64 s.keep] 38 (0, 0)))
    (hc1 : Chg NoB w w1) (ho1 : Own w1 w.heap.size (.slice (some ⟨g1, 0, none⟩) s.xs.length cp1) s.xs) (ho2 : Own w2 w.heap.size (.slice (some ⟨g2, 0, none⟩) (s.xs ++ ys).length cp2) (s.xs ++ ys)) (hc2 : Chg (fun k => k = g1) w1 w2)
    (hl : s.xs.length + ys.length ≤ 1048576) :
    Chg NoB w w2 ∧ ∃ R2, Hid (Mb (w2.setCell ⟨b, 0, none⟩ (.slice (some ⟨g2, 0, none⟩) (s.xs.length + ys.length) cp2)) b R2 { s with xs := s.xs ++ ys }) ∧ Hid (Went R R2 w (w2.setCell ⟨b, 0, none⟩ (.slice (some ⟨g2, 0, none⟩) (s.xs.length + ys.length) cp2))) ∧
      w2.cell? ⟨b, 0, none⟩ = some (.slice ad s.xs.length cap) ∧ ∀ i, w2.frozen? ⟨b, i, none⟩ = false := by
  have hl1 := (ho1.lt g1 rfl).1
  have hc12 : Chg NoB w w2 := Chg.above hc1 hc2 fun k hk => by rw [hk]; exact hl1
  obtain ⟨s0, s1, s2, s3, s4, s5, s6⟩ := row_cells (row_kept hc12 h2 id)
  obtain ⟨R2, hm2, hw2⟩ := m_wrote w w2 b R s g2 cp2 _ ad cap (s.xs ++ ys) List.length_append hok h1 h2 hc12 (by rw [← List.length_append]; exact ho2) (by rw [List.length_append]; exact hl) (by rw [List.length_append]; have := hok.1; omega)
  exact ⟨hc12, R2, Lib.hid hm2, Lib.hid hw2, s0, s6⟩
set_option maxHeartbeats 2000000 in
theorem mwrite_fits (b : Nat) (R : Nat → Prop) (s : RS) (q : Option Addr) (n c : Nat) (ys : List UInt8) (w : World) (cc : Bool) (val : Int) (hval : (if cc then 70 else 0) = val) (hcc : (RS.cut1 { s with xs := s.xs ++ ys }) = cc) (h : Mb w b R s) (hv : Src w (.slice q n c) ys) (hyn : ys.length = n) (hd : s.down = false) (hb : s.acts < 1000000000) (hl : s.xs.length + n ≤ 1048576) :
    Calls Try.prog 12 #[.pointer (some ⟨b, 0, none⟩), .slice q n c] w (MDid b R (RS.mact { s with xs := s.xs ++ ys }) (.int .i64 val) w) := by
  obtain ⟨hok, h1, ad, cap, h2, h3, h4⟩ := h
  obtain ⟨c0, _, c2, _, _, _, f⟩ := row_cells h2
  rw [hd] at c2
  simp at c2
  have hok2 := hok.2.1
  have hsm : (s.xs.length : Int) + (n : Int) ≤ 1048576 := by omega
  have H2 := Lib.hid h2
  have H3 := Lib.hid h3
  have Hv := Lib.hid hv
  have Hd := Lib.hid hd
  have Hok := Lib.hid hok
  have Hyn := Lib.hid hyn
  have Hcc := Lib.hid hcc
  have Hval := Lib.hid hval
  have hblt := lt_of_block h2
  have Hl := Lib.hid (show s.xs.length + ys.length ≤ 1048576 by omega)
  clear h2 h3 h4 hd hv hok hyn hcc hval
  go_enter Try.func12, Try.ntmps12
  go_wp2_with (at_builtin; refine append_new rfl (.tmp 20) (.tmp 24) rfl w rfl _ rfl s.xs H3.out.src (by omega) ?_)
  intro g1 cp1 w1 ho1 hc1
  have Ho1 := Lib.hid ho1
  have Hc1 := Lib.hid hc1
  clear ho1 hc1
  go_wp2_with (at_builtin; refine list_append_any rfl w1 (.tmp 25) (.tmp 26) rfl w.heap.size g1 cp1 s.xs ys rfl Ho1.out _ rfl (Hv.out.chg Hc1.out fun _ _ => id) Hl.out Hc1.out.size ?_; intro g2 cp2 w2 ho2 hc2; obtain ⟨Hc12, R2, Hm2, Hw2, s0, s6⟩ := two_done w w1 w2 b R s g1 cp1 g2 cp2 ad cap ys Hok.out h1 H2.out Hc1.out Ho1.out ho2 hc2 Hl.out; clear ho2 hc2 c0 c2 f)
  cases cc
  all_goals refine (mact_any b R2 _ _ Hm2.out Hd.out hb).mono ?_
  all_goals rintro e w3 ⟨rfl, R3, hm3, hw3⟩
  all_goals rw [Hcc.out]
  all_goals have Hm3 := Lib.hid hm3
  all_goals have Hw3 := Lib.hid hw3
  all_goals clear hm3 hw3
  all_goals go_wp2_with fail
  all_goals go_ret
  all_goals exact ⟨ret_i64 (by have := Hval.out; simpa using this), R3, Hm3.out, Hw2.out.trans Hw3.out⟩
end Go.Proofs.Ytpjnbcecbppeoaa
