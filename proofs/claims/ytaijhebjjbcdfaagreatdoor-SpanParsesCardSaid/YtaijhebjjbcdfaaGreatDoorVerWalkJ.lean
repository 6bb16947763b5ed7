/- The contract of Parse of a text with three pieces. Conditions: the library's variables read as laid. -/
import Derived.Test.YtaijhebjjbcdfaaGreatDoorVerWalkI
namespace Go.Proofs.YtaijhebjjbcdfaaGreatDoor.Ver
set_option linter.unusedVariables false
open Go.ChangeShapes Go.WideShapes Go.ChangeAt Go.RowKit Go.Sort
def ParseT (x y z f : Int) (w : World) (e : Ending) (w' : World) : Prop := e = .returned (.tuple #[.agg #[.int .i64 x, .int .i64 y, .int .i64 z], .int .i64 f]) ∧ Gr w w'
structure U (w w' : World) (A B C : ByteArray) (x y z : Int) : Prop where
  a : w'.heap[w.heap.size]? = some (.cells #[.int .i64 0, .int .i64 0, .int .i64 0] 31 (0, 0))
  b : w'.heap[w.heap.size + 1]? = some (.cells #[.int .i64 x, .int .i64 y, .int .i64 z] 31 (0, 0))
  c : w'.heap[w.heap.size + 1 + 1]? = some (.cells #[.string A, .string B, .string C] 9 (0, 0))
  g : Gr w w'
theorem U.gr {w w1 w2 : World} {A B C : ByteArray} {x y z : Int} (h : U w w1 A B C x y z) (g : Gr w1 w2) : U w w2 A B C x y z := ⟨g.heap h.a, g.heap h.b, g.heap h.c, grown_trans h.g g⟩
theorem U.s0 {w w1 : World} {A B C : ByteArray} {x y z : Int} (h : U w w1 A B C x y z) (u : Int) : U w (w1.setCell ⟨w.heap.size + 1, 0, none⟩ (.int .i64 u)) A B C u y z :=
  ⟨set3_other h.a (by omega) _, set3_0 h.b _, set3_other h.c (by omega) _, h.g.set (by omega) _⟩
theorem U.s1 {w w1 : World} {A B C : ByteArray} {x y z : Int} (h : U w w1 A B C x y z) (u : Int) : U w (w1.setCell ⟨w.heap.size + 1, 1, none⟩ (.int .i64 u)) A B C x u z :=
  ⟨set3_other h.a (by omega) _, set3_1 h.b _, set3_other h.c (by omega) _, h.g.set (by omega) _⟩
theorem U.s2 {w w1 : World} {A B C : ByteArray} {x y z : Int} (h : U w w1 A B C x y z) (u : Int) : U w (w1.setCell ⟨w.heap.size + 1, 2, none⟩ (.int .i64 u)) A B C x y u :=
  ⟨set3_other h.a (by omega) _, set3_2 h.b _, set3_other h.c (by omega) _, h.g.set (by omega) _⟩
theorem U.cells {w w' : World} {A B C : ByteArray} {x y z : Int} (h : U w w' A B C x y z) : w'.cell? ⟨w.heap.size + 1, 0, none⟩ = some (.int .i64 x) ∧ w'.cell? ⟨w.heap.size + 1, 1, none⟩ = some (.int .i64 y) ∧ w'.cell? ⟨w.heap.size + 1, 2, none⟩ = some (.int .i64 z) :=
  ⟨by rw [cell_of_row w' _ 0 _ 31 (0, 0) h.b]; rfl, by rw [cell_of_row w' _ 1 _ 31 (0, 0) h.b]; rfl, by rw [cell_of_row w' _ 2 _ 31 (0, 0) h.b]; rfl⟩
theorem U.parts {w w' : World} {A B C : ByteArray} {x y z : Int} (h : U w w' A B C x y z) : w'.cell? ⟨w.heap.size + 1 + 1, 0, none⟩ = some (.string A) ∧ w'.cell? ⟨w.heap.size + 1 + 1, 1, none⟩ = some (.string B) ∧ w'.cell? ⟨w.heap.size + 1 + 1, 2, none⟩ = some (.string C) :=
  ⟨by rw [cell_of_row w' _ 0 _ 9 (0, 0) h.c]; rfl, by rw [cell_of_row w' _ 1 _ 9 (0, 0) h.c]; rfl, by rw [cell_of_row w' _ 2 _ 9 (0, 0) h.c]; rfl⟩
theorem U.outs {w w' : World} {A B C : ByteArray} {x y z : Int} (h : U w w' A B C x y z) : w'.cell? ⟨w.heap.size, 0, none⟩ = some (.int .i64 0) ∧ w'.cell? ⟨w.heap.size, 1, none⟩ = some (.int .i64 0) ∧ w'.cell? ⟨w.heap.size, 2, none⟩ = some (.int .i64 0) :=
  ⟨by rw [cell_of_row w' _ 0 _ 31 (0, 0) h.a]; rfl, by rw [cell_of_row w' _ 1 _ 31 (0, 0) h.a]; rfl, by rw [cell_of_row w' _ 2 _ 31 (0, 0) h.a]; rfl⟩
set_option maxHeartbeats 2000000 in
set_option maxRecDepth 10000 in
theorem parse3_bad0 (m : Int) (s A B C : ByteArray) (w : World) (hm : w.cell? ⟨2, 0, none⟩ = some (.int .i64 m)) (he : Er w) (ht : Tb w) (hl : (s.size : Int) ≤ 11)
    (hs : ∀ w, w.cell? ⟨2, 0, none⟩ = some (.int .i64 m) → Calls Tryz.prog 78 #[.string s, .string { data := #[46] }] w (Sp [A, B, C] w)) (hA : ∀ w, Er w → Tb w → Calls Tryz.prog 79 #[.string A] w (Digits 0 false w)) :
    Calls Tryz.prog 64 #[.string s] w (ParseT 0 0 0 20 w) := by
  have Hm := Lib.hid hm
  have Hs := Lib.hid hs
  have He := Lib.hid he
  have Ht := Lib.hid ht
  clear hm hs he ht
  go_enter Tryz.func64, Tryz.ntmps64
  go_wp2_with fail
  refine (Hs.out _ (((Gr.refl w).alloc _ _).alloc _ _ |>.keep Hm.out)).mono ?_
  rintro e w1 ⟨rfl, rfl⟩
  go_wp2_with fail
  obtain ⟨ha, hb, hc⟩ := three w (.cells #[.int .i64 0, .int .i64 0, .int .i64 0] 31) (.cells #[.int .i64 0, .int .i64 0, .int .i64 0] 31) (.cells #[.string A, .string B, .string C] 9)
  have Hv0 := Lib.hid (U.mk (w := w) ha hb hc ((((Gr.refl w).alloc #[.int .i64 0, .int .i64 0, .int .i64 0] 31).alloc #[.int .i64 0, .int .i64 0, .int .i64 0] 31).alloc #[.string A, .string B, .string C] 9))
  clear ha hb hc
  refine wp_loop_rounds 1 ?_
  rw [rounds_succ]
  go_wp2_with fail
  refine (hA _ (He.out.keep Hv0.out.g) (Ht.out.keep Hv0.out.g)).mono ?_
  rintro e w2 ⟨rfl, hg⟩
  have Hv2 := Lib.hid (Hv0.out.gr hg)
  clear hg Hv0
  obtain ⟨c0, c1, c2⟩ := Hv2.out.outs
  have f := fz Hv2.out.a
  go_wp2_with fail
  refine bodyPost_ret (v := .tuple #[.agg #[.int .i64 0, .int .i64 0, .int .i64 0], .int .i64 20]) (by simp [results, Tryz.results64, go_sem, c0, c1, c2]) rfl ⟨rfl, ?_⟩
  exact ((Hv2.out.g.set (Nat.le_refl _) _).set (Nat.le_refl _) _).set (Nat.le_refl _) _
set_option maxHeartbeats 2000000 in
set_option maxRecDepth 10000 in
theorem parse3_bad1 (m : Int) (s A B C : ByteArray) (n0 : Int) (w : World) (hm : w.cell? ⟨2, 0, none⟩ = some (.int .i64 m)) (he : Er w) (ht : Tb w) (hl : (s.size : Int) ≤ 11)
    (hs : ∀ w, w.cell? ⟨2, 0, none⟩ = some (.int .i64 m) → Calls Tryz.prog 78 #[.string s, .string { data := #[46] }] w (Sp [A, B, C] w)) (hA : ∀ w, Er w → Tb w → Calls Tryz.prog 79 #[.string A] w (Digits n0 true w)) (hB : ∀ w, Er w → Tb w → Calls Tryz.prog 79 #[.string B] w (Digits 0 false w)) :
    Calls Tryz.prog 64 #[.string s] w (ParseT 0 0 0 20 w) := by
  have Hm := Lib.hid hm
  have Hs := Lib.hid hs
  have He := Lib.hid he
  have Ht := Lib.hid ht
  clear hm hs he ht
  go_enter Tryz.func64, Tryz.ntmps64
  go_wp2_with fail
  refine (Hs.out _ (((Gr.refl w).alloc _ _).alloc _ _ |>.keep Hm.out)).mono ?_
  rintro e w1 ⟨rfl, rfl⟩
  go_wp2_with fail
  obtain ⟨ha, hb, hc⟩ := three w (.cells #[.int .i64 0, .int .i64 0, .int .i64 0] 31) (.cells #[.int .i64 0, .int .i64 0, .int .i64 0] 31) (.cells #[.string A, .string B, .string C] 9)
  have Hv0 := Lib.hid (U.mk (w := w) ha hb hc ((((Gr.refl w).alloc #[.int .i64 0, .int .i64 0, .int .i64 0] 31).alloc #[.int .i64 0, .int .i64 0, .int .i64 0] 31).alloc #[.string A, .string B, .string C] 9))
  clear ha hb hc
  refine wp_loop_rounds 2 ?_
  rw [rounds_succ]
  go_wp2_with fail
  refine (hA _ (He.out.keep Hv0.out.g) (Ht.out.keep Hv0.out.g)).mono ?_
  rintro e w2 ⟨rfl, hg⟩
  have Hv2 := Lib.hid (Hv0.out.gr hg)
  clear hg Hv0
  have f := fz Hv2.out.b
  obtain ⟨c0, _, _⟩ := Hv2.out.cells
  go_wp2_with fail
  have Hv3 := Lib.hid (Hv2.out.s0 n0)
  clear f c0 Hv2
  generalize w2.setCell ⟨w.heap.size + 1, 0, none⟩ (.int .i64 n0) = w3 at *
  obtain ⟨_, p1, _⟩ := Hv3.out.parts
  rw [rounds_succ]
  go_wp2_with fail
  refine (hB _ (He.out.keep Hv3.out.g) (Ht.out.keep Hv3.out.g)).mono ?_
  rintro e w4 ⟨rfl, hg⟩
  have Hv4 := Lib.hid (Hv3.out.gr hg)
  clear hg p1 Hv3
  obtain ⟨c0, c1, c2⟩ := Hv4.out.outs
  have f := fz Hv4.out.a
  go_wp2_with fail
  refine bodyPost_ret (v := .tuple #[.agg #[.int .i64 0, .int .i64 0, .int .i64 0], .int .i64 20]) (by simp [results, Tryz.results64, go_sem, c0, c1, c2]) rfl ⟨rfl, ?_⟩
  exact ((Hv4.out.g.set (Nat.le_refl _) _).set (Nat.le_refl _) _).set (Nat.le_refl _) _
set_option maxHeartbeats 2000000 in
set_option maxRecDepth 10000 in
theorem parse3_bad2 (m : Int) (s A B C : ByteArray) (n0 n1 : Int) (w : World) (hm : w.cell? ⟨2, 0, none⟩ = some (.int .i64 m)) (he : Er w) (ht : Tb w) (hl : (s.size : Int) ≤ 11)
    (hs : ∀ w, w.cell? ⟨2, 0, none⟩ = some (.int .i64 m) → Calls Tryz.prog 78 #[.string s, .string { data := #[46] }] w (Sp [A, B, C] w)) (hA : ∀ w, Er w → Tb w → Calls Tryz.prog 79 #[.string A] w (Digits n0 true w)) (hB : ∀ w, Er w → Tb w → Calls Tryz.prog 79 #[.string B] w (Digits n1 true w)) (hC : ∀ w, Er w → Tb w → Calls Tryz.prog 79 #[.string C] w (Digits 0 false w)) :
    Calls Tryz.prog 64 #[.string s] w (ParseT 0 0 0 20 w) := by
  have Hm := Lib.hid hm
  have Hs := Lib.hid hs
  have He := Lib.hid he
  have Ht := Lib.hid ht
  clear hm hs he ht
  go_enter Tryz.func64, Tryz.ntmps64
  go_wp2_with fail
  refine (Hs.out _ (((Gr.refl w).alloc _ _).alloc _ _ |>.keep Hm.out)).mono ?_
  rintro e w1 ⟨rfl, rfl⟩
  go_wp2_with fail
  obtain ⟨ha, hb, hc⟩ := three w (.cells #[.int .i64 0, .int .i64 0, .int .i64 0] 31) (.cells #[.int .i64 0, .int .i64 0, .int .i64 0] 31) (.cells #[.string A, .string B, .string C] 9)
  have Hv0 := Lib.hid (U.mk (w := w) ha hb hc ((((Gr.refl w).alloc #[.int .i64 0, .int .i64 0, .int .i64 0] 31).alloc #[.int .i64 0, .int .i64 0, .int .i64 0] 31).alloc #[.string A, .string B, .string C] 9))
  clear ha hb hc
  refine wp_loop_rounds 3 ?_
  rw [rounds_succ]
  go_wp2_with fail
  refine (hA _ (He.out.keep Hv0.out.g) (Ht.out.keep Hv0.out.g)).mono ?_
  rintro e w2 ⟨rfl, hg⟩
  have Hv2 := Lib.hid (Hv0.out.gr hg)
  clear hg Hv0
  have f := fz Hv2.out.b
  obtain ⟨c0, _, _⟩ := Hv2.out.cells
  go_wp2_with fail
  have Hv3 := Lib.hid (Hv2.out.s0 n0)
  clear f c0 Hv2
  generalize w2.setCell ⟨w.heap.size + 1, 0, none⟩ (.int .i64 n0) = w3 at *
  obtain ⟨_, p1, _⟩ := Hv3.out.parts
  rw [rounds_succ]
  go_wp2_with fail
  refine (hB _ (He.out.keep Hv3.out.g) (Ht.out.keep Hv3.out.g)).mono ?_
  rintro e w4 ⟨rfl, hg⟩
  have Hv4 := Lib.hid (Hv3.out.gr hg)
  clear hg p1 Hv3
  have f := fz Hv4.out.b
  obtain ⟨_, c1, _⟩ := Hv4.out.cells
  go_wp2_with fail
  have Hv5 := Lib.hid (Hv4.out.s1 n1)
  clear f c1 Hv4
  generalize w4.setCell ⟨w.heap.size + 1, 1, none⟩ (.int .i64 n1) = w5 at *
  obtain ⟨_, _, p2⟩ := Hv5.out.parts
  rw [rounds_succ]
  go_wp2_with fail
  refine (hC _ (He.out.keep Hv5.out.g) (Ht.out.keep Hv5.out.g)).mono ?_
  rintro e w6 ⟨rfl, hg⟩
  have Hv6 := Lib.hid (Hv5.out.gr hg)
  clear hg p2 Hv5
  obtain ⟨c0, c1, c2⟩ := Hv6.out.outs
  have f := fz Hv6.out.a
  go_wp2_with fail
  refine bodyPost_ret (v := .tuple #[.agg #[.int .i64 0, .int .i64 0, .int .i64 0], .int .i64 20]) (by simp [results, Tryz.results64, go_sem, c0, c1, c2]) rfl ⟨rfl, ?_⟩
  exact ((Hv6.out.g.set (Nat.le_refl _) _).set (Nat.le_refl _) _).set (Nat.le_refl _) _
set_option maxHeartbeats 2000000 in
set_option maxRecDepth 10000 in
theorem parse3_bad (m : Int) (s A B C : ByteArray) (n0 n1 n2 : Int) (w : World) (hm : w.cell? ⟨2, 0, none⟩ = some (.int .i64 m)) (he : Er w) (ht : Tb w) (hl : (s.size : Int) ≤ 11)
    (hs : ∀ w, w.cell? ⟨2, 0, none⟩ = some (.int .i64 m) → Calls Tryz.prog 78 #[.string s, .string { data := #[46] }] w (Sp [A, B, C] w)) (hA : ∀ w, Er w → Tb w → Calls Tryz.prog 79 #[.string A] w (Digits n0 true w)) (hB : ∀ w, Er w → Tb w → Calls Tryz.prog 79 #[.string B] w (Digits n1 true w)) (hC : ∀ w, Er w → Tb w → Calls Tryz.prog 79 #[.string C] w (Digits n2 true w)) (hgood : goodB n0 n1 n2 = false) :
    Calls Tryz.prog 64 #[.string s] w (ParseT 0 0 0 20 w) := by
  have Hm := Lib.hid hm
  have Hs := Lib.hid hs
  have He := Lib.hid he
  have Ht := Lib.hid ht
  clear hm hs he ht
  go_enter Tryz.func64, Tryz.ntmps64
  go_wp2_with fail
  refine (Hs.out _ (((Gr.refl w).alloc _ _).alloc _ _ |>.keep Hm.out)).mono ?_
  rintro e w1 ⟨rfl, rfl⟩
  go_wp2_with fail
  obtain ⟨ha, hb, hc⟩ := three w (.cells #[.int .i64 0, .int .i64 0, .int .i64 0] 31) (.cells #[.int .i64 0, .int .i64 0, .int .i64 0] 31) (.cells #[.string A, .string B, .string C] 9)
  have Hv0 := Lib.hid (U.mk (w := w) ha hb hc ((((Gr.refl w).alloc #[.int .i64 0, .int .i64 0, .int .i64 0] 31).alloc #[.int .i64 0, .int .i64 0, .int .i64 0] 31).alloc #[.string A, .string B, .string C] 9))
  clear ha hb hc
  refine wp_loop_rounds 4 ?_
  rw [rounds_succ]
  go_wp2_with fail
  refine (hA _ (He.out.keep Hv0.out.g) (Ht.out.keep Hv0.out.g)).mono ?_
  rintro e w2 ⟨rfl, hg⟩
  have Hv2 := Lib.hid (Hv0.out.gr hg)
  clear hg Hv0
  have f := fz Hv2.out.b
  obtain ⟨c0, _, _⟩ := Hv2.out.cells
  go_wp2_with fail
  have Hv3 := Lib.hid (Hv2.out.s0 n0)
  clear f c0 Hv2
  generalize w2.setCell ⟨w.heap.size + 1, 0, none⟩ (.int .i64 n0) = w3 at *
  obtain ⟨_, p1, _⟩ := Hv3.out.parts
  rw [rounds_succ]
  go_wp2_with fail
  refine (hB _ (He.out.keep Hv3.out.g) (Ht.out.keep Hv3.out.g)).mono ?_
  rintro e w4 ⟨rfl, hg⟩
  have Hv4 := Lib.hid (Hv3.out.gr hg)
  clear hg p1 Hv3
  have f := fz Hv4.out.b
  obtain ⟨_, c1, _⟩ := Hv4.out.cells
  go_wp2_with fail
  have Hv5 := Lib.hid (Hv4.out.s1 n1)
  clear f c1 Hv4
  generalize w4.setCell ⟨w.heap.size + 1, 1, none⟩ (.int .i64 n1) = w5 at *
  obtain ⟨_, _, p2⟩ := Hv5.out.parts
  rw [rounds_succ]
  go_wp2_with fail
  refine (hC _ (He.out.keep Hv5.out.g) (Ht.out.keep Hv5.out.g)).mono ?_
  rintro e w6 ⟨rfl, hg⟩
  have Hv6 := Lib.hid (Hv5.out.gr hg)
  clear hg p2 Hv5
  have f := fz Hv6.out.b
  obtain ⟨_, _, c2⟩ := Hv6.out.cells
  go_wp2_with fail
  have Hv7 := Lib.hid (Hv6.out.s2 n2)
  clear f c2 Hv6
  generalize w6.setCell ⟨w.heap.size + 1, 2, none⟩ (.int .i64 n2) = w7 at *
  obtain ⟨c0, c1, c2⟩ := Hv7.out.cells
  rw [rounds_succ]
  go_wp2_with fail
  refine (good_any n0 n1 n2 _).mono ?_
  rintro e w8 ⟨rfl, hg⟩
  rw [hgood]
  have Hv8 := Lib.hid (Hv7.out.gr hg)
  clear c0 c1 c2 hg Hv7
  obtain ⟨c0, c1, c2⟩ := Hv8.out.outs
  have f := fz Hv8.out.a
  go_wp2_with fail
  refine bodyPost_ret (v := .tuple #[.agg #[.int .i64 0, .int .i64 0, .int .i64 0], .int .i64 20]) (by simp [results, Tryz.results64, go_sem, c0, c1, c2]) rfl ⟨rfl, ?_⟩
  exact ((Hv8.out.g.set (Nat.le_refl _) _).set (Nat.le_refl _) _).set (Nat.le_refl _) _
set_option maxHeartbeats 2000000 in
set_option maxRecDepth 10000 in
theorem parse3_good (m : Int) (s A B C : ByteArray) (n0 n1 n2 : Int) (w : World) (hm : w.cell? ⟨2, 0, none⟩ = some (.int .i64 m)) (he : Er w) (ht : Tb w) (hl : (s.size : Int) ≤ 11)
    (hs : ∀ w, w.cell? ⟨2, 0, none⟩ = some (.int .i64 m) → Calls Tryz.prog 78 #[.string s, .string { data := #[46] }] w (Sp [A, B, C] w)) (hA : ∀ w, Er w → Tb w → Calls Tryz.prog 79 #[.string A] w (Digits n0 true w)) (hB : ∀ w, Er w → Tb w → Calls Tryz.prog 79 #[.string B] w (Digits n1 true w)) (hC : ∀ w, Er w → Tb w → Calls Tryz.prog 79 #[.string C] w (Digits n2 true w)) (hgood : goodB n0 n1 n2 = true) :
    Calls Tryz.prog 64 #[.string s] w (ParseT n0 n1 n2 0 w) := by
  have Hm := Lib.hid hm
  have Hs := Lib.hid hs
  have He := Lib.hid he
  have Ht := Lib.hid ht
  clear hm hs he ht
  go_enter Tryz.func64, Tryz.ntmps64
  go_wp2_with fail
  refine (Hs.out _ (((Gr.refl w).alloc _ _).alloc _ _ |>.keep Hm.out)).mono ?_
  rintro e w1 ⟨rfl, rfl⟩
  go_wp2_with fail
  obtain ⟨ha, hb, hc⟩ := three w (.cells #[.int .i64 0, .int .i64 0, .int .i64 0] 31) (.cells #[.int .i64 0, .int .i64 0, .int .i64 0] 31) (.cells #[.string A, .string B, .string C] 9)
  have Hv0 := Lib.hid (U.mk (w := w) ha hb hc ((((Gr.refl w).alloc #[.int .i64 0, .int .i64 0, .int .i64 0] 31).alloc #[.int .i64 0, .int .i64 0, .int .i64 0] 31).alloc #[.string A, .string B, .string C] 9))
  clear ha hb hc
  refine wp_loop_rounds 4 ?_
  rw [rounds_succ]
  go_wp2_with fail
  refine (hA _ (He.out.keep Hv0.out.g) (Ht.out.keep Hv0.out.g)).mono ?_
  rintro e w2 ⟨rfl, hg⟩
  have Hv2 := Lib.hid (Hv0.out.gr hg)
  clear hg Hv0
  have f := fz Hv2.out.b
  obtain ⟨c0, _, _⟩ := Hv2.out.cells
  go_wp2_with fail
  have Hv3 := Lib.hid (Hv2.out.s0 n0)
  clear f c0 Hv2
  generalize w2.setCell ⟨w.heap.size + 1, 0, none⟩ (.int .i64 n0) = w3 at *
  obtain ⟨_, p1, _⟩ := Hv3.out.parts
  rw [rounds_succ]
  go_wp2_with fail
  refine (hB _ (He.out.keep Hv3.out.g) (Ht.out.keep Hv3.out.g)).mono ?_
  rintro e w4 ⟨rfl, hg⟩
  have Hv4 := Lib.hid (Hv3.out.gr hg)
  clear hg p1 Hv3
  have f := fz Hv4.out.b
  obtain ⟨_, c1, _⟩ := Hv4.out.cells
  go_wp2_with fail
  have Hv5 := Lib.hid (Hv4.out.s1 n1)
  clear f c1 Hv4
  generalize w4.setCell ⟨w.heap.size + 1, 1, none⟩ (.int .i64 n1) = w5 at *
  obtain ⟨_, _, p2⟩ := Hv5.out.parts
  rw [rounds_succ]
  go_wp2_with fail
  refine (hC _ (He.out.keep Hv5.out.g) (Ht.out.keep Hv5.out.g)).mono ?_
  rintro e w6 ⟨rfl, hg⟩
  have Hv6 := Lib.hid (Hv5.out.gr hg)
  clear hg p2 Hv5
  have f := fz Hv6.out.b
  obtain ⟨_, _, c2⟩ := Hv6.out.cells
  go_wp2_with fail
  have Hv7 := Lib.hid (Hv6.out.s2 n2)
  clear f c2 Hv6
  generalize w6.setCell ⟨w.heap.size + 1, 2, none⟩ (.int .i64 n2) = w7 at *
  obtain ⟨c0, c1, c2⟩ := Hv7.out.cells
  rw [rounds_succ]
  go_wp2_with fail
  refine (good_any n0 n1 n2 _).mono ?_
  rintro e w8 ⟨rfl, hg⟩
  rw [hgood]
  have Hv8 := Lib.hid (Hv7.out.gr hg)
  clear c0 c1 c2 hg Hv7
  obtain ⟨c0, c1, c2⟩ := Hv8.out.cells
  obtain ⟨a0, a1, a2⟩ := Hv8.out.outs
  have f := fz Hv8.out.a
  go_wp2_with fail
  refine bodyPost_ret (v := .tuple #[.agg #[.int .i64 n0, .int .i64 n1, .int .i64 n2], .int .i64 0]) (by simp [results, Tryz.results64, go_sem, a0, a1, a2]) rfl ⟨rfl, ?_⟩
  exact ((Hv8.out.g.set (Nat.le_refl _) _).set (Nat.le_refl _) _).set (Nat.le_refl _) _
end Go.Proofs.YtaijhebjjbcdfaaGreatDoor.Ver
