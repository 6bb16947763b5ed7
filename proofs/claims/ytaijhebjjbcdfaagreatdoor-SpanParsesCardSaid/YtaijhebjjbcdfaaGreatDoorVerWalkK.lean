/- The contracts of Parse, of the program and of the document, of any text. Conditions: the library's variables read as laid; the text is at most 2^16 bytes. -/
import Derived.Test.YtaijhebjjbcdfaaGreatDoorVerWalkJ
namespace Go.Proofs.YtaijhebjjbcdfaaGreatDoor.Ver
set_option linter.unusedVariables false
open Go.ChangeShapes Go.WideShapes Go.ChangeAt Go.RowKit Go.Sort
theorem two (w : World) (x y : Obj) : ((w.alloc x).alloc y).heap[w.heap.size]? = some x ∧ ((w.alloc x).alloc y).heap[w.heap.size + 1]? = some y := by
  have s1 : (w.alloc x).heap.size = w.heap.size + 1 := by show (w.heap.push _).size = _; simp
  refine ⟨?_, ?_⟩
  · rw [Below.heap_alloc _ _ _ (by omega)]; exact heap_alloc_new w x
  · rw [← s1]; exact heap_alloc_new _ y
set_option maxHeartbeats 1000000 in
set_option maxRecDepth 10000 in
theorem parse_long (s : ByteArray) (w : World) (hl : (11 : Int) < (s.size : Int)) : Calls Tryz.prog 64 #[.string s] w (ParseT 0 0 0 20 w) := by
  obtain ⟨ha, hb⟩ := two w (.cells #[.int .i64 0, .int .i64 0, .int .i64 0] 31) (.cells #[.int .i64 0, .int .i64 0, .int .i64 0] 31)
  obtain ⟨c0, c1, c2⟩ := three_cells ha
  obtain ⟨d0, d1, d2⟩ := three_cells hb
  have f := fz ha
  have Hg := Lib.hid (((Gr.refl w).alloc #[.int .i64 0, .int .i64 0, .int .i64 0] 31).alloc #[.int .i64 0, .int .i64 0, .int .i64 0] 31)
  clear ha hb
  go_enter Tryz.func64, Tryz.ntmps64
  go_wp2_with fail
  refine bodyPost_ret (v := .tuple #[.agg #[.int .i64 0, .int .i64 0, .int .i64 0], .int .i64 20]) (by simp [results, Tryz.results64, go_sem, c0, c1, c2]) rfl ⟨rfl, ?_⟩
  exact Hg.out
set_option maxHeartbeats 1000000 in
set_option maxRecDepth 10000 in
theorem parse_count (m : Int) (s : ByteArray) (ps : List ByteArray) (w : World) (hm : w.cell? ⟨2, 0, none⟩ = some (.int .i64 m)) (hl : (s.size : Int) ≤ 11) (hn : ¬ ps.length = 3)
    (hs : ∀ w, w.cell? ⟨2, 0, none⟩ = some (.int .i64 m) → Calls Tryz.prog 78 #[.string s, .string { data := #[46] }] w (Sp ps w)) : Calls Tryz.prog 64 #[.string s] w (ParseT 0 0 0 20 w) := by
  have Hm := Lib.hid hm
  have Hs := Lib.hid hs
  have hn' : ((ps.length : Int) == 3) = false := by rw [beq_eq_false_iff_ne]; omega
  clear hm hs
  go_enter Tryz.func64, Tryz.ntmps64
  go_wp2_with fail
  refine (Hs.out _ (((Gr.refl w).alloc _ _).alloc _ _ |>.keep Hm.out)).mono ?_
  rintro e w1 ⟨rfl, rfl⟩
  obtain ⟨ha, hb, hc⟩ := three w (.cells #[.int .i64 0, .int .i64 0, .int .i64 0] 31) (.cells #[.int .i64 0, .int .i64 0, .int .i64 0] 31) (.cells (ps.map Value.string).toArray 9)
  obtain ⟨c0, c1, c2⟩ := three_cells ha
  obtain ⟨d0, d1, d2⟩ := three_cells hb
  have f := fz ha
  have Hg := Lib.hid ((((Gr.refl w).alloc #[.int .i64 0, .int .i64 0, .int .i64 0] 31).alloc #[.int .i64 0, .int .i64 0, .int .i64 0] 31).alloc (ps.map Value.string).toArray 9)
  clear ha hb hc
  go_wp2_with fail
  refine bodyPost_ret (v := .tuple #[.agg #[.int .i64 0, .int .i64 0, .int .i64 0], .int .i64 20]) (by simp [results, Tryz.results64, go_sem, c0, c1, c2]) rfl ⟨rfl, ?_⟩
  exact Hg.out
def ParseO (r : Option (Nat × Nat × Nat)) (w : World) (e : Ending) (w' : World) : Prop := match r with
  | some (a, b, c) => ParseT a b c 0 w e w'
  | none => ParseT 0 0 0 20 w e w'
theorem mk_bytes (A : ByteArray) : (⟨A.data.toList.toArray⟩ : ByteArray) = A := by apply ByteArray.ext; simp
theorem map_inj {ps qs : List ByteArray} (h : ps.map (·.data.toList) = qs.map (·.data.toList)) : ps = qs := by
  induction ps generalizing qs with
  | nil => cases qs with
    | nil => rfl
    | cons a b => simp at h
  | cons p ps ih => cases qs with
    | nil => simp at h
    | cons q qs =>
      simp only [List.map_cons, List.cons.injEq] at h
      rw [ih h.2, ByteArray.ext (Array.ext' h.1)]
theorem split_is (s : ByteArray) (m : Int) (ps : List ByteArray) (hs : s.size ≤ 65536) (h : ps.map (·.data.toList) = pcs 46 s.data.toList) :
    ∀ w, w.cell? ⟨2, 0, none⟩ = some (.int .i64 m) → Calls Tryz.prog 78 #[.string s, .string { data := #[46] }] w (Sp ps w) := fun w hm =>
  (split_any s m w hs hm).mono fun e w' ⟨qs, h1, h2⟩ => by
    have : qs = ps := map_inj (h1.trans h.symm)
    rwa [this] at h2
theorem parse_any (m : Int) (s : ByteArray) (w : World) (hm : w.cell? ⟨2, 0, none⟩ = some (.int .i64 m)) (he : Er w) (ht : Tb w) (hl : s.size ≤ 65536) :
    Calls Tryz.prog 64 #[.string s] w (ParseO (verL s.data.toList) w) := by
  have hsl : s.data.toList.length = s.size := by simp
  by_cases h11 : s.size ≤ 11
  · obtain ⟨ps, hps⟩ : ∃ ps : List ByteArray, ps.map (·.data.toList) = pcs 46 s.data.toList := ⟨(pcs 46 s.data.toList).map fun l => ⟨l.toArray⟩, by simp [List.map_map, Function.comp_def]⟩
    have hsp := split_is s m ps hl hps
    have hlen : ps.length = (pcs 46 s.data.toList).length := by rw [← hps]; simp
    by_cases h3 : ps.length = 3
    · match ps, h3 with
      | [A, B, C], _ =>
        have e3 : pcs 46 s.data.toList = [A.data.toList, B.data.toList, C.data.toList] := hps.symm
        have hsz := congrArg List.length (pcs_three e3)
        simp only [List.length_append, List.length_cons] at hsz
        have hA : A.data.toList.length = A.size := by simp
        have hB : B.data.toList.length = B.size := by simp
        have hC : C.data.toList.length = C.size := by simp
        have hi : (s.size : Int) ≤ 11 := by omega
        have ev : verL s.data.toList = if okP A.data.toList && (okP B.data.toList && okP C.data.toList) then some (val A.data.toList, val B.data.toList, val C.data.toList) else none := by
          unfold verL; rw [e3]
        cases hk : okP A.data.toList && (okP B.data.toList && okP C.data.toList) with
        | true =>
          rw [ev, hk, if_pos rfl]
          simp only [Bool.and_eq_true] at hk
          obtain ⟨k1, k2, k3⟩ := hk
          have b1 := (okP_back k1).2
          have b2 := (okP_back k2).2
          have b3 := (okP_back k3).2
          exact parse3_good m s A B C _ _ _ w hm he ht hi hsp (fun w _ t => digits_some A _ w (by omega) (digR_ok k1) t) (fun w _ t => digits_some B _ w (by omega) (digR_ok k2) t) (fun w _ t => digits_some C _ w (by omega) (digR_ok k3) t) (good_yes (by omega))
        | false =>
          rw [ev, hk, if_neg (by simp)]
          cases d0 : digR A.data.toList with
          | none => exact parse3_bad0 m s A B C w hm he ht hi hsp (fun w e t => digits_none A w (by omega) d0 e t)
          | some n0 =>
            cases d1 : digR B.data.toList with
            | none => exact parse3_bad1 m s A B C n0 w hm he ht hi hsp (fun w _ t => digits_some A n0 w (by omega) d0 t) (fun w e t => digits_none B w (by omega) d1 e t)
            | some n1 =>
              cases d2 : digR C.data.toList with
              | none => exact parse3_bad2 m s A B C n0 n1 w hm he ht hi hsp (fun w _ t => digits_some A n0 w (by omega) d0 t) (fun w _ t => digits_some B n1 w (by omega) d1 t) (fun w e t => digits_none C w (by omega) d2 e t)
              | some n2 =>
                refine parse3_bad m s A B C n0 n1 n2 w hm he ht hi hsp (fun w _ t => digits_some A n0 w (by omega) d0 t) (fun w _ t => digits_some B n1 w (by omega) d1 t) (fun w _ t => digits_some C n2 w (by omega) d2 t) (good_no fun hg => ?_)
                rw [digR_in d0 hg.1 hg.2.1, digR_in d1 hg.2.2.1 hg.2.2.2.1, digR_in d2 hg.2.2.2.2.1 hg.2.2.2.2.2] at hk
                cases hk
    · have ev : verL s.data.toList = none := by
        unfold verL
        split
        · rename_i p q r e; rw [e] at hlen; simp at hlen; exact absurd hlen h3
        · rfl
      rw [ev]
      exact parse_count m s ps w hm (by omega) h3 hsp
  · have ev : verL s.data.toList = none := by
      unfold verL
      split
      · rename_i p q r e
        split
        · rename_i hk
          simp only [Bool.and_eq_true] at hk
          have h1 := (okP_parts hk.1).2.1
          have h2 := (okP_parts hk.2.1).2.1
          have h3 := (okP_parts hk.2.2).2.1
          have hsz := congrArg List.length (pcs_three e)
          simp only [List.length_append, List.length_cons] at hsz
          omega
        · rfl
      · rfl
    rw [ev]
    exact parse_long s w (by omega)
end Go.Proofs.YtaijhebjjbcdfaaGreatDoor.Ver
