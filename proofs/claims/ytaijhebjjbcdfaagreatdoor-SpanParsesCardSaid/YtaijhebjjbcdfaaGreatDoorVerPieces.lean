/- What stands between the bytes of one kind, and the contract of the document's Pieces. Condition: the text is at most 2^16 bytes. -/
import Derived.Test.YtaijhebjjbcdfaaGreatDoorVerTextMath
import Derived.WalkSpells
import Derived.OwnWalk
import Derived.StillTailTactics
import Derived.Laws.OwnMore
namespace Go.Proofs.YtaijhebjjbcdfaaGreatDoor.Ver
set_option linter.unusedVariables false
open Go.ChangeShapes Go.WideShapes Go.ChangeAt Go.RowKit Go.Sort
def pstep (c : UInt8) (ps : List (List UInt8)) (b : UInt8) : List (List UInt8) := if b = c then ps ++ [[]] else ps.dropLast ++ [ps.getLastD [] ++ [b]]
def pcs (c : UInt8) (l : List UInt8) : List (List UInt8) := l.foldl (pstep c) [[]]
theorem pcs_nil (c : UInt8) : pcs c [] = [[]] := rfl
theorem pcs_snoc (c b : UInt8) (l : List UInt8) : pcs c (l ++ [b]) = pstep c (pcs c l) b := by simp [pcs]
theorem pstep_tail (c b : UInt8) (acc : List (List UInt8)) (p : List UInt8) : pstep c (acc ++ [p]) b = if b = c then acc ++ [p] ++ [[]] else acc ++ [p ++ [b]] := by
  unfold pstep
  split <;> simp
theorem pfold_tail (c : UInt8) (l : List UInt8) : ∀ (acc : List (List UInt8)) (p : List UInt8), l.foldl (pstep c) (acc ++ [p]) = acc ++ l.foldl (pstep c) [p] := by
  induction l with
  | nil => intro acc p; rfl
  | cons b l ih =>
    intro acc p
    simp only [List.foldl_cons]
    rw [pstep_tail]
    have e := pstep_tail c b [] p
    simp only [List.nil_append] at e
    rw [e]
    by_cases h : b = c
    · rw [if_pos h, if_pos h, ih (acc ++ [p]) [], ih [p] []]
      simp
    · rw [if_neg h, if_neg h, ih acc (p ++ [b])]
theorem pfold_free (c : UInt8) (l : List UInt8) (h : c ∉ l) : ∀ (p : List UInt8), l.foldl (pstep c) [p] = [p ++ l] := by
  induction l with
  | nil => intro p; simp
  | cons b l ih =>
    intro p
    have hb : ¬ b = c := fun e => h (by simp [e])
    have e := pstep_tail c b [] p
    simp only [List.nil_append] at e
    simp only [List.foldl_cons]
    rw [e, if_neg hb, ih (fun hm => h (by simp [hm]))]
    simp
theorem pcs_free {c : UInt8} {l : List UInt8} (h : c ∉ l) : pcs c l = [l] := by
  have := pfold_free c l h []
  simpa [pcs] using this
theorem pcs_cut {c : UInt8} {l r : List UInt8} (h : c ∉ l) : pcs c (l ++ c :: r) = l :: pcs c r := by
  unfold pcs
  rw [List.foldl_append, show l.foldl (pstep c) [[]] = [l] from pcs_free h, List.foldl_cons]
  have e := pstep_tail c c [] l
  simp only [List.nil_append] at e
  rw [e, if_pos True.intro, pfold_tail c r [l] []]
  rfl
theorem rev_ind {p : List UInt8 → Prop} (h0 : p []) (h1 : ∀ l b, p l → p (l ++ [b])) (l : List UInt8) : p l := by
  have h : ∀ m : List UInt8, p m.reverse := by
    intro m
    induction m with
    | nil => exact h0
    | cons b m ih => rw [List.reverse_cons]; exact h1 _ _ ih
  have := h l.reverse
  rwa [List.reverse_reverse] at this
theorem pcs_ne (c : UInt8) (l : List UInt8) : ∃ ini q, pcs c l = ini ++ [q] := by
  refine rev_ind (p := fun l => ∃ ini q, pcs c l = ini ++ [q]) ⟨[], [], rfl⟩ (fun l b ih => ?_) l
  rw [pcs_snoc]
  unfold pstep
  split
  · exact ⟨_, _, rfl⟩
  · exact ⟨_, _, rfl⟩
theorem pcs_len (c : UInt8) (l : List UInt8) : (pcs c l).length ≤ l.length + 1 := by
  refine rev_ind (p := fun l => (pcs c l).length ≤ l.length + 1) (by simp [pcs_nil]) (fun l b ih => ?_) l
  rw [pcs_snoc]
  unfold pstep
  split
  · simp; omega
  · simp; omega
theorem pcs_small (c : UInt8) (l : List UInt8) : ∀ p ∈ pcs c l, p.length ≤ l.length := by
  refine rev_ind (p := fun l => ∀ p ∈ pcs c l, p.length ≤ l.length) (by simp [pcs_nil]) (fun l b ih => ?_) l
  rw [pcs_snoc]
  unfold pstep
  intro p hp
  split at hp
  · rcases List.mem_append.1 hp with h | h
    · have := ih p h; simp; omega
    · simp at h; subst h; simp
  · rcases List.mem_append.1 hp with h | h
    · have := ih p (List.dropLast_subset _ h); simp; omega
    · simp at h
      subst h
      obtain ⟨ini, q, e⟩ := pcs_ne c l
      have := ih q (by rw [e]; simp)
      rw [e]
      simp
      omega
def strs (ps : List (List UInt8)) : List Value := ps.map fun p => .string ⟨p.toArray⟩
theorem strs_one (ps : List (List UInt8)) : ∀ u ∈ strs ps, u.oneCell' = true := by
  intro u hu
  obtain ⟨p, _, rfl⟩ := List.mem_map.1 hu
  rfl
theorem strs_len (ps : List (List UInt8)) : (strs ps).length = ps.length := by simp [strs]
/-- A slice of texts that the call has made. -/
def Sl (w0 w : World) (v : Value) (ps : List (List UInt8)) : Prop := w.ownsRow w0.heap.size 9 1 v ps.length (strs ps) ∧ Gr w0 w
theorem gr_grown {w0 w w' : World} {row : Option Nat} (h : Gr w0 w) (hg : w.grownBy w' row) (hr : ∀ k, row = some k → w0.heap.size ≤ k) : Gr w0 w' :=
  ⟨hg.os.trans h.os, hg.tape.trans h.tape, hg.output.trans h.output, Nat.le_trans h.size hg.size, fun k hk => (hg.block k (Nat.lt_of_lt_of_le hk h.size) (fun e => by have := hr k e.symm; omega)).trans (h.block k hk)⟩
theorem Sl.form {w0 w : World} {v : Value} {ps : List (List UInt8)} (h : Sl w0 w v ps) (hn : 0 < ps.length) : ∃ g cap, v = .slice (some ⟨g, 0, none⟩) ps.length cap ∧ w0.heap.size ≤ g ∧ ps.length ≤ cap := by
  rcases h.1.2 with ⟨_, h0⟩ | ⟨g, cap, cur, hv, hb, _, hc, _⟩
  · omega
  · exact ⟨g, cap, hv, hb, hc⟩
theorem info9 : (Tryz.prog.info? 9).map (fun i => (i.zero, i.size, i.bytes)) = some (some (.string ⟨#[]⟩), 1, 16) := by kernel_rfl
theorem take_one_drop (s : ByteArray) (k : Nat) (h : k < s.size) : (s.data.toList.drop k).take (k + 1 - k) = [s[k]] := by
  rw [List.drop_eq_getElem_cons (by simpa using h), show k + 1 - k = 1 by omega]
  rfl
theorem take_more (s : ByteArray) (k : Nat) (h : k < s.size) : s.data.toList.take (k + 1) = s.data.toList.take k ++ [s[k]] := by
  rw [List.take_succ_eq_append_getElem (by simpa using h)]
  rfl
set_option maxHeartbeats 2000000 in
set_option maxRecDepth 10000 in
theorem pieces_any (s : ByteArray) (c : UInt8) (w : World) (hs : s.size ≤ 65536) : Calls Tryz.prog 29 #[.string s, .int .u8 (c.toNat : Int)] w fun e w' => ∃ v, e = .returned v ∧ Sl w w' v (pcs c s.data.toList) := by
  go_enter Tryz.func29, Tryz.ntmps29
  go_wp2_with fail
  go_loopw [5, 6] (fun o i wr => ∃ k : Nat, k ≤ s.size ∧ i = .int .i64 k ∧ Sl w wr o (pcs c (s.data.toList.take k))) (fun _ i _ => s.size - (intOf i).toNat)
  case atStart => exact ⟨0, by omega, rfl, World.ownsRow_lit w #[.string ⟨#[]⟩] 1 (Nat.le_refl _) (by decide) rfl, (Gr.refl _).alloc _ _⟩
  case round =>
    obtain ⟨k, hk, rfl, hsl⟩ := hrel
    by_cases hlt : k < s.size
    · have hlen := pcs_len c (s.data.toList.take k)
      have hlt' : (s.data.toList.take k).length = k := by rw [List.length_take]; have : s.data.toList.length = s.size := by simp; 
                                                          omega
      rw [hlt'] at hlen
      have hmore := take_more s k hlt
      have Hst := Lib.hid (pcs_snoc c s[k] (s.data.toList.take k))
      rw [← hmore] at Hst
      obtain ⟨ini, q, hps⟩ := pcs_ne c (s.data.toList.take k)
      have hq : q.length ≤ k := by
        have := pcs_small c (s.data.toList.take k) q (by rw [hps]; simp)
        rwa [hlt'] at this
      rw [hps] at hsl Hst hlen
      have hpos : 0 < (ini ++ [q]).length := by simp
      obtain ⟨g, cap, rfl, hg, hcap⟩ := hsl.form hpos
      have Hsl := Lib.hid hsl
      clear hsl hmore hlt' hps
      by_cases hc : s[k] = c
      · have hst : pcs c (s.data.toList.take (k + 1)) = (ini ++ [q]) ++ [[]] := by rw [Hst.out, pstep_tail, if_pos hc]
        have Hst2 := Lib.hid hst
        have hd : (((s[k]).toNat : Int) == (c.toNat : Int)) = true := by rw [hc]; simp
        clear hst Hst
        obtain ⟨i0, hi, hz0, hz1, hz2⟩ := info_parts info9
        have Hown := Lib.hid (Hsl.out.1.alloc (.cells #[.string ⟨#[]⟩] 9))
        go_wp2_with (at_builtin; refine wpList_append_own _ rfl _ _ 53 rfl w.heap.size 9 i0 (.string ⟨#[]⟩) 1 16 Tryz.underlying53 hi hz0 hz1 hz2 rfl (by decide) _ _ _ rfl Hown.out ⟨wr.heap.size, 0, none⟩ 1 1 [.string ⟨#[]⟩] rfl ?c0 ?c1 ?c2 ?c3 ?c4 ?c5 ?_)
        case c0 => rfl
        case c1 =>
          intro j u hj
          cases j with
          | zero =>
            have hn := cell_of_row _ wr.heap.size 0 _ 9 (0, 0) (heap_alloc_new wr (.cells #[.string ⟨#[]⟩] 9))
            simp at hj
            subst hj
            exact hn
          | succ j => simp at hj
        case c2 => intro u hu; simp at hu; subst hu; rfl
        case c3 => unfold maxLen; omega
        case c4 => omega
        case c5 => have := Hsl.out.2.size; show w.heap.size ≤ (wr.heap.push _).size; simp; omega
        intro v' w' hown' hgr hnil
        have Hnew := Lib.hid (show Sl w w' v' (pcs c (s.data.toList.take (k + 1))) by
          rw [Hst2.out]
          refine ⟨?_, gr_grown (Hsl.out.2.alloc _ _) hgr (fun k hk => by simp [Value.ownBlock] at hk; omega)⟩
          have e : (ini ++ [q] ++ [[]]).length = ini.length + 1 + 1 := by simp
          rw [e]
          simpa [strs] using hown')
        clear hown' hgr hnil Hown hi hz0 hz1 hz2
        go_wp2_with fail
        go_round
        case rel => exact ⟨k + 1, by omega, by go_num, Hnew.out⟩
        case measure => simp [intOf]; omega
      · have hst : pcs c (s.data.toList.take (k + 1)) = ini ++ [q ++ [s[k]]] := by rw [Hst.out, pstep_tail, if_neg hc]
        have Hst2 := Lib.hid hst
        have hd : (((s[k]).toNat : Int) == (c.toNat : Int)) = false := by
          rw [beq_eq_false_iff_ne]; intro e; exact hc (UInt8.toNat_inj.1 (by omega))
        clear hst Hst
        obtain ⟨Q, hQ⟩ : ∃ Q : ByteArray, ⟨q.toArray⟩ = Q := ⟨_, rfl⟩
        have hQs : ¬ 9223372036854775807 < Q.size + 1 := by
          have : Q.size = q.length := by rw [← hQ]; simp [ByteArray.size]
          omega
        obtain ⟨X, hX⟩ : ∃ X : ByteArray, s.extract k (k + 1) = X := ⟨_, rfl⟩
        have hXl : X.data.toList = [s[k]] := by
          rw [← hX, ByteArray.data_extract, Array.toList_extract, List.extract_eq_take_drop, take_one_drop s k hlt]
        have hXs : X.size = 1 := by
          have := congrArg List.length hXl
          simpa using this
        have c0 : wr.drew.cell? ⟨g, ini.length, none⟩ = some (.string Q) := by
          rw [Hsl.out.1.drew.cellAt ini.length (by simp), ← hQ]
          simp [strs]
        have HQ := Lib.hid hQ
        have HXl := Lib.hid hXl
        have HX := Lib.hid hX
        clear hQ hXl
        have f0 : wr.drew.frozen? ⟨g, ini.length, none⟩ = false := Hsl.out.1.drew.frozenAt ini.length
        have hil : ini.length ≤ k := by simpa using hlen
        have hwr1 : IntKind.i64.wrap ((k : Int) + 1) = (k : Int) + 1 := by rw [IntKind.wrap_i64]; omega
        have hwr2 : IntKind.i64.wrap (ini.length : Int) = (ini.length : Int) := by rw [IntKind.wrap_i64]; omega
        have hb0 : (ini.length : Int) < (ini.length : Int) + 1 := by omega
        have hb1 : (k : Int) + 1 ≤ (s.size : Int) := by omega
        have hb2 : (k : Int) < (s.size : Int) := by omega
        have hb3 : (0 : Int) ≤ (k : Int) + 1 := by omega
        have hb4 : (k : Int) ≤ (k : Int) + 1 := by omega
        go_wp2_with fail
        refine wp_region_still_tail 17 (by kernel_rfl) (by kernel_rfl) ?_
        simp only [List.take_succ_cons, List.take_zero, List.drop_succ_cons, List.drop_zero]
        change wpStill _ _ wr.drew (fun a' => wpList _ _ _ _ a' wr.drew) _ _
        repeat still_step
        refine wpStill_nil ?_
        have Hnew := Lib.hid (show Sl w (wr.drew.setCell ⟨g, ini.length, none⟩ (.string (Q ++ X))) (.slice (some ⟨g, 0, none⟩) (ini.length + 1) cap) (pcs c (s.data.toList.take (k + 1))) by
          have hown := Hsl.out.1.drew
          have e0 : (ini ++ [q]).length = ini.length + 1 := by simp
          rw [e0] at hown
          obtain ⟨h1, h2⟩ := hown.stored ini.length (.string (Q ++ X))
          rw [Hst2.out]
          refine ⟨?_, gr_grown Hsl.out.2.drew h2 (fun k hk => by simp at hk; omega)⟩
          have e1 : (ini ++ [q ++ [s[k]]]).length = ini.length + 1 := by simp
          rw [e1]
          have e2 : (Q ++ X : ByteArray) = ⟨(q ++ [s[k]]).toArray⟩ := by
            apply ByteArray.ext
            apply Array.ext'
            rw [ByteArray.data_append, Array.toList_append, HXl.out, ← HQ.out]
          have e3 : (strs (ini ++ [q])).set ini.length (.string (Q ++ X)) = strs (ini ++ [q ++ [s[k]]]) := by
            rw [e2]; simp [strs]
          rwa [e3] at h1)
        go_wp2_with fail
        go_round
        case rel => exact ⟨k + 1, by omega, by go_num, Hnew.out⟩
        case measure => simp [intOf]; omega
    · obtain rfl : k = s.size := by omega
      have hall : s.data.toList.take s.size = s.data.toList := List.take_of_length_le (by simp)
      rw [hall] at hsl
      have Hsl := Lib.hid hsl
      clear hsl hall
      go_wp2_with fail
      go_ret
      exact ⟨_, rfl, Hsl.out⟩
end Go.Proofs.YtaijhebjjbcdfaaGreatDoor.Ver
