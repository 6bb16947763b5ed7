/- The contract of the reading of records. Condition: at most 2^17 bytes, records and a beginning of one more. -/
import Derived.Test.YtdgpeffbgejjlaaLogWalkA
import Derived.Deep.QuietTactic
import Derived.BigQuiet
import Derived.Outline
namespace Go.Proofs.Ytdgpeffbgejjlaa
set_option linter.unusedVariables false
open Go.ChangeShapes Go.WideShapes Go.ChangeAt Go.RowKit
def strs (ps : List (List UInt8)) : List Value := ps.map fun p => .string (tx p)
theorem strs_one (ps : List (List UInt8)) : ∀ u ∈ strs ps, u.oneCell' = true := by
  intro u hu
  obtain ⟨p, _, rfl⟩ := List.mem_map.1 hu
  rfl
theorem strs_len (ps : List (List UInt8)) : (strs ps).length = ps.length := by simp [strs]
theorem strs_snoc (ps : List (List UInt8)) (p : List UInt8) : strs (ps ++ [p]) = strs ps ++ [.string (tx p)] := by simp [strs]
/- a slice of texts of the call's own -/
def OwnT (w : World) (base : Nat) (v : Value) (ps : List (List UInt8)) : Prop := w.ownsRow base 9 1 v ps.length (strs ps)
theorem infoStr : (Try.prog.info? 9).map (fun i => (i.zero, i.size, i.bytes)) = some (some (.string ⟨#[]⟩), 1, 16) := by kernel_rfl
def Recd (w : World) (rs : List (List UInt8)) (e : Ending) (w' : World) : Prop := ∃ v, e = .returned (.tuple #[v, .int .i64 ((framesL rs).length : Nat), .int .i64 0]) ∧ OwnT w' w.heap.size v rs ∧ Chg NoB w w'
theorem OwnT.shape {w : World} {base : Nat} {v : Value} {ps : List (List UInt8)} (h : OwnT w base v ps) : ∃ ad cap, v = .slice ad ps.length cap := by
  rcases h.2 with ⟨x, hz⟩ | ⟨g, c, cur, x, _⟩
  · exact ⟨none, 0, by rw [x, hz]⟩
  · exact ⟨_, c, x⟩
theorem rows_chg {w w' : World} {base n : Nat} {v : Value} {t : TypeId} {xs : List Value} (h : w.ownsRow base t 1 v n xs) (g : Chg NoB w w') : w'.ownsRow base t 1 v n xs := by
  refine ⟨h.1, ?_⟩
  have hl := World.ownsRow.lt h
  rcases h.2 with x | ⟨q, cap, cur, rfl, hb, hh, r⟩
  · exact .inl x
  · exact .inr ⟨q, cap, cur, rfl, hb, by rw [g.block q (hl q rfl).2 id]; exact hh, r⟩
theorem OwnT.block {w : World} {base : Nat} {v : Value} {ps : List (List UInt8)} (h : OwnT w base v ps) : ∀ k, v.ownBlock = some k → base ≤ k ∧ k < w.heap.size := World.ownsRow.lt h
set_option maxHeartbeats 1000000 in
theorem records_none (w : World) : Calls Try.prog 14 #[.slice none 0 0] w (Recd w []) := by
  go_enter Try.func14, Try.ntmps14
  go_wp2
  go_loop [5, 6] (fun l a => l = .slice none 0 0 ∧ a = .int .i64 0) (fun _ _ => 0)
  case atStart => exact ⟨rfl, rfl⟩
  case round =>
    obtain ⟨rfl, rfl⟩ := hrel
    go_wp2
    go_ret3
    exact ⟨_, rfl, World.ownsRow_nil _ _ _ _, Chg.refl _ _⟩
theorem get_at {xs l r : List UInt8} (h : xs = l ++ r) (j : Nat) (hj : j < r.length) : ∃ hx : l.length + j < xs.length, xs[l.length + j] = r[j] := by
  subst h
  refine ⟨by simp; omega, ?_⟩
  rw [List.getElem_append_right (by omega)]
  simp
set_option maxHeartbeats 8000000 in
theorem records_some (b off cap : Nat) (xs : List UInt8) (rs : List (List UInt8)) (t : List UInt8) (w : World) (hx : xs = framesL rs ++ t) (ht : Part t) (hr : ∀ r ∈ rs, r.length ≤ 65536) (hl : xs.length ≤ 131072) (hc1 : xs.length ≤ cap) (hc2 : cap ≤ 9223372036854775807)
    (hc : ∀ j (hj : j < xs.length), w.cell? ⟨b, off + j, none⟩ = some (.int .u8 (xs[j].toNat : Int))) :
    Calls Try.prog 14 #[.slice (some ⟨b, off, none⟩) xs.length cap] w (Recd w rs) := by
  have Hx := Lib.hid hx
  have Ht := Lib.hid ht
  have Hr := Lib.hid hr
  have Hc := Lib.hid hc
  clear hx ht hr hc
  go_enter Try.func14, Try.ntmps14
  go_wp2
  go_loopw [5, 6] (fun l a wr => ∃ k : Nat, k ≤ rs.length ∧ a = .int .i64 ((framesL (rs.take k)).length : Nat) ∧ OwnT wr w.heap.size l (rs.take k) ∧ Chg NoB w wr) (fun _ a _ => xs.length - (intOf a).toNat)
  case atStart => exact ⟨0, Nat.zero_le _, rfl, World.ownsRow_nil _ _ _ _, Chg.refl _ _⟩
  case round =>
    obtain ⟨k, hk, rfl, hown, hch⟩ := hrel
    have Hown := Lib.hid hown
    have Hch := Lib.hid hch
    obtain ⟨at0, hat⟩ : ∃ n, (framesL (rs.take k)).length = n := ⟨_, rfl⟩
    have Hat := Lib.hid hat
    have hsplit : xs = framesL (rs.take k) ++ (framesL (rs.drop k) ++ t) := by rw [Hx.out, ← List.append_assoc, ← framesL_split]
    obtain ⟨ad, cp, rfl⟩ := hown.shape
    rw [hat]
    clear hown hch
    by_cases hlt : k < rs.length
    · have hfd := framesL_drop rs k hlt
      have hrl : rs[k].length ≤ 65536 := Hr.out _ (List.getElem_mem _)
      have hsp2 : xs = framesL (rs.take k) ++ (frameL rs[k] ++ (framesL (rs.drop (k + 1)) ++ t)) := by rw [hsplit, hfd, List.append_assoc]
      have hlen : at0 + 3 + rs[k].length ≤ xs.length := by
        have := congrArg List.length hsp2
        rw [List.length_append, List.length_append, frameL_len, hat] at this
        omega
      obtain ⟨x0, hx0⟩ : ∃ c, UInt8.ofNat (rs[k].length / 65536) = c := ⟨_, rfl⟩
      obtain ⟨x1, hx1⟩ : ∃ c, UInt8.ofNat (rs[k].length / 256 % 256) = c := ⟨_, rfl⟩
      obtain ⟨x2, hx2⟩ : ∃ c, UInt8.ofNat (rs[k].length % 256) = c := ⟨_, rfl⟩
      have hsz := size_head rs[k].length (by omega)
      rw [hx0, hx1, hx2] at hsz
      have hfr : frameL rs[k] ++ (framesL (rs.drop (k + 1)) ++ t) = x0 :: x1 :: x2 :: (rs[k] ++ (framesL (rs.drop (k + 1)) ++ t)) := by
        unfold frameL head3
        rw [hx0, hx1, hx2]
        simp
      rw [hfr] at hsp2
      obtain ⟨g0, e0⟩ := get_at hsp2 0 (by simp)
      obtain ⟨g1, e1⟩ := get_at hsp2 1 (by simp)
      obtain ⟨g2, e2⟩ := get_at hsp2 2 (by simp)
      have q0 := Hc.out _ g0
      have q1 := Hc.out _ g1
      have q2 := Hc.out _ g2
      rw [e0] at q0
      rw [e1] at q1
      rw [e2] at q2
      simp only [hat, List.getElem_cons_zero, List.getElem_cons_succ, Nat.add_zero] at q0 q1 q2
      have c0 : ∀ n, (wr.drewN n).cell? ⟨b, off + at0, none⟩ = some (.int .u8 (x0.toNat : Int)) := fun n => (Hch.out.drewN n).keep q0
      have c1 : ∀ n, (wr.drewN n).cell? ⟨b, off + (at0 + 1), none⟩ = some (.int .u8 (x1.toNat : Int)) := fun n => (Hch.out.drewN n).keep q1
      have c2 : ∀ n, (wr.drewN n).cell? ⟨b, off + (at0 + 2), none⟩ = some (.int .u8 (x2.toNat : Int)) := fun n => (Hch.out.drewN n).keep q2
      have l0 := x0.toNat_lt
      have l1 := x1.toNat_lt
      have l2 := x2.toNat_lt
      have hbytes : ∀ j (hj : j < rs[k].length), w.cell? ((⟨b, off + (at0 + 3), none⟩ : Addr).add j) = some (.int .u8 (rs[k][j].toNat : Int)) := by
        intro j hj
        obtain ⟨g3, e3⟩ := get_at hsp2 (3 + j) (by simp only [List.length_cons, List.length_append]; omega)
        have q3 := Hc.out _ g3
        rw [e3] at q3
        have e : (⟨b, off + (at0 + 3), none⟩ : Addr).add j = ⟨b, off + ((framesL (rs.take k)).length + (3 + j)), none⟩ := by rw [Addr.add_lit, hat]; congr 1; omega
        rw [e, q3]
        congr 3
        have : (x0 :: x1 :: x2 :: (rs[k] ++ (framesL (rs.drop (k + 1)) ++ t)))[3 + j]'(by simp only [List.length_cons, List.length_append]; omega) = rs[k][j] := by
          simp only [show 3 + j = j + 1 + 1 + 1 by omega, List.getElem_cons_succ]
          rw [List.getElem_append_left hj]
        rw [this]
      have hcv : ∀ n C, (convert 27 9 (.slice (some ⟨b, off + (at0 + 3), none⟩) rs[k].length C)).run Try.prog (wr.drewN n) = .ok (.string (tx rs[k])) (wr.drewN n) := fun n C =>
        run_convert_bytes_back (P := Try.prog) (wr.drewN n) 27 9 5 _ C rs[k] Try.underlying27 Try.underlying5 Try.underlying9 (fun j hj => (Hch.out.drewN n).keep (hbytes j hj))
      have hcv0 : rs[k].length = 0 → ∀ n A C, (convert 27 9 (.slice (some A) 0 C)).run Try.prog (wr.drewN n) = .ok (.string (tx rs[k])) (wr.drewN n) := fun h0 n A C => by
        have h1 : rs[k] = [] := List.eq_nil_of_length_eq_zero h0
        rw [h1]
        exact run_convert_bytes_back (P := Try.prog) (wr.drewN n) 27 9 5 A C [] Try.underlying27 Try.underlying5 Try.underlying9 (fun j hj => absurd hj (by simp))
      have hor : bits .or .i64 (bits .or .i64 ((x0.toNat : Int) * 65536) ((x1.toNat : Int) * 256)) (x2.toNat : Int) = ((rs[k].length : Nat) : Int) := by rw [or_two, or_three, hsz]
      have hnext : (framesL (rs.take (k + 1))).length = at0 + 3 + rs[k].length := by rw [framesL_take rs k hlt, List.length_append, frameL_len, hat]; omega
      have hsn : strs (rs.take (k + 1)) = strs (rs.take k) ++ [.string (tx rs[k])] := by rw [List.take_succ_eq_append_getElem hlt, strs_snoc]
      have htl : (rs.take k).length = k := by rw [List.length_take]; omega
      have htl2 : (rs.take (k + 1)).length = k + 1 := by rw [List.length_take]; omega
      have hk2 : k ≤ at0 := by
        have : ∀ n, n ≤ rs.length → n ≤ (framesL (rs.take n)).length := by
          intro n
          induction n with
          | zero => intro _; omega
          | succ n ih => intro hn; rw [framesL_take rs n (by omega), List.length_append, frameL_len]; have := ih (by omega); omega
        have := this k hk
        omega
      obtain ⟨L, hL⟩ : ∃ L, rs[k].length = L := ⟨_, rfl⟩
      obtain ⟨X, hX⟩ : ∃ X, tx rs[k] = X := ⟨_, rfl⟩
      rw [hL] at hor hnext hlen hrl
      rw [hX] at hsn
      simp only [hL, hX] at hcv hcv0
      have Hnext := Lib.hid hnext
      have Hsn := Lib.hid hsn
      have Htl2 := Lib.hid htl2
      have hown1 : wr.ownsRow w.heap.size 9 1 (.slice ad k cp) k (strs (rs.take k)) := by have := Hown.out; unfold OwnT at this; rw [htl] at this; exact this
      have Hown1 := Lib.hid hown1
      rw [htl]
      clear hfd hsp2 hsplit hfr q0 q1 q2 e0 e1 e2 g0 g1 g2 hx0 hx1 hx2 hat hbytes hsz hnext hsn htl htl2 hL hX hown1
      obtain ⟨i0, hi, hzz0, hzz1, hzz2⟩ := info_parts infoStr
      have hb1 : (at0 : Int) + 1 < (xs.length : Int) := by omega
      have hb2 : (at0 : Int) + 2 < (xs.length : Int) := by omega
      have hb0 : (at0 : Int) < (xs.length : Int) := by omega
      have hz0 : (0 : Int) ≤ (at0 : Int) := by omega
      have hz1 : (0 : Int) ≤ (at0 : Int) + 1 := by omega
      have hz2 : (0 : Int) ≤ (at0 : Int) + 2 := by omega
      have hge : (3 : Int) ≤ (xs.length : Int) - (at0 : Int) := by omega
      have hsz := Hch.out.size
      by_cases hcap : cap = at0 + 3
      · obtain rfl : L = 0 := by omega
        subst hcap
        have hcv1 := hcv0 rfl
        have hor0 : bits .or .i64 (bits .or .i64 ((x0.toNat : Int) * 65536) ((x1.toNat : Int) * 256)) (x2.toNat : Int) = 0 := by simpa using hor
        clear hcv hcv0 hor
        go_wp2_with fail
        have t1 : ((at0 : Int) + 1).toNat = at0 + 1 := by omega
        have t2 : ((at0 : Int) + 2).toNat = at0 + 2 := by omega
        have hw1 : IntKind.i64.wrap ((at0 : Int) + 1) = (at0 : Int) + 1 := by rw [IntKind.wrap_i64]; omega
        have hw2 : IntKind.i64.wrap ((at0 : Int) + 2) = (at0 : Int) + 2 := by rw [IntKind.wrap_i64]; omega
        go_quiet (fail)
        clear t1 t2 hw1 hw2
        go_wp2_with (at_builtin; refine wpList_append_own _ rfl _ _ 22 rfl w.heap.size 9 i0 (.string ⟨#[]⟩) 1 16 Try.underlying22 hi hzz0 hzz1 hzz2 rfl (by decide) _ _ _ rfl (rows_chg Hown1.out (((Chg.refl NoB wr).drewN nq).alloc _)) ⟨wr.heap.size, 0, none⟩ 1 1 [.string X] rfl ?c0 ?c1 ?c2 ?c3 ?c4 ?c5 ?_)
        case c0 => rfl
        case c1 =>
          intro j u hj
          cases j with
          | zero =>
            have hn := cell_of_row _ (wr.drewN nq).heap.size 0 _ 9 (0, 0) (heap_alloc_new (wr.drewN nq) (.cells #[.string X] 9))
            simp at hj
            subst hj
            exact hn
          | succ j => simp at hj
        case c2 => intro u hu; simp at hu; subst hu; rfl
        case c3 => unfold maxLen; omega
        case c4 => omega
        case c5 => show w.heap.size ≤ (wr.heap.push _).size; simp; omega
        intro v' w1 hown' hgr hnil
        have Hnew := Lib.hid (show OwnT w1 w.heap.size v' (rs.take (k + 1)) by unfold OwnT; rw [Htl2.out, Hsn.out]; exact hown')
        have Hc2 := Lib.hid (show Chg NoB w w1 from ((Hch.out.drewN nq).alloc _).grown hgr (fun q hq => .inr ((Hown1.out).lt q hq).1))
        clear hown' hgr hnil hi hzz0 hzz1 hzz2
        go_wp2_with fail
        go_roundw
        case rel => exact ⟨k + 1, by omega, by rw [Hnext.out]; go_num, Hnew.out, Hc2.out⟩
        case measure => simp [intOf]; omega
      · clear hcv0
        go_wp2_with fail
        have t1 : ((at0 : Int) + 1).toNat = at0 + 1 := by omega
        have t2 : ((at0 : Int) + 2).toNat = at0 + 2 := by omega
        have hw1 : IntKind.i64.wrap ((at0 : Int) + 1) = (at0 : Int) + 1 := by rw [IntKind.wrap_i64]; omega
        have hw2 : IntKind.i64.wrap ((at0 : Int) + 2) = (at0 : Int) + 2 := by rw [IntKind.wrap_i64]; omega
        go_quiet (fail)
        clear t1 t2 hw1 hw2
        go_wp2_with (at_builtin; refine wpList_append_own _ rfl _ _ 22 rfl w.heap.size 9 i0 (.string ⟨#[]⟩) 1 16 Try.underlying22 hi hzz0 hzz1 hzz2 rfl (by decide) _ _ _ rfl (rows_chg Hown1.out (((Chg.refl NoB wr).drewN nq).alloc _)) ⟨wr.heap.size, 0, none⟩ 1 1 [.string X] rfl ?c0 ?c1 ?c2 ?c3 ?c4 ?c5 ?_)
        case c0 => rfl
        case c1 =>
          intro j u hj
          cases j with
          | zero =>
            have hn := cell_of_row _ (wr.drewN nq).heap.size 0 _ 9 (0, 0) (heap_alloc_new (wr.drewN nq) (.cells #[.string X] 9))
            simp at hj
            subst hj
            exact hn
          | succ j => simp at hj
        case c2 => intro u hu; simp at hu; subst hu; rfl
        case c3 => unfold maxLen; omega
        case c4 => omega
        case c5 => show w.heap.size ≤ (wr.heap.push _).size; simp; omega
        intro v' w1 hown' hgr hnil
        have Hnew := Lib.hid (show OwnT w1 w.heap.size v' (rs.take (k + 1)) by unfold OwnT; rw [Htl2.out, Hsn.out]; exact hown')
        have Hc2 := Lib.hid (show Chg NoB w w1 from ((Hch.out.drewN nq).alloc _).grown hgr (fun q hq => .inr ((Hown1.out).lt q hq).1))
        clear hown' hgr hnil hi hzz0 hzz1 hzz2
        go_wp2_with fail
        go_roundw
        case rel => exact ⟨k + 1, by omega, by rw [Hnext.out]; go_num, Hnew.out, Hc2.out⟩
        case measure => simp [intOf]; omega
    · obtain rfl : k = rs.length := by omega
      have htk : rs.take rs.length = rs := List.take_of_length_le (Nat.le_refl _)
      have hdk : framesL (rs.drop rs.length) = [] := by rw [List.drop_of_length_le (Nat.le_refl _)]; rfl
      rw [hdk, List.nil_append, htk] at hsplit
      rw [htk] at hat
      have hfin : Recd w rs (.returned (.tuple #[.slice ad rs.length cp, .int .i64 (at0 : Nat), .int .i64 0])) wr := by
        refine ⟨_, by rw [hat], ?_, Hch.out⟩
        have := Hown.out
        rw [htk] at this
        exact this
      have hlen : xs.length = at0 + t.length := by rw [hsplit, List.length_append, hat]
      have Hfin := Lib.hid hfin
      rw [show (List.take rs.length rs).length = rs.length by rw [htk]]
      rcases Ht.out with h3 | ⟨a0, a1, a2, u, rfl, hs1, hs2⟩
      · have hge : (xs.length : Int) - (at0 : Int) < 3 := by omega
        have hat1 : at0 ≤ xs.length := by omega
        have hg2 : ¬ (3 : Int) ≤ (xs.length : Int) - (at0 : Int) := by omega
        clear hsplit htk hdk hat hlen hfin h3
        go_wp2_with fail
        go_ret3
        exact Hfin.out
      · obtain ⟨g0, e0⟩ := get_at hsplit 0 (by simp)
        obtain ⟨g1, e1⟩ := get_at hsplit 1 (by simp)
        obtain ⟨g2, e2⟩ := get_at hsplit 2 (by simp)
        have q0 := Hc.out _ g0
        have q1 := Hc.out _ g1
        have q2 := Hc.out _ g2
        rw [e0] at q0
        rw [e1] at q1
        rw [e2] at q2
        simp only [hat, List.getElem_cons_zero, List.getElem_cons_succ, Nat.add_zero] at q0 q1 q2
        have c0 : ∀ n, (wr.drewN n).cell? ⟨b, off + at0, none⟩ = some (.int .u8 (a0.toNat : Int)) := fun n => (Hch.out.drewN n).keep q0
        have c1 : ∀ n, (wr.drewN n).cell? ⟨b, off + (at0 + 1), none⟩ = some (.int .u8 (a1.toNat : Int)) := fun n => (Hch.out.drewN n).keep q1
        have c2 : ∀ n, (wr.drewN n).cell? ⟨b, off + (at0 + 2), none⟩ = some (.int .u8 (a2.toNat : Int)) := fun n => (Hch.out.drewN n).keep q2
        have l0 := a0.toNat_lt
        have l1 := a1.toNat_lt
        have l2 := a2.toNat_lt
        obtain ⟨S, hS⟩ : ∃ S, sizeOf3 a0 a1 a2 = S := ⟨_, rfl⟩
        have hor : bits .or .i64 (bits .or .i64 ((a0.toNat : Int) * 65536) ((a1.toNat : Int) * 256)) (a2.toNat : Int) = ((S : Nat) : Int) := by rw [or_two, or_three, hS]
        rw [hS] at hs1 hs2
        have hlt3 : (xs.length : Int) - ((at0 : Int) + 3) < (S : Int) := by simp at hlen; omega
        have hge : (3 : Int) ≤ (xs.length : Int) - (at0 : Int) := by simp at hlen; omega
        have hlx : at0 + 3 ≤ xs.length := by omega
        clear hsplit htk hdk hat hlen hfin q0 q1 q2 e0 e1 e2 g0 g1 g2 hS
        have hb1 : (at0 : Int) + 1 < (xs.length : Int) := by omega
        have hb2 : (at0 : Int) + 2 < (xs.length : Int) := by omega
        have hb0 : (at0 : Int) < (xs.length : Int) := by omega
        have hz0 : (0 : Int) ≤ (at0 : Int) := by omega
        have hz1 : (0 : Int) ≤ (at0 : Int) + 1 := by omega
        have hz2 : (0 : Int) ≤ (at0 : Int) + 2 := by omega
        go_wp2_with fail
        have t1 : ((at0 : Int) + 1).toNat = at0 + 1 := by omega
        have t2 : ((at0 : Int) + 2).toNat = at0 + 2 := by omega
        have hw1 : IntKind.i64.wrap ((at0 : Int) + 1) = (at0 : Int) + 1 := by rw [IntKind.wrap_i64]; omega
        have hw2 : IntKind.i64.wrap ((at0 : Int) + 2) = (at0 : Int) + 2 := by rw [IntKind.wrap_i64]; omega
        go_quiet (fail)
        clear t1 t2 hw1 hw2
        go_wp2_with fail
        go_ret3
        obtain ⟨v, h1, h2, h3⟩ := Hfin.out
        exact ⟨v, h1, rows_chg h2 ((Chg.refl NoB wr).drewN _), h3.drewN _⟩
theorem records_any (v : Value) (xs : List UInt8) (rs : List (List UInt8)) (t : List UInt8) (w : World) (hx : xs = framesL rs ++ t) (ht : Part t) (hr : ∀ r ∈ rs, r.length ≤ 65536) (hl : xs.length ≤ 131072) (hv : Src w v xs) :
    Calls Try.prog 14 #[v] w (Recd w rs) := by
  rcases hv with ⟨rfl, h0⟩ | ⟨a, cap, rfl, h1, h2, h3⟩
  · have hn : rs = [] := by
      cases rs with
      | nil => rfl
      | cons r rs =>
        rw [h0] at hx
        have := congrArg List.length hx
        unfold framesL at this
        simp [frameL_len] at this
        omega
    subst hn
    exact records_none w
  · by_cases h0 : xs.length = 0
    · have hxe : xs = [] := List.eq_nil_of_length_eq_zero h0
      have hn : rs = [] := by
        cases rs with
        | nil => rfl
        | cons r rs =>
          rw [hxe] at hx
          have := congrArg List.length hx
          unfold framesL at this
          simp [frameL_len] at this
          omega
      subst hn
      obtain ⟨b, off, spot⟩ := a
      subst hxe
      clear h3 hx ht hr hl
      go_enter Try.func14, Try.ntmps14
      go_wp2
      go_loop [5, 6] (fun l a => l = .slice none 0 0 ∧ a = .int .i64 0) (fun _ _ => 0)
      case atStart => exact ⟨rfl, rfl⟩
      case round =>
        obtain ⟨rfl, rfl⟩ := hrel
        go_wp2
        go_ret3
        exact ⟨_, rfl, World.ownsRow_nil _ _ _ _, Chg.refl _ _⟩
    · obtain ⟨b, off, spot⟩ := a
      have hspot : spot = none := by simpa [Addr.add] using World.cell?_spot (h3 0 (by omega))
      subst hspot
      refine records_some b off cap xs rs t w hx ht hr hl h1 (by unfold maxLen at h2; omega) fun j hj => ?_
      have := h3 j hj
      rwa [Addr.add_lit] at this
end Go.Proofs.Ytdgpeffbgejjlaa
