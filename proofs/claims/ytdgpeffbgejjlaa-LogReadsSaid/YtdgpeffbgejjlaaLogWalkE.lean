/- The contract of Open, and of the statement's own guard. Condition: what stands in RS.ok; at most 2^17 bytes. -/
import Derived.Test.YtdgpeffbgejjlaaLogWalkD
namespace Go.Proofs.Ytdgpeffbgejjlaa
set_option linter.unusedVariables false
open Go.ChangeShapes Go.WideShapes Go.ChangeAt Go.RowKit
theorem rows_chgS {w w' : World} {S : Nat → Prop} {base n : Nat} {v : Value} {t : TypeId} {xs : List Value} (h : w.ownsRow base t 1 v n xs) (g : Chg S w w') (hS : ∀ k, v.ownBlock = some k → ¬ S k) : w'.ownsRow base t 1 v n xs := by
  refine ⟨h.1, ?_⟩
  have hl := World.ownsRow.lt h
  rcases h.2 with x | ⟨q, cap, cur, rfl, hb, hh, r⟩
  · exact .inl x
  · exact .inr ⟨q, cap, cur, rfl, hb, by rw [g.block q (hl q rfl).2 (hS q rfl)]; exact hh, r⟩
structure Opn (b : Nat) (R : Nat → Prop) (rs : List (List UInt8)) (s' : RS) (w : World) (l : Nat) (v : Value) (R' : Nat → Prop) (w' : World) : Prop where
  rb : Rb w' b R' s'
  lg : Lg w' l b rs.length
  txs : TxS w' v (rs.map tx)
  bd : Bd R' w'
  out : ¬ R' l
  ext : ∀ k, R' k → R k ∨ w.heap.size ≤ k
  new : w.heap.size ≤ l
  chg : Chg R w w'
def Opened (b : Nat) (R : Nat → Prop) (rs : List (List UInt8)) (s' : RS) (w : World) (e : Ending) (w' : World) : Prop :=
  ∃ l v R', e = .returned (.tuple #[.pointer (some ⟨l, 0, none⟩), v, .int .i64 0]) ∧ Opn b R rs s' w l v R' w'
theorem opn_mk {b : Nat} {R R' : Nat → Prop} {rs : List (List UInt8)} {s' : RS} {w w1 w2 : World} {v : Value} (hbd : Bd R w) (h1 : Chg NoB w w1) (ho : OwnT w1 w.heap.size v rs) (hw : Went R R' w1 w2) (hr : Rb w2 b R' s') :
    Opn b R rs s' w w2.heap.size v R' (w2.alloc (.cells #[.pointer (some ⟨b, 0, none⟩), .int .i64 (rs.length : Int), .bool false] 45)) := by
  have hs1 := h1.size
  have hs2 := hw.chg.size
  have hal : Chg NoB w2 (w2.alloc (.cells #[.pointer (some ⟨b, 0, none⟩), .int .i64 (rs.length : Int), .bool false] 45)) := (Chg.refl _ w2).alloc _
  have hbd2 : Bd R' w2 := fun k hk => by
    rcases hw.ext k hk with x | x
    · have := hbd k x; omega
    · exact x.2
  have ho2 : OwnT w2 w.heap.size v rs := rows_chgS ho hw.chg fun k hk hRk => by
    have := (ho.block k hk).1
    have := hbd k hRk
    omega
  refine ⟨hr.keep hal, ?_, OwnT.txs (base := w.heap.size) (show OwnT _ w.heap.size v rs from rows_chg ho2 hal), hbd2.chg hal, fun x => by have := hbd2 _ x; omega, fun k hk => ?_, by omega, ?_⟩
  · exact heap_alloc_new w2 _
  · rcases hw.ext k hk with x | x
    · exact .inl x
    · exact .inr (by omega)
  · exact ((h1.mono fun k _ x => x.elim).trans hw.chg).trans (hal.mono fun k _ x => x.elim)
set_option maxHeartbeats 2000000 in
theorem open_clean (b : Nat) (R : Nat → Prop) (rs : List (List UInt8)) (safe acts : Nat) (keep : Int) (w : World) (h : Rb w b R ⟨framesL rs, safe, false, acts, 0, keep⟩) (hbd : Bd R w) (hr : ∀ r ∈ rs, r.length ≤ 65536) (hl : (framesL rs).length ≤ 131072) :
    Calls Try.prog 7 #[.pointer (some ⟨b, 0, none⟩)] w (Opened b R rs ⟨framesL rs, safe, false, acts, 0, keep⟩ w) := by
  have H := Lib.hid h
  have HB := Lib.hid hbd
  have Hr := Lib.hid hr
  obtain ⟨n, hn⟩ : ∃ n, (framesL rs).length = n := ⟨_, rfl⟩
  have Hn := Lib.hid hn
  clear h hbd hr hn
  go_enter Try.func7, Try.ntmps7
  go_wp2_with fail
  refine (read_plain b R (framesL rs) safe acts 0 keep w H.out).mono ?_
  rintro e w1 ⟨v1, rfl, ho1, hc1⟩
  have Hc1 := Lib.hid hc1
  have Hs1 := Lib.hid ho1.src
  obtain ⟨ad, cp, rfl⟩ := shape_of ho1
  clear ho1 hc1
  go_wp2_with fail
  refine (records_any _ (framesL rs) rs [] w1 (by simp) (.inl (by simp)) Hr.out hl Hs1.out).mono ?_
  rintro e w2 ⟨v2, rfl, ho2, hc2⟩
  have Hc2 := Lib.hid (Hc1.out.trans hc2)
  have Hr2 := Lib.hid (H.out.keep Hc2.out)
  have ho3 : OwnT w2 w.heap.size v2 rs := by
    refine ⟨ho2.1, ?_⟩
    rcases ho2.2 with x | ⟨g, c, cur, x, y, z⟩
    · exact .inl x
    · exact .inr ⟨g, c, cur, x, Nat.le_trans Hc1.out.size y, z⟩
  have Hfin := Lib.hid (opn_mk HB.out Hc2.out ho3 (Went.refl R w2) Hr2.out)
  obtain ⟨ad2, cp2, rfl⟩ := ho3.shape
  rw [Hn.out]
  clear ho2 hc2 ho3
  go_wp2_with fail
  go_ret3
  exact ⟨_, _, R, rfl, Hfin.out⟩
set_option maxHeartbeats 2000000 in
theorem open_cutX (b : Nat) (R : Nat → Prop) (rs : List (List UInt8)) (t X : List UInt8) (hX : X = framesL rs ++ t) (safe acts : Nat) (keep : Int) (w : World) (h : Rb w b R ⟨X, safe, false, acts, 0, keep⟩) (hbd : Bd R w) (hr : ∀ r ∈ rs, r.length ≤ 65536) (hl : X.length ≤ 131072) (ht : Part t) (h0 : 0 < t.length) (hb : acts < 1000000) :
    Calls Try.prog 7 #[.pointer (some ⟨b, 0, none⟩)] w (Opened b R rs ⟨framesL rs, (framesL rs).length, false, acts + 1, 0, keep⟩ w) := by
  have H := Lib.hid h
  have HB := Lib.hid hbd
  have Hr := Lib.hid hr
  have Ht := Lib.hid ht
  have htake : X.take (framesL rs).length = framesL rs := by rw [hX]; exact List.take_left
  have HX := Lib.hid hX
  have Htake := Lib.hid htake
  have hlt : ((framesL rs).length : Int) < (X.length : Int) := by rw [hX, List.length_append]; omega
  obtain ⟨n, hn⟩ : ∃ n, (framesL rs).length = n := ⟨_, rfl⟩
  obtain ⟨m, hm⟩ : ∃ m, X.length = m := ⟨_, rfl⟩
  have Hn := Lib.hid hn
  have Hm := Lib.hid hm
  rw [hn, hm] at hlt
  rw [hm] at hl
  clear h hbd hr ht htake h0 hn hm hX
  go_enter Try.func7, Try.ntmps7
  go_wp2_with fail
  refine (read_plain b R X safe acts 0 keep w H.out).mono ?_
  rintro e w1 ⟨v1, rfl, ho1, hc1⟩
  have Hc1 := Lib.hid hc1
  have Hs1 := Lib.hid ho1.src
  obtain ⟨ad, cp, rfl⟩ := shape_of ho1
  clear ho1 hc1
  go_wp2_with fail
  refine (records_any _ X rs t w1 HX.out Ht.out Hr.out (by rw [Hm.out]; exact hl) Hs1.out).mono ?_
  rintro e w2 ⟨v2, rfl, ho2, hc2⟩
  have Hc2 := Lib.hid (Hc1.out.trans hc2)
  have Hr2 := Lib.hid (H.out.keep Hc2.out)
  have ho3 : OwnT w2 w.heap.size v2 rs := by
    refine ⟨ho2.1, ?_⟩
    rcases ho2.2 with x | ⟨g, c, cur, x, y, z⟩
    · exact .inl x
    · exact .inr ⟨g, c, cur, x, Nat.le_trans Hc1.out.size y, z⟩
  have Ho3 := Lib.hid ho3
  obtain ⟨ad2, cp2, rfl⟩ := ho3.shape
  rw [Hn.out, Hm.out]
  clear ho2 hc2 ho3
  go_wp2_with fail
  refine (cut_plain b R X safe acts keep (n : Int) n w2 Hr2.out (by omega) rfl (by rw [Hm.out]; omega)).mono ?_
  rintro e w3 ⟨rfl, R', hr3, hw3⟩
  have hr4 : Rb w3 b R' ⟨framesL rs, (framesL rs).length, false, acts + 1, 0, keep⟩ := by
    rw [← Hn.out, Htake.out] at hr3
    exact hr3
  have Hfin := Lib.hid (opn_mk HB.out Hc2.out Ho3.out hw3 hr4)
  clear hr3 hw3 hr4
  go_wp2_with fail
  go_ret3
  exact ⟨_, _, R', rfl, Hfin.out⟩
theorem open_cut (b : Nat) (R : Nat → Prop) (rs : List (List UInt8)) (t : List UInt8) (safe acts : Nat) (keep : Int) (w : World) (h : Rb w b R ⟨framesL rs ++ t, safe, false, acts, 0, keep⟩) (hbd : Bd R w) (hr : ∀ r ∈ rs, r.length ≤ 65536) (hl : (framesL rs ++ t).length ≤ 131072) (ht : Part t) (h0 : 0 < t.length) (hb : acts < 1000000) :
    Calls Try.prog 7 #[.pointer (some ⟨b, 0, none⟩)] w (Opened b R rs ⟨framesL rs, (framesL rs).length, false, acts + 1, 0, keep⟩ w) :=
  open_cutX b R rs t _ rfl safe acts keep w h hbd hr hl ht h0 hb
set_option maxHeartbeats 2000000 in
theorem alive_any (w : World) : Calls Try.prog 4 #[] w fun e w' => e = .returned (.bool true) ∧ Chg NoB w w' := by
  go_enter Try.func4, Try.ntmps4
  go_wp2_with fail
  refine (new_any _ [] _ (.inl ⟨rfl, rfl⟩) (by simp)).mono ?_
  rintro e w1 ⟨b, R, rfl, hr, hc, hR⟩
  have Hr := Lib.hid hr
  have Hc := Lib.hid hc
  have HR := Lib.hid hR
  clear hr hc hR
  go_wp2_with fail
  refine (open_clean b R [] 0 0 0 w1 Hr.out (fun k hk => (HR.out k hk).2) (by simp) (by decide)).mono ?_
  rintro e w2 ⟨l, v, R2, rfl, ho⟩
  have Ho := Lib.hid ho
  obtain ⟨ad, cp, rfl⟩ : ∃ ad cp, v = .slice ad 0 cp := by
    rcases ho.txs with ⟨⟨a, c, rfl⟩, _⟩ | ⟨b', off, cap, rfl, _, _⟩
    · exact ⟨_, _, rfl⟩
    · exact ⟨_, _, rfl⟩
  clear ho
  go_wp2_with fail
  refine (append_log l b 0 R2 (framesL []) 0 0 0 ⟨#[104, 105]⟩ w2 Ho.out.rb Ho.out.lg Ho.out.out Ho.out.bd (by decide) (by decide) (by decide) (by decide)).mono ?_
  rintro e w3 ⟨rfl, hl3, hc3, R3, hr3, hx3, ho3, hb3⟩
  have Hr3 := Lib.hid hr3
  have Hl3 := Lib.hid hl3
  have Hc3 := Lib.hid (show Chg NoB w w3 from by
    refine Chg.above (Hc.out.above Ho.out.chg fun k hk => (HR.out k hk).1) hc3 fun k hk => ?_
    have h1 := Hc.out.size
    rcases hk with hk | rfl
    · rcases Ho.out.ext k hk with x | x
      · exact (HR.out k x).1
      · omega
    · have := Ho.out.new; omega)
  clear hr3 hl3 hc3 hx3 ho3 hb3
  go_wp2_with fail
  refine (acts_any b R3 _ w3 Hr3.out).mono ?_
  rintro e w4 ⟨rfl, rfl⟩
  go_wp2_with fail
  refine (read_eq b R3 _ [0, 0, 2, 104, 105] _ _ _ _ _ Hr3.out (by decide)).mono ?_
  rintro e w5 ⟨v, rfl, ho, hc⟩
  have hcv := ho.src.conv
  have Hc5 := Lib.hid (Hc3.out.trans hc)
  have Hl5 := Lib.hid (Hl3.out.chg hc id)
  clear ho hc
  go_wp2_with fail
  refine (count_any w5 l b 1 Hl5.out (by decide)).mono ?_
  rintro e w6 ⟨rfl, rfl⟩
  go_wp2_with fail
  go_ret
  exact ⟨rfl, Hc5.out⟩
end Go.Proofs.Ytdgpeffbgejjlaa
