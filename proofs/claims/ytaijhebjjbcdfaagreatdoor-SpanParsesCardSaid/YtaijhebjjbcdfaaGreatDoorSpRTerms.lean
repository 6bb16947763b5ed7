/- The document's side: terms, the pieces of a text between strokes; pieces between blanks are those that SplitSeq gives. No condition. -/
import Derived.Test.YtaijhebjjbcdfaaGreatDoorSpTermM
import Derived.Test.YtaijhebjjbcdfaaGreatDoorSpGap
import Derived.Test.YtaijhebjjbcdfaaGreatDoorVerPieces

namespace Go.Proofs.YtaijhebjjbcdfaaGreatDoor
set_option linter.unusedVariables false
open Go.ChangeShapes Go.WideShapes Go.ChangeAt Go.RowKit Go.Lib
theorem pcs_split : ∀ (n : Nat) (s : List UInt8), s.length ≤ n → Ver.pcs 32 s = Lib.split s [32] := by
  intro n
  induction n with
  | zero =>
    intro s hs
    have h0 : s = [] := List.eq_nil_of_length_eq_zero (by omega)
    subst h0
    rw [spl_no (s := []) (sep := [32]) (b := 32) (fun x hx => by cases hx) (by simp)]
    rfl
  | succ n ih =>
    intro s hs
    rcases Lib.index_spec s [32] with ⟨h1, h2⟩ | ⟨i, h1, hi, h2, h3⟩
    · have hno : (32 : UInt8) ∉ s := fun hx => by
        obtain ⟨j, hj, e⟩ := List.getElem_of_mem hx
        have := h2 j (by omega)
        unfold occAt at this
        rw [List.drop_eq_getElem_cons hj, e] at this
        simp at this
      rw [spl_miss h1, Ver.pcs_free hno]
    · have hroom := Lib.index_room s [32] (by omega)
      rw [h1] at hroom
      have hil : i < s.length := by simp at hroom; omega
      have hs2 : s = s.take i ++ 32 :: s.drop (i + 1) := by
        have hg : s[i] = 32 := by
          unfold occAt at h2
          rw [List.isPrefixOf_iff_prefix] at h2
          obtain ⟨t, ht⟩ := h2
          rw [List.drop_eq_getElem_cons hil] at ht
          exact (List.cons.inj ht).1.symm
        conv => lhs; rw [← List.take_append_drop i s, List.drop_eq_getElem_cons hil, hg]
      have hno : (32 : UInt8) ∉ s.take i := fun hx => by
        obtain ⟨j, hj, e⟩ := List.getElem_of_mem hx
        rw [List.length_take] at hj
        have hjs : j < s.length := by omega
        have := h3 j (by omega)
        unfold occAt at this
        rw [List.getElem_take] at e
        rw [List.drop_eq_getElem_cons hjs, e] at this
        simp at this
      rw [spl_hit (by simp) h1]
      conv => lhs; rw [hs2]
      rw [Ver.pcs_cut hno, ih (s.drop (i + 1)) (by rw [List.length_drop]; omega)]
      rfl
def strL (l : List (List UInt8)) : List ByteArray := l.map tx
theorem occ_cut {s : List UInt8} {i : Nat} (h : i + 3 ≤ s.length) : occAt s barT i = decide ((s.take (i + 3)).drop i = barT) := by
  unfold occAt
  rw [Bool.eq_iff_iff, List.isPrefixOf_iff_prefix, decide_eq_true_iff]
  have e : (s.take (i + 3)).drop i = (s.drop i).take 3 := by rw [List.drop_take]; congr 1; omega
  rw [e]
  constructor
  · rintro ⟨r, hr⟩
    rw [← hr]
    rfl
  · intro hh
    rw [← hh]
    exact List.take_prefix _ _
theorem occ_far {s : List UInt8} {i : Nat} (h : s.length < i + 3) : occAt s barT i = false := by
  unfold occAt
  cases hp : barT.isPrefixOf (s.drop i) with
  | false => rfl
  | true =>
    have := (List.isPrefixOf_iff_prefix.1 hp).length_le
    rw [List.length_drop] at this
    have h3 : barT.length = 3 := rfl
    omega
theorem occ_drop (s sep : List UInt8) (f j : Nat) : occAt (s.drop f) sep j = occAt s sep (f + j) := by unfold occAt; rw [List.drop_drop]
structure TmI (s : List UInt8) (f i : Nat) (o : List (List UInt8)) : Prop where
  cut : Lib.split s barT = o ++ Lib.split (s.drop f) barT
  no : ∀ j, f ≤ j → j < i → occAt s barT j = false
  fl : f ≤ s.length
theorem TmI.hit {s : List UInt8} {f i : Nat} {o : List (List UInt8)} (h : TmI s f i o) (hfi : f ≤ i) (hi : i + 3 ≤ s.length) (ho : occAt s barT i = true) : TmI s (i + 3) (i + 1) (o ++ [(s.take i).drop f]) := by
  have hidx : Lib.index (s.drop f) barT = ((i - f : Nat) : Int) := index_at (by rw [occ_drop, show f + (i - f) = i by omega]; exact ho) (by rw [List.length_drop]; omega) fun j hj => by
    rw [occ_drop]; exact h.no (f + j) (by omega) (by omega)
  refine ⟨?_, fun j a b => by omega, hi⟩
  rw [h.cut, spl_hit (by decide) hidx, List.append_assoc]
  congr 1
  rw [List.singleton_append, List.drop_drop, show f + (i - f + barT.length) = i + 3 by show f + (i - f + 3) = _; omega, List.drop_take]
theorem TmI.fin {s : List UInt8} {f i : Nat} {o : List (List UInt8)} (h : TmI s f i o) (hi : s.length < i + 3) : Lib.split s barT = o ++ [s.drop f] := by
  rw [h.cut]
  congr 1
  rcases Lib.index_spec (s.drop f) barT with ⟨h1, -⟩ | ⟨k, h1, hk, h2, -⟩
  · exact spl_miss h1
  · exfalso
    rw [occ_drop] at h2
    by_cases hc : f + k < i
    · rw [h.no (f + k) (by omega) hc] at h2; cases h2
    · rw [occ_far (by omega)] at h2; cases h2
theorem strL_snoc (o : List (List UInt8)) (x : List UInt8) : strL (o ++ [x]) = strL o ++ [tx x] := by unfold strL; rw [List.map_append]; rfl
def TermsP (l : List (List UInt8)) (w : World) (e : Ending) (w' : World) : Prop := ∃ (q : Option Addr) (n c : Nat), n = l.length ∧ e = .returned (.slice q n c) ∧ w'.ownsRow w.heap.size 9 1 (.slice q n c) n (strsV (strL l)) ∧ Chg NoB w w'
set_option maxHeartbeats 4000000 in
set_option maxRecDepth 20000 in
theorem terms_any (s : List UInt8) (w : World) (hl : s.length ≤ 65536) : Calls Tryz.prog 28 #[.string (tx s)] w (TermsP (Lib.split s barT) w) := by
  have hss : (tx s).size = s.length := tx_size s
  go_enter Tryz.func28, Tryz.ntmps28
  go_wp2_with fail
  go_loopw [3, 4, 5] (fun ov fv i wr => ∃ (k f m c' : Nat) (q' : Option Addr) (o : List (List UInt8)), k ≤ s.length ∧ f ≤ k + 2 ∧ m ≤ k ∧ i = .int .i64 k ∧ fv = .int .i64 f ∧ ov = .slice q' m c' ∧ m = (strL o).length ∧ TmI s f k o ∧ wr.ownsRow w.heap.size 9 1 (.slice q' m c') m (strsV (strL o)) ∧ Chg NoB w wr) (fun _ _ i _ => s.length + 1 - (intOf i).toNat)
  case atStart => exact ⟨0, 0, 0, 0, none, [], Nat.zero_le _, by omega, Nat.le_refl _, rfl, rfl, rfl, rfl, ⟨rfl, fun j a b => by omega, Nat.zero_le _⟩, World.ownsRow_nil _ _ _ _, Chg.refl _ _⟩
  case round =>
    obtain ⟨k, f, m, c', q', o, hk, hf, hmk, rfl, rfl, rfl, hm, hti, hor, hch⟩ := hrel
    have Hm := Lib.hid hm
    have Hti := Lib.hid hti
    have Hor := Lib.hid hor
    have Hch := Lib.hid hch
    have hfl := hti.fl
    clear hm hti hor hch
    by_cases hlt : k + 3 ≤ s.length
    · have g0 : decide ((k : Int) + 3 ≤ (s.length : Int)) = true := decide_eq_true (by omega)
      by_cases hfk : f ≤ k
      · have g1 : decide ((f : Int) ≤ (k : Int)) = true := decide_eq_true (by omega)
        have hcut : (tx s).extract k (k + 3) = tx ((s.take (k + 3)).drop k) := cut_tx s k (k + 3) (by omega) hlt
        by_cases hb : (s.take (k + 3)).drop k = barT
        · have g2 : (((tx s).extract k (k + 3)).toList == [32, 124, 32]) = true := by rw [hcut, hb, txL]; rfl
          have Hhit := Lib.hid (Hti.out.hit hfk hlt (by rw [occ_cut hlt]; exact decide_eq_true hb))
          have hcut2 : (tx s).extract f k = tx ((s.take k).drop f) := cut_tx s f k hfk (by omega)
          have Hcut2 := Lib.hid hcut2
          clear hcut hb hcut2
          have hal_ := (Chg.refl NoB wr).alloc (.cells #[.string ((tx s).extract f k)] 9)
          have hb_ := heap_alloc_new wr (.cells #[.string ((tx s).extract f k)] 9)
          obtain ⟨lb, hxb_⟩ : ∃ b, b = wr.heap.size := ⟨_, rfl⟩
          obtain ⟨w8, hw_⟩ : ∃ w_, wr.alloc (.cells #[.string ((tx s).extract f k)] 9) = w_ := ⟨_, rfl⟩
          have hz_ : w8.heap.size = lb + 1 := by rw [← hw_, hxb_]; exact alloc_size _ _
          rw [hw_] at hal_ hb_
          rw [← hxb_] at hb_
          have Hw8 := Lib.hid hw_
          have Hx8 := Lib.hid hxb_
          have Ha8 := Lib.hid hal_
          have Hb8 := Lib.hid hb_
          have Hz8 := Lib.hid hz_
          clear hal_ hb_ hxb_ hw_ hz_
          have Hc8 := Lib.hid (Hch.out.trans Ha8.out)
          have Hor8 := Lib.hid (ownsRow_chg Hor.out Ha8.out fun _ _ => id)
          go_wp2_with (at_builtin; go_loud (rw [← Hx8.out, Hw8.out]); go_loud (refine wpList_str (v := .slice q' m c') (y := ((tx s).extract f k)) rfl _ _ rfl rfl rfl Hm.out rfl Hor8.out Hb8.out (by omega) Hc8.out.size ?_); intro v9 w9 hown9 hch9; go_loud (obtain ⟨q9, c9, rfl, -, -⟩ := row_shape hown9); have Hown9 := Lib.hid hown9; go_loud (have Hc9 := Lib.hid (Hc8.out.above hch9 fun j hj => (World.ownsRow.lt Hor8.out j hj).1)); clear hown9 hch9)
          have Hrow := Lib.hid (show w9.ownsRow w.heap.size 9 1 (.slice q9 (m + 1) c9) (m + 1) (strsV (strL (o ++ [(s.take k).drop f]))) by rw [strL_snoc, ← Hcut2.out]; exact Hown9.out)
          go_roundw
          case rel => exact ⟨k + 1, k + 3, m + 1, c9, q9, o ++ [(s.take k).drop f], by omega, by omega, by omega, by go_num, by go_num, rfl, by rw [strL_snoc, List.length_append, ← Hm.out]; rfl, Hhit.out, Hrow.out, Hc9.out⟩
          case measure => simp [intOf]; omega
        · have g2 : (((tx s).extract k (k + 3)).toList == [32, 124, 32]) = false := by rw [hcut, txL]; simpa [barT] using hb
          have Hnx := Lib.hid (show TmI s f (k + 1) o from ⟨Hti.out.cut, fun j a b => by
            by_cases e : j = k
            · subst e; rw [occ_cut hlt]; exact decide_eq_false hb
            · exact Hti.out.no j a (by omega), Hti.out.fl⟩)
          clear hcut hb
          go_wp2_with fail
          go_roundw
          case rel => exact ⟨k + 1, f, m, c', q', o, by omega, by omega, by omega, by go_num, rfl, rfl, Hm.out, Hnx.out, Hor.out, Hch.out⟩
          case measure => simp [intOf]; omega
      · have g1 : decide ((f : Int) ≤ (k : Int)) = false := decide_eq_false (by omega)
        have Hnx := Lib.hid (show TmI s f (k + 1) o from ⟨Hti.out.cut, fun j a b => by omega, Hti.out.fl⟩)
        go_wp2_with fail
        go_roundw
        case rel => exact ⟨k + 1, f, m, c', q', o, by omega, by omega, by omega, by go_num, rfl, rfl, Hm.out, Hnx.out, Hor.out, Hch.out⟩
        case measure => simp [intOf]; omega
    · have g0 : decide ((k : Int) + 3 ≤ (s.length : Int)) = false := decide_eq_false (by omega)
      have Hfin := Lib.hid (Hti.out.fin (by omega))
      have hcut : (tx s).extract f s.length = tx (s.drop f) := by rw [cut_tx s f s.length hfl (Nat.le_refl _), List.take_length]
      have Hcut := Lib.hid hcut
      clear hcut
      have hal_ := (Chg.refl NoB wr).alloc (.cells #[.string ((tx s).extract f s.length)] 9)
      have hb_ := heap_alloc_new wr (.cells #[.string ((tx s).extract f s.length)] 9)
      obtain ⟨lb, hxb_⟩ : ∃ b, b = wr.heap.size := ⟨_, rfl⟩
      obtain ⟨w8, hw_⟩ : ∃ w_, wr.alloc (.cells #[.string ((tx s).extract f s.length)] 9) = w_ := ⟨_, rfl⟩
      have hz_ : w8.heap.size = lb + 1 := by rw [← hw_, hxb_]; exact alloc_size _ _
      rw [hw_] at hal_ hb_
      rw [← hxb_] at hb_
      have Hw8 := Lib.hid hw_
      have Hx8 := Lib.hid hxb_
      have Ha8 := Lib.hid hal_
      have Hb8 := Lib.hid hb_
      have Hz8 := Lib.hid hz_
      clear hal_ hb_ hxb_ hw_ hz_
      have Hc8 := Lib.hid (Hch.out.trans Ha8.out)
      have Hor8 := Lib.hid (ownsRow_chg Hor.out Ha8.out fun _ _ => id)
      go_wp2_with (at_builtin; go_loud (rw [← Hx8.out, Hw8.out]); go_loud (refine wpList_str (v := .slice q' m c') (y := ((tx s).extract f s.length)) rfl _ _ rfl rfl rfl Hm.out rfl Hor8.out Hb8.out (by omega) Hc8.out.size ?_); intro v9 w9 hown9 hch9; go_loud (obtain ⟨q9, c9, rfl, -, -⟩ := row_shape hown9); have Hown9 := Lib.hid hown9; go_loud (have Hc9 := Lib.hid (Hc8.out.above hch9 fun j hj => (World.ownsRow.lt Hor8.out j hj).1)); clear hown9 hch9)
      have Hrow := Lib.hid (show w9.ownsRow w.heap.size 9 1 (.slice q9 (m + 1) c9) (m + 1) (strsV (strL (o ++ [s.drop f]))) by rw [strL_snoc, ← Hcut.out]; exact Hown9.out)
      have Hlen := Lib.hid (show m + 1 = (o ++ [s.drop f]).length by rw [List.length_append, Hm.out]; unfold strL; rw [List.length_map]; rfl)
      go_ret
      rw [Hfin.out]
      exact ⟨q9, m + 1, c9, Hlen.out, rfl, Hrow.out, Hc9.out⟩
end Go.Proofs.YtaijhebjjbcdfaaGreatDoor
