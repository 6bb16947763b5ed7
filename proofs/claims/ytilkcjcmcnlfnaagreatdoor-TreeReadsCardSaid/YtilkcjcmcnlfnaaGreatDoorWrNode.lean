/- The contracts of the writer's node and list: what the document's Put says. Condition: at most 2^20 nodes and bytes; the library's variables. -/
import Derived.Test.YtilkcjcmcnlfnaaGreatDoorWrPiece
import Derived.Test.YtilkcjcmcnlfnaaGreatDoorLwLib
namespace Go.Proofs.YtilkcjcmcnlfnaaGreatDoor
set_option linter.unusedVariables false
open Go.ChangeShapes Go.WideShapes Go.ChangeAt Go.RowKit
theorem room_err {b : List UInt8} {y : Int} (h : room b = .error y) : y = 3 := by
  unfold room at h
  split at h
  · cases h; rfl
  · cases h
mutual
theorem putN_err (n : Nd) (d : Nat) (b : List UInt8) (y : Int) (h : putN n d b = .error y) : 0 < y ∧ y < 10 := by
  obtain ⟨l, a, ks⟩ := n
  rw [putN] at h
  cases l with
  | true =>
    simp only [if_true] at h
    split at h
    · rw [room_err h]; decide
    · cases h; decide
  | false =>
    simp only [Bool.false_eq_true, if_false] at h
    split at h
    · cases h; decide
    · split at h
      · cases h; decide
      · split at h
        · rename_i e he
          cases h
          rw [room_err he]; decide
        · split at h
          · rename_i e he
            cases h
            exact putL_err _ _ _ _ he
          · rw [room_err h]; decide
theorem putL_err (ks : List Nd) (d : Nat) (b : List UInt8) (y : Int) (h : putL ks d b = .error y) : 0 < y ∧ y < 10 := by
  cases ks with
  | nil => rw [putL] at h; cases h
  | cons k ks =>
    rw [putL] at h
    split at h
    · rename_i e he
      cases h
      exact putN_err k d b _ he
    · exact putL_err ks d _ y h
end
theorem itoa_nat (n : Nat) : Lib.itoa (n : Int) = Lib.decDigits n := by
  unfold Lib.itoa
  rw [if_neg (by omega), Int.toNat_natCast]
theorem cat_one (c : UInt8) : cat [⟨#[c]⟩] = [c] := rfl
theorem cat_atom (a : ByteArray) : cat [⟨(Lib.itoa (a.size : Int)).toArray⟩, ⟨#[58]⟩, a] = atomB a.data.toList := by
  unfold cat atomB
  rw [itoa_nat]
  have : a.data.toList.length = a.size := by simp
  simp [this]
theorem dec_len (n : Nat) (h : n < 18446744073709551616) : (Lib.decDigits n).length ≤ 20 := by rw [Lib.decDigits_length]; exact Lib.nDigits_le20 n h
/- the statement of node, at all nodes of at most N nodes and bytes -/
def NodeSays (N : Nat) : Prop := ∀ (n : Nd), n.count ≤ N → ∀ (S : Nat → Prop) (v : Value) (d : Nat) (xs : List UInt8) (base b : Nat) (w : World), NdV w S v n → (∀ k, S k → k < base) → Wr w base b xs → Lw base w → xs.length ≤ 65536 → d ≤ 32 →
    Calls Tryz.prog 81 #[.pointer (some ⟨b, 0, none⟩), v, .int .i64 d] w (PutP base b (putN n d xs) w)
def listR (ks : List Nd) (d : Nat) (xs : List UInt8) : Except Int (List UInt8) := match room (xs ++ [40]) with
  | .error e => .error e
  | .ok b1 => match putL ks (d + 1) b1 with
    | .error e => .error e
    | .ok b2 => room (b2 ++ [41])
theorem PutP.grow {base b : Nat} {r : Except Int (List UInt8)} {w w1 : World} {e : Ending} {w' : World} (h : PutP base b r w1 e w') (hc : Chg (AbB base) w w1) : PutP base b r w e w' := ⟨hc.trans h.1, h.2⟩
theorem PutP.ret {base b : Nat} {r : Except Int (List UInt8)} {w : World} {e : Ending} {w' : World} (h : PutP base b r w e w') : ∃ x : Int, e = .returned (.int .i64 x) := by
  cases r with
  | error y => exact ⟨y, h.2⟩
  | ok ys => exact ⟨0, h.2.1⟩
set_option maxHeartbeats 2000000 in
theorem list_any (N : Nat) (hN : N ≤ 1048576) (IH0 : NodeSays N) (ks : List Nd) (hks : Nd.counts ks ≤ N) (S : Nat → Prop) (v : Value) (kb ko d : Nat) (xs : List UInt8) (base b : Nat) (w : World) (hs : NdS w S v ks kb ko) (hS : ∀ k, S k → k < base)
    (hw : Wr w base b xs) (hl : Lw base w) (hx : xs.length ≤ 65536) (hd : d < 32) :
    Calls Tryz.prog 105 #[.pointer (some ⟨b, 0, none⟩), v, .int .i64 d] w (PutP base b (listR ks d xs) w) := by
  have IH := Lib.hid IH0
  have Hw := Lib.hid hw
  have Hl := Lib.hid hl
  have HS := Lib.hid hS
  have Hs := Lib.hid hs
  have Hks := Lib.hid hks
  have hlen := Nd.len_counts ks
  have hkN : ks.length ≤ 1048576 := by omega
  obtain ⟨⟨q, c, rfl, hkc, hcm, hqq⟩, hk⟩ := hs
  have Hq := Lib.hid hqq
  have Hk := Lib.hid hk
  have hob : Chg NoB w (w.alloc (.cells #[.string ⟨#[40]⟩] 9)) := (Chg.refl _ w).alloc _
  have hop := Lib.hid (piece_any base b xs w.heap.size [⟨#[40]⟩] 1 (w.alloc (.cells #[.string ⟨#[40]⟩] 9)) (hw.keep hob fun _ _ _ => id) (heap_alloc_new w _) (by decide) (by decide) (by decide) hx)
  rw [cat_one] at hop
  have Hob := Lib.hid (show Chg (AbB base) w (w.alloc (.cells #[.string ⟨#[40]⟩] 9)) from (Chg.refl _ w).alloc _)
  clear IH0 hw hl hS hqq hk hks hob hlen
  unfold maxLen at hcm
  cases hr1 : room (xs ++ [40]) with
  | error y =>
    have hres : listR ks d xs = .error y := by unfold listR; rw [hr1]
    have Hres := Lib.hid hres
    obtain rfl := room_err hr1
    rw [hr1] at hop
    clear hr1 hres
    go_enter Tryz.func105, Tryz.ntmps105
    go_wp2_with fail
    refine hop.out.mono ?_
    rintro e w1 ⟨hc1, rfl⟩
    have Hc1 := Lib.hid hc1
    clear hc1
    go_wp2_with fail
    go_ret
    refine ⟨Hob.out.trans Hc1.out, ?_⟩
    rw [Hres.out]
    rfl
  | ok b1 =>
    obtain ⟨hb1, hb1l⟩ := room_ok hr1
    rw [hr1] at hop
    have hres : listR ks d xs = match putL ks (d + 1) b1 with | .error e => .error e | .ok b2 => room (b2 ++ [41]) := by unfold listR; rw [hr1]
    have Hres := Lib.hid hres
    rw [← hb1] at hb1l
    clear hr1 hres hb1
    go_enter Tryz.func105, Tryz.ntmps105
    go_wp2_with fail
    refine hop.out.mono ?_
    rintro e w1 ⟨hc1, rfl, hw1⟩
    have Hc1 := Lib.hid (Hob.out.trans hc1)
    have Hw1 := Lib.hid hw1
    clear hc1 hw1
    go_wp2_with fail
    go_loopw [9, 10, 19] (fun pv ev i wr => ∃ (k : Nat) (ys : List UInt8), k ≤ ks.length ∧ i = .int .i64 k ∧ Wr wr base b ys ∧ Chg (AbB base) w wr ∧ putL (ks.drop k) (d + 1) ys = putL ks (d + 1) b1 ∧ ys.length ≤ 65536) (fun _ _ i _ => ks.length - (intOf i).toNat)
    case atStart => exact ⟨0, b1, Nat.zero_le _, rfl, Hw1.out, Hc1.out, rfl, hb1l⟩
    case round =>
      obtain ⟨k, ys, hk, rfl, hwr, hch, hput, hys⟩ := hrel
      have Hwr := Lib.hid hwr
      have Hch := Lib.hid hch
      have Hput := Lib.hid hput
      clear hwr hch hput
      by_cases hlt : k < ks.length
      · have hST : ∀ x, S x → ¬ AbB base x := fun x hx hb => by have := HS.out x hx; unfold AbB at hb; omega
        obtain ⟨_, hca, s', kb', ko', c0, c1, c2, hs'⟩ := ((Hk.out k hlt).keep Hch.out hST).cells
        have hs2 := hs'
        obtain ⟨⟨q', c', hsq', h5, h6, h7⟩, h8⟩ := hs'
        subst hsq'
        have hqe := Hq.out (by intro e; rw [e] at hlt; simp at hlt)
        subst hqe
        have hcnt : ks[k].count ≤ N := Nat.le_trans (Nd.counts_get ks k hlt) Hks.out
        have Hcnt := Lib.hid hcnt
        have hal := (Chg.refl NoB wr).alloc (.cells #[.bool ks[k].leaf, .string ks[k].atom, .slice q' ks[k].kids.length c'] 71)
        have hv : NdV wr S (.agg #[.bool ks[k].leaf, .string ks[k].atom, .slice q' ks[k].kids.length c']) ks[k] := ⟨hca, _, kb', ko', rfl, hs2⟩
        have hdrop : putL (ks.drop k) (d + 1) ys = match putN ks[k] (d + 1) ys with | .error e => .error e | .ok b1 => putL (ks.drop (k + 1)) (d + 1) b1 := by
          rw [drop_get ks k hlt, putL]
          cases putN ks[k] (d + 1) ys <;> rfl
        have Hdrop := Lib.hid hdrop
        obtain ⟨kd, hkd⟩ : ∃ kd, kd = ks[k] := ⟨_, rfl⟩
        have Hkd := Lib.hid hkd
        rw [← hkd] at c0 c1 c2 Hcnt hv Hdrop hal
        have Hv := Lib.hid (hv.keep hal fun _ _ => id)
        have Hal := Lib.hid hal
        obtain ⟨v0, v1, v2⟩ := var3 (heap_alloc_new wr (.cells #[.bool kd.leaf, .string kd.atom, .slice q' kd.kids.length c'] 71))
        have Hwr2 := Lib.hid (Hwr.out.keep hal fun _ _ _ => id)
        have Hlb2 := Lib.hid ((Hl.out.chg Hch.out fun _ x => x).keep hal)
        clear hal hv hs2 hcnt hdrop h5 h6 h7 h8 hca hkd hST
        cases hp : putN kd (d + 1) ys with
        | error y =>
          obtain ⟨y0, y1⟩ := putN_err _ _ _ _ hp
          have hyb : (y == 0) = false := by rw [beq_eq_false_iff_ne]; omega
          have hfin : putL ks (d + 1) b1 = .error y := by rw [← Hput.out, Hdrop.out, hp]
          have Hfin := Lib.hid hfin
          have Hnode := Lib.hid (IH.out kd Hcnt.out S _ (d + 1) ys base b _ Hv.out HS.out Hwr2.out Hlb2.out hys (by omega))
          rw [hp] at Hnode
          clear hfin hp
          go_wp2_with fail
          refine Hnode.out.mono ?_
          rintro e w5 ⟨hc5, rfl⟩
          have Hc5 := Lib.hid hc5
          clear hc5
          go_wp2_with fail
          go_ret
          refine ⟨Hch.out.trans ((Hal.out.mono fun _ _ x => x.elim).trans Hc5.out), ?_⟩
          rw [Hres.out, Hfin.out]
          rfl
        | ok zs =>
          have hzl := (putN_ok _ _ _ _ hp).2.2
          have Hnode := Lib.hid (IH.out kd Hcnt.out S _ (d + 1) ys base b _ Hv.out HS.out Hwr2.out Hlb2.out hys (by omega))
          rw [hp] at Hnode
          have Hp := Lib.hid hp
          clear hp
          go_wp2_with fail
          refine Hnode.out.mono ?_
          rintro e w5 ⟨hc5, rfl, hw5⟩
          have Hc5 := Lib.hid hc5
          have Hw5 := Lib.hid hw5
          clear hc5 hw5
          go_wp2_with fail
          go_roundw
          case rel =>
            refine ⟨k + 1, zs, by omega, by go_num, Hw5.out, Hch.out.trans ((Hal.out.mono fun _ _ x => x.elim).trans Hc5.out), ?_, hzl⟩
            rw [← Hput.out, Hdrop.out, Hp.out]
          case measure => simp [intOf]; omega
      · obtain rfl : k = ks.length := by omega
        have hput := Hput.out
        rw [List.drop_length, putL] at hput
        have hob : Chg NoB wr (wr.alloc (.cells #[.string ⟨#[41]⟩] 9)) := (Chg.refl _ wr).alloc _
        have hcp := Lib.hid (piece_any base b ys wr.heap.size [⟨#[41]⟩] 1 (wr.alloc (.cells #[.string ⟨#[41]⟩] 9)) (Hwr.out.keep hob fun _ _ _ => id) (heap_alloc_new wr _) (by decide) (by decide) (by decide) hys)
        rw [cat_one] at hcp
        have hfin : listR ks d xs = room (ys ++ [41]) := by rw [Hres.out, ← hput]
        have Hfin := Lib.hid hfin
        have Hob2 := Lib.hid (show Chg (AbB base) wr (wr.alloc (.cells #[.string ⟨#[41]⟩] 9)) from (Chg.refl _ wr).alloc _)
        clear hput hob hfin
        cases hr2 : room (ys ++ [41]) with
        | error y =>
          rw [hr2] at hcp Hfin
          go_wp2_with fail
          refine hcp.out.mono ?_
          rintro e w5 ⟨hc5, rfl⟩
          have Hc5 := Lib.hid hc5
          clear hc5
          go_wp2_with fail
          go_ret
          refine ⟨Hch.out.trans (Hob2.out.trans Hc5.out), ?_⟩
          rw [Hfin.out]
          rfl
        | ok zs =>
          rw [hr2] at hcp Hfin
          go_wp2_with fail
          refine hcp.out.mono ?_
          rintro e w5 ⟨hc5, rfl, hw5⟩
          have Hc5 := Lib.hid hc5
          have Hw5 := Lib.hid hw5
          clear hc5 hw5
          go_wp2_with fail
          go_ret
          refine ⟨Hch.out.trans (Hob2.out.trans Hc5.out), ?_⟩
          rw [Hfin.out]
          exact ⟨rfl, Hw5.out⟩
theorem atom_len (a : ByteArray) (h : a.size ≤ 1048576) : (cat [⟨(Lib.itoa (a.size : Int)).toArray⟩, ⟨#[58]⟩, a]).length ≤ 1099511627776 := by
  have hdl := dec_len a.size (by omega)
  rw [cat_atom]
  unfold atomB
  simp; omega
theorem atom_err (base b : Nat) (xs : List UInt8) (a : ByteArray) (y : Int) (p : Nat) (w : World) (ha : a.size ≤ 1048576) (hx : xs.length ≤ 65536) (h : room (xs ++ atomB a.data.toList) = .error y) (hw : Wr w base b xs)
    (hp : w.heap[p]? = some (.cells #[.string ⟨(Lib.itoa (a.size : Int)).toArray⟩, .string ⟨#[58]⟩, .string a] 9 (0, 0))) :
    Calls Tryz.prog 103 #[.pointer (some ⟨b, 0, none⟩), .slice (some ⟨p, 0, none⟩) 3 3] w fun e w' => e = .returned (.int .i64 y) ∧ Chg (AbB base) w w' ∧ Kp w w' := by
  refine (piece_kp base b xs p [⟨(Lib.itoa (a.size : Int)).toArray⟩, ⟨#[58]⟩, a] 3 w hw hp (Nat.le_refl 3) (by decide) (atom_len a ha) hx).mono ?_
  rintro e w' ⟨⟨h1, h2⟩, h3⟩
  rw [cat_atom, h] at h2
  exact ⟨h2, h1, h3⟩
theorem atom_ok (base b : Nat) (xs : List UInt8) (a : ByteArray) (zs : List UInt8) (p : Nat) (w : World) (ha : a.size ≤ 1048576) (hx : xs.length ≤ 65536) (h : room (xs ++ atomB a.data.toList) = .ok zs) (hw : Wr w base b xs)
    (hp : w.heap[p]? = some (.cells #[.string ⟨(Lib.itoa (a.size : Int)).toArray⟩, .string ⟨#[58]⟩, .string a] 9 (0, 0))) :
    Calls Tryz.prog 103 #[.pointer (some ⟨b, 0, none⟩), .slice (some ⟨p, 0, none⟩) 3 3] w fun e w' => e = .returned (.int .i64 0) ∧ Wr w' base b zs ∧ Chg (AbB base) w w' ∧ Kp w w' := by
  refine (piece_kp base b xs p [⟨(Lib.itoa (a.size : Int)).toArray⟩, ⟨#[58]⟩, a] 3 w hw hp (Nat.le_refl 3) (by decide) (atom_len a ha) hx).mono ?_
  rintro e w' ⟨⟨h1, h2⟩, h3⟩
  rw [cat_atom, h] at h2
  exact ⟨h2.1, h2.2, h1, h3⟩
set_option maxHeartbeats 2000000 in
theorem node_any (N : Nat) (hN : N ≤ 1048576) : NodeSays N := by
  induction N with
  | zero => intro n hn; have := n.count_pos; omega
  | succ N ih =>
    intro n hn S v d xs base b w hv hS hw hl hx hd
    have IH := Lib.hid (ih (by omega))
    clear ih
    have Hv := Lib.hid hv
    have Hw := Lib.hid hw
    have Hl := Lib.hid hl
    have HS := Lib.hid hS
    obtain ⟨lf, at', ks⟩ := n
    obtain ⟨ha, s, kb, ko, rfl, hs⟩ := hv
    have hsN := Lib.hid hs
    obtain ⟨⟨q, c, hsq, hkc, hcm, hqq⟩, hk⟩ := hs
    simp only [Nd.leaf, Nd.atom, Nd.kids] at *
    subst hsq
    rw [Nd.count] at hn
    have hkl := Nd.len_counts ks
    obtain ⟨m, hm⟩ : ∃ m, m = ks.length := ⟨_, rfl⟩
    rw [← hm] at hsN Hv hkc hkl ⊢
    have hal := (Chg.refl NoB w).alloc (.cells #[.bool lf, .string at', .slice q m c] 71)
    obtain ⟨v0, v1, v2⟩ := var3 (heap_alloc_new w (.cells #[.bool lf, .string at', .slice q m c] 71))
    have Hal := Lib.hid hal
    have Hwa := Lib.hid (hw.keep hal fun _ _ _ => id)
    have Hla := Lib.hid (hl.keep hal)
    have HsA := Lib.hid (hsN.out.keep hal fun _ _ => id)
    have halB : Chg (AbB base) w (w.alloc (.cells #[.bool lf, .string at', .slice q m c] 71)) := hal.mono fun _ _ x => x.elim
    have HalB := Lib.hid halB
    have Hm := Lib.hid hm
    unfold maxLen at hcm
    clear hk hqq hal hw hl hS halB hm
    cases lf with
    | true =>
      by_cases hk0 : m = 0
      · have hks : ks = [] := List.eq_nil_of_length_eq_zero (Hm.out ▸ hk0)
        have hput : putN (.mk true at' ks) d xs = room (xs ++ atomB at'.data.toList) := by rw [putN, hks]; rfl
        have Hput := Lib.hid hput
        subst hk0
        have has : at'.size ≤ 1048576 := by omega
        have hblk := heap_alloc_new w (.cells #[.bool true, .string at', .slice q 0 c] 71)
        obtain ⟨vb, hvb⟩ : ∃ vb, vb = w.heap.size := ⟨_, rfl⟩
        rw [← hvb] at v0 v1 v2 hblk
        have Hvb := Lib.hid hvb
        clear hput hks hvb
        go_enter Tryz.func81, Tryz.ntmps81
        go_upto_region 4 with fail
        rw [← Hvb.out]
        generalize w.alloc (.cells #[.bool true, .string at', .slice q 0 c] 71) = w5 at *
        have Hblk := Lib.hid hblk
        clear hblk
        cases hrm : room (xs ++ atomB at'.data.toList) with
        | error y =>
          rw [hrm] at Hput
          have Hrm := Lib.hid hrm
          clear hrm
          go_region_held3 (fun w' => w'.cell? ⟨vb, 1, none⟩ = some (.string at'))
            (first | assumption | exact u1 | exact ((Chg.refl NoB _).alloc _).keep u1 | exact u2)
            (first
              | (go_at_call 104; refine (itoaW_any (at'.size : Int) (by omega) (by omega) base _ (Hla.out.keep (Chg.drew (Chg.refl NoB _)))).mono ?_; rintro e w6 ⟨rfl, hc6⟩; have u1 := hc6.keep (p := ⟨vb, 1, none⟩) (u := .string at') (by assumption))
              | (go_at_call 103; refine (atom_err base b xs at' _ w6.heap.size _ has hx Hrm.out (Hwa.out.keep (((Chg.refl NoB _).drew.trans hc6).alloc _) fun _ _ _ => id) (heap_alloc_new w6 _)).mono ?_; rintro e w7 ⟨rfl, hc7, hk7⟩; have u2 := (cell_of_row _ vb 1 _ _ (0, 0) (hk7 vb _ 71 (by decide) (by decide) (row_kept (((Chg.refl NoB _).drew.trans hc6).alloc _) Hblk.out id))).trans (show #[Value.bool true, .string at', .slice q 0 c][1]? = some (.string at') from rfl)))
          go_wp2_with fail
          go_ret
          refine ⟨HalB.out.trans (((Chg.refl (AbB base) _).drew.trans (hc6.mono fun _ _ x => x.elim)).alloc _ |>.trans hc7), ?_⟩
          rw [Hput.out]
          rfl
        | ok zs =>
          rw [hrm] at Hput
          have Hrm := Lib.hid hrm
          clear hrm
          go_region_held3 (fun w' => w'.cell? ⟨vb, 1, none⟩ = some (.string at'))
            (first | assumption | exact u1 | exact ((Chg.refl NoB _).alloc _).keep u1 | exact u2)
            (first
              | (go_at_call 104; refine (itoaW_any (at'.size : Int) (by omega) (by omega) base _ (Hla.out.keep (Chg.drew (Chg.refl NoB _)))).mono ?_; rintro e w6 ⟨rfl, hc6⟩; have u1 := hc6.keep (p := ⟨vb, 1, none⟩) (u := .string at') (by assumption))
              | (go_at_call 103; refine (atom_ok base b xs at' _ w6.heap.size _ has hx Hrm.out (Hwa.out.keep (((Chg.refl NoB _).drew.trans hc6).alloc _) fun _ _ _ => id) (heap_alloc_new w6 _)).mono ?_; rintro e w7 ⟨rfl, hw7, hc7, hk7⟩; have u2 := (cell_of_row _ vb 1 _ _ (0, 0) (hk7 vb _ 71 (by decide) (by decide) (row_kept (((Chg.refl NoB _).drew.trans hc6).alloc _) Hblk.out id))).trans (show #[Value.bool true, .string at', .slice q 0 c][1]? = some (.string at') from rfl)))
          go_wp2_with fail
          go_ret
          refine ⟨HalB.out.trans (((Chg.refl (AbB base) _).drew.trans (hc6.mono fun _ _ x => x.elim)).alloc _ |>.trans hc7), ?_⟩
          rw [Hput.out]
          exact ⟨rfl, hw7⟩
      · have hm0 : 0 < m := by omega
        have hput : putN (.mk true at' ks) d xs = .error 1 := by
          have hne : ks ≠ [] := by
            rintro rfl
            have := Hm.out
            rw [List.length_nil] at this
            omega
          rw [putN]
          simp only [if_true]
          rw [if_neg (by rw [List.isEmpty_iff]; exact hne)]
        have Hput := Lib.hid hput
        clear hput hk0
        go_enter Tryz.func81, Tryz.ntmps81
        go_wp2_with fail
        go_ret
        refine ⟨HalB.out, ?_⟩
        rw [Hput.out]
        rfl
    | false =>
      by_cases ha0 : at'.size = 0
      · obtain rfl := empty_of_size ha0
        by_cases hd32 : d < 32
        · have hput : putN (.mk false ⟨#[]⟩ ks) d xs = listR ks d xs := by
            rw [putN]
            simp only [Bool.false_eq_true, if_false]
            rw [if_neg (by rw [ha0]; decide), if_neg (by omega)]
            rfl
          have Hput := Lib.hid hput
          have Hlist := Lib.hid (list_any N (by omega) IH.out ks (by omega) S (.slice q m c) kb ko d xs base b _ HsA.out HS.out Hwa.out Hla.out hx hd32)
          clear hput ha0
          go_enter Tryz.func81, Tryz.ntmps81
          go_wp2_with fail
          refine Hlist.out.mono ?_
          rintro e w5 hq
          rw [← Hput.out] at hq
          have Hq := Lib.hid hq
          obtain ⟨x, rfl⟩ := hq.ret
          clear hq
          go_wp2_with fail
          go_ret
          exact Hq.out.grow HalB.out
        · have hput : putN (.mk false ⟨#[]⟩ ks) d xs = .error 4 := by
            rw [putN]
            simp only [Bool.false_eq_true, if_false]
            rw [if_neg (by rw [ha0]; decide), if_pos (by omega)]
          have Hput := Lib.hid hput
          clear hput ha0
          go_enter Tryz.func81, Tryz.ntmps81
          go_wp2_with fail
          go_ret
          refine ⟨HalB.out, ?_⟩
          rw [Hput.out]
          rfl
      · have hput : putN (.mk false at' ks) d xs = .error 1 := by
          rw [putN]
          simp only [Bool.false_eq_true, if_false]
          rw [if_pos ha0]
        have Hput := Lib.hid hput
        have hemp : at'.toList.isEmpty = false := by
          rw [Lib.toList_data, List.isEmpty_eq_false_iff]
          intro e
          have : at'.data.toList.length = at'.size := by simp
          rw [e, List.length_nil] at this
          exact ha0 this.symm
        clear hput
        go_enter Tryz.func81, Tryz.ntmps81
        go_wp2_with fail
        go_ret
        refine ⟨HalB.out, ?_⟩
        rw [Hput.out]
        rfl
end Go.Proofs.YtilkcjcmcnlfnaaGreatDoor
