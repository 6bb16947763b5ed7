/- The contracts of the document's room, Put and Encode, and of the program's Encode. Condition: at most 2^20 nodes and bytes; the library's variables. -/
import Derived.Test.YtilkcjcmcnlfnaaGreatDoorWrNode
namespace Go.Proofs.YtilkcjcmcnlfnaaGreatDoor
set_option linter.unusedVariables false
open Go.ChangeShapes Go.WideShapes Go.ChangeAt Go.RowKit
theorem room_any (base : Nat) (v : Value) (xs : List UInt8) (w : World) (h : Own w base v xs) (hx : xs.length ≤ 1099511627776) :
    Calls Tryz.prog 106 #[v] w fun e w' => w' = w ∧ e = .returned (match room xs with | .error y => .tuple #[.slice none 0 0, .int .i64 y] | .ok _ => .tuple #[v, .int .i64 0]) := by
  obtain ⟨ad, cap, rfl, h1, h2, _⟩ := h.shape
  obtain ⟨n, hn⟩ : ∃ n, n = xs.length := ⟨_, rfl⟩
  unfold room
  rw [← hn] at *
  unfold maxLen at h2
  clear h
  by_cases hb : 65536 < n
  · rw [if_pos hb]
    go_enter Tryz.func106, Tryz.ntmps106
    go_wp2_with fail
    go_ret2
    exact ⟨rfl, rfl⟩
  · rw [if_neg hb]
    go_enter Tryz.func106, Tryz.ntmps106
    go_wp2_with fail
    go_ret2
    exact ⟨rfl, rfl⟩
theorem room_no (base : Nat) (v : Value) (xs : List UInt8) (y : Int) (w : World) (h : Own w base v xs) (hx : xs.length ≤ 1099511627776) (hr : room xs = .error y) :
    Calls Tryz.prog 106 #[v] w fun e w' => w' = w ∧ e = .returned (.tuple #[.slice none 0 0, .int .i64 y]) := by
  have := room_any base v xs w h hx
  rwa [hr] at this
theorem room_yes (base : Nat) (v : Value) (xs ys : List UInt8) (w : World) (h : Own w base v xs) (hx : xs.length ≤ 1099511627776) (hr : room xs = .ok ys) :
    Calls Tryz.prog 106 #[v] w fun e w' => w' = w ∧ e = .returned (.tuple #[v, .int .i64 0]) := by
  have := room_any base v xs w h hx
  rwa [hr] at this
theorem Kp.alloc {a w : World} (h : Kp a w) (o : Obj) : Kp a (w.alloc o) := fun k cs t h1 h2 hk => row_kept ((Chg.refl NoB w).alloc o) (h k cs t h1 h2 hk) id
theorem Kp.drew {a w : World} (h : Kp a w) : Kp a w.drew := fun k cs t h1 h2 hk => h k cs t h1 h2 hk
theorem Kp.of {w w' : World} (h : Chg NoB w w') : Kp w w' := fun k cs t h1 h2 hk => row_kept h hk id
theorem Kp.grown {w w' : World} {base : Nat} {v : Value} {xs : List UInt8} (ho : Own w base v xs) (hg : w.grownBy w' v.ownBlock) : Kp w w' := fun k cs t h1 h2 hk =>
  (hg.block k (lt_of_block hk) (fun e => own_ne ho hk h2 k e.symm rfl)).trans hk
theorem Own.app {w' : World} {base : Nat} {v' : Value} {xs ys : List UInt8} {n m : Nat} {us : List Value} (hn : n = xs.length) (hm : m = ys.length) (hu : us = bytesV ys) (h : w'.ownsRow base 5 1 v' (n + m) (bytesV xs ++ us)) : Own w' base v' (xs ++ ys) := by
  subst hn hm hu
  unfold Own
  rw [bytesV_append, List.length_append]
  exact h
theorem lit_one (w : World) (c : Int) : ∀ (j : Nat) (u : Value), [Value.int .u8 c][j]? = some u → (w.alloc (.cells #[.int .u8 c] 5)).cell? ((⟨w.heap.size, 0, none⟩ : Addr).add j) = some u := by
  intro j u hj
  match j, hj with
  | 0, hj =>
    simp only [List.getElem?_cons_zero, Option.some.injEq] at hj
    subst hj
    have := cell_of_row (w.alloc (.cells #[.int .u8 c] 5)) w.heap.size 0 _ 5 (0, 0) (heap_alloc_new w _)
    simp [Addr.add]
theorem one_u8 (c : Int) : ∀ u ∈ [Value.int .u8 c], u.oneCell' = true := by
  intro u hu
  simp only [List.mem_singleton] at hu
  subst hu
  rfl
theorem AbB.grown {w w' : World} {base : Nat} {v : Value} {xs : List UInt8} (ho : Own w base v xs) (hg : w.grownBy w' v.ownBlock) : Chg (AbB base) w w' := (Chg.refl (AbB base) w).grown hg fun k hk => .inl (ho.lt k hk).1
theorem Own.keepB {w w' : World} {base : Nat} {v : Value} {xs : List UInt8} (h : Own w base v xs) (hc : Chg NoB w w') : Own w' base v xs := h.chg hc fun _ _ => id
/- one byte of a literal behind own bytes: what the walk has then -/
structure Ap (base : Nat) (xs : List UInt8) (w : World) (v' : Value) (w' : World) : Prop where
  own : Own w' base v' xs
  chg : Chg (AbB base) w w'
  kp : Kp w w'
/- what a writing of the document's answers -/
def RefP (base : Nat) (r : Except Int (List UInt8)) (w : World) (e : Ending) (w' : World) : Prop := Chg (AbB base) w w' ∧ Kp w w' ∧ match r with
  | .error y => e = .returned (.tuple #[.slice none 0 0, .int .i64 y])
  | .ok ys => ∃ v, e = .returned (.tuple #[v, .int .i64 0]) ∧ Own w' base v ys
def RefSays (N : Nat) : Prop := ∀ (n : Nd), n.count ≤ N → ∀ (S : Nat → Prop) (v : Value) (d : Nat) (bv : Value) (xs : List UInt8) (base : Nat) (w : World), NdV w S v n → (∀ k, S k → k < base) → Own w base bv xs → Lw base w → xs.length ≤ 65536 → d ≤ 32 →
    Calls Tryz.prog 82 #[bv, v, .int .i64 d] w (RefP base (putN n d xs) w)
theorem room_far {xs : List UInt8} {a : ByteArray} (h : 65536 < a.size) : room (xs ++ atomB a.data.toList) = .error 3 := by
  unfold room
  have : a.data.toList.length = a.size := by simp
  rw [if_pos]
  unfold atomB
  simp; omega
/- under way among the kids: the first k are written, or one of them has been refused -/
def LpSt (base : Nat) (R : Except Int (List UInt8)) (ks : List Nd) (d k : Nat) (v : Value) (y : Int) (w : World) : Prop :=
  (y = 0 ∧ ∃ ys, Own w base v ys ∧ ys.length ≤ 65536 ∧ putL (ks.drop k) (d + 1) ys = R) ∨ (0 < y ∧ y < 10 ∧ R = .error y)
def openR (ks : List Nd) (d : Nat) (xs : List UInt8) : Except Int (List UInt8) := match room (xs ++ [40]) with
  | .error e => .error e
  | .ok b1 => putL ks (d + 1) b1
theorem room_st (base : Nat) (v : Value) (xs : List UInt8) (ks : List Nd) (d : Nat) (w : World) (h : Own w base v (xs ++ [40])) (hx : xs.length ≤ 65536) :
    Calls Tryz.prog 106 #[v] w fun e w' => w' = w ∧ ∃ v' y, e = .returned (.tuple #[v', .int .i64 y]) ∧ LpSt base (openR ks d xs) ks d 0 v' y w := by
  refine (room_any base v (xs ++ [40]) w h (by simp; omega)).mono ?_
  rintro e w' ⟨rfl, rfl⟩
  refine ⟨rfl, ?_⟩
  unfold openR
  cases hr : room (xs ++ [40]) with
  | error y => exact ⟨_, y, rfl, .inr ⟨by rw [room_err hr]; decide, by rw [room_err hr]; decide, rfl⟩⟩
  | ok ys =>
    obtain ⟨rfl, hl⟩ := room_ok hr
    exact ⟨v, 0, rfl, .inl ⟨rfl, _, h, hl, rfl⟩⟩
theorem put_list (ks : List Nd) (d : Nat) (xs : List UInt8) (hd : d < 32) : putN (.mk false ⟨#[]⟩ ks) d xs = match openR ks d xs with | .error e => .error e | .ok b2 => room (b2 ++ [41]) := by
  rw [putN]
  simp only [Bool.false_eq_true, if_false]
  rw [if_neg (by decide), if_neg (by omega)]
  unfold openR
  cases room (xs ++ [40]) with
  | error y => rfl
  | ok b => 
    simp only
    cases putL ks (d + 1) b <;> rfl
set_option maxHeartbeats 4000000 in
set_option maxRecDepth 20000 in
theorem put_any (N : Nat) (hN : N ≤ 1048576) : RefSays N := by
  induction N with
  | zero => intro n hn; have := n.count_pos; omega
  | succ N ih =>
    intro n hn S v d bv xs base w hv hS ho hl hx hd
    have IH := Lib.hid (ih (by omega))
    clear ih
    have HS := Lib.hid hS
    have Hl := Lib.hid hl
    have Ho := Lib.hid ho
    obtain ⟨lf, at', ks⟩ := n
    obtain ⟨ha, s, kb, ko, rfl, hs⟩ := hv
    obtain ⟨⟨q, c, hsq, hkc, hcm, hqq⟩, hk⟩ := hs
    simp only [Nd.leaf, Nd.atom, Nd.kids] at *
    subst hsq
    rw [Nd.count] at hn
    have hkl := Nd.len_counts ks
    have Hk := Lib.hid hk
    have Hq := Lib.hid hqq
    obtain ⟨m, hm⟩ : ∃ m, m = ks.length := ⟨_, rfl⟩
    rw [← hm] at hkc hkl ⊢
    have hal := (Chg.refl NoB w).alloc (.cells #[.bool lf, .string at', .slice q m c] 71)
    have hblk := heap_alloc_new w (.cells #[.bool lf, .string at', .slice q m c] 71)
    obtain ⟨v0, v1, v2⟩ := var3 hblk
    have Hal := Lib.hid hal
    have HalB := Lib.hid (show Chg (AbB base) w (w.alloc (.cells #[.bool lf, .string at', .slice q m c] 71)) from hal.mono fun _ _ x => x.elim)
    have HalK := Lib.hid (Kp.of hal)
    have Hoa := Lib.hid (ho.keepB hal)
    have Hla := Lib.hid (hl.keep hal)
    have Hblk := Lib.hid hblk
    have Hm := Lib.hid hm
    obtain ⟨ad, cap, hbv, hcp1, hcp2, _⟩ := ho.shape
    unfold maxLen at hcm
    clear hk hqq hal hl hS ho hm hblk
    cases lf with
    | true =>
      by_cases hk0 : m = 0
      · have hks : ks = [] := List.eq_nil_of_length_eq_zero (Hm.out ▸ hk0)
        have hput : putN (.mk true at' ks) d xs = room (xs ++ atomB at'.data.toList) := by rw [putN, hks]; rfl
        have Hput := Lib.hid hput
        subst hk0
        clear hput hks
        by_cases hbig : 65536 < at'.size
        · go_enter Tryz.func82, Tryz.ntmps82
          go_wp2_with fail
          go_ret2
          refine ⟨HalB.out, HalK.out, ?_⟩
          rw [Hput.out, room_far hbig]
          rfl
        · have has : at'.size ≤ 65536 := by omega
          obtain ⟨it, hit⟩ : ∃ it, it = ByteArray.mk (Lib.itoa (at'.size : Int)).toArray := ⟨_, rfl⟩
          have hitl : it.data.toList = Lib.decDigits at'.size := by rw [hit, ← itoa_nat]
          have hits : it.size ≤ 20 := by
            have h1 : it.data.toList.length = it.size := by simp
            have h2 := dec_len at'.size (by omega)
            rw [← h1, hitl]; exact h2
          have hats : at'.data.toList.length = at'.size := by simp
          have Hats := Lib.hid hats
          have Hitl := Lib.hid hitl
          have Hit := Lib.hid hit
          have hitn : it.data.toList.length = it.size := by simp
          have Hitn := Lib.hid hitn
          obtain ⟨i0, hi, hz0, hz1, hz2⟩ := info_parts info5
          obtain ⟨nx, hnx⟩ : ∃ n, n = xs.length := ⟨_, rfl⟩
          rw [← hnx] at hx hbv hcp1
          have Hnx := Lib.hid hnx
          have Hbv := Lib.hid hbv
          have Hi := Lib.hid hi
          have Hz0 := Lib.hid hz0
          have Hz1 := Lib.hid hz1
          have Hz2 := Lib.hid hz2
          clear hats hitl hit hnx hbv hitn hi hz0 hz1 hz2
          have hbase := Hla.out.le
          have Hbase := Lib.hid hbase
          have hm1 : nx + it.size ≤ maxLen := by unfold maxLen; omega
          have hm2 : nx + it.size ≤ 140737488355328 := by omega
          have hm3 : nx + it.size + 1 ≤ maxLen := by unfold maxLen; omega
          have hm4 : (nx + it.size + 1) * 1 ≤ 140737488355328 := by omega
          have hm5 : nx + it.size + 1 + at'.size ≤ maxLen := by unfold maxLen; omega
          have hm6 : nx + it.size + 1 + at'.size ≤ 140737488355328 := by omega
          have M1 := Lib.hid hm1
          have M2 := Lib.hid hm2
          have M3 := Lib.hid hm3
          have M4 := Lib.hid hm4
          have M5 := Lib.hid hm5
          have M6 := Lib.hid hm6
          clear hm1 hm2 hm3 hm4 hm5 hm6 hbase
          go_enter Tryz.func82, Tryz.ntmps82
          go_wp2_with fail
          refine (itoaW_any (at'.size : Int) (by omega) (by omega) base _ Hla.out).mono ?_
          rintro e w2 ⟨rfl, hc2⟩
          rw [← Hit.out]
          have Hc2 := Lib.hid hc2
          have Ho2 := Lib.hid (Hoa.out.keepB hc2)
          have Hblk2 := Lib.hid (row_kept hc2 Hblk.out id)
          have hb2 : base ≤ w2.heap.size := Nat.le_trans Hbase.out hc2.size
          have hown0 : w2.ownsRow base 5 1 bv nx (bytesV xs) := by have := Ho2.out; unfold Own at this; rw [← Hnx.out] at this; exact this
          have Hown0 := Lib.hid hown0
          clear hc2 hown0
          go_wp2_with (at_builtin; refine Lib.wpList_append_own_string _ rfl _ _ 86 9 rfl base 5 i0 Tryz.underlying86 Tryz.underlying9 Hi.out Hz0.out Hz1.out Hz2.out bv nx _ rfl Hown0.out it rfl M1.out M2.out hb2 ?_)
          intro va w3 hown3 hgr3 hnil3
          have ho3 : Own w3 base va (xs ++ it.data.toList) := Own.app Hnx.out Hitn.out.symm (str_bytes it) hown3
          have Hown3 := Lib.hid hown3
          have Hc3 := Lib.hid (AbB.grown Ho2.out hgr3)
          have Hk3 := Lib.hid (Kp.grown Ho2.out hgr3)
          have Ho3 := Lib.hid ho3
          have hb3 : base ≤ w3.heap.size := Nat.le_trans hb2 hgr3.size
          obtain ⟨ad3, n3, cap3, hva⟩ := ho3.shape2
          have Hva := Lib.hid hva
          clear hown3 hgr3 hnil3 ho3 hva hb2
          have hown3' : (w3.alloc (.cells #[.int .u8 58] 5)).ownsRow base 5 1 va (nx + it.size) (bytesV xs ++ Lib.strCells it) := by
            have h1 := Ho3.out.keepB ((Chg.refl NoB w3).alloc (.cells #[.int .u8 58] 5))
            unfold Own at h1
            rw [bytesV_append, List.length_append, ← Hnx.out, Hitn.out] at h1
            exact h1
          have Hown3' := Lib.hid hown3'
          have hb3' : base ≤ (w3.alloc (.cells #[.int .u8 58] 5)).heap.size := Nat.le_trans hb3 ((Chg.refl NoB w3).alloc (.cells #[.int .u8 58] 5)).size
          clear hown3'
          rw [Hva.out] at Hown3'
          rw [Hva.out]
          go_wp2_with (at_builtin; refine wpList_append_own _ rfl _ _ 86 rfl base 5 i0 (.int .u8 0) 1 1 Tryz.underlying86 Hi.out Hz0.out Hz1.out Hz2.out rfl (by decide) _ (nx + it.size) _ rfl Hown3'.out ⟨w3.heap.size, 0, none⟩ 1 1 [.int .u8 58] rfl rfl (lit_one w3 58) (one_u8 58) M3.out M4.out hb3' ?_)
          intro vc w4 hown4 hgr4 hnil4
          rw [← Hva.out] at hgr4
          have hal3 := (Chg.refl NoB w3).alloc (.cells #[.int .u8 58] 5)
          have hoB := Ho3.out.keepB hal3
          have ho4 : Own w4 base vc (xs ++ (it.data.toList ++ [58])) := by
            exact Own.app (m := it.size + 1) Hnx.out (by rw [List.length_append, Hitn.out]; rfl) (by rw [bytesV_append]; rfl) hown4
          have Hc4 := Lib.hid (show Chg (AbB base) w3 w4 from (hal3.mono fun _ _ x => x.elim).trans (AbB.grown hoB hgr4))
          have hk4 : Kp w3 w4 := (Kp.of hal3).trans (Kp.grown hoB hgr4)
          have hblk4 := hk4 _ _ _ (by decide) (by decide) (Hk3.out _ _ _ (by decide) (by decide) Hblk2.out)
          obtain ⟨_, u1, _⟩ := var3 hblk4
          have Hk4 := Lib.hid hk4
          have Ho4 := Lib.hid ho4
          have hb4 : base ≤ w4.heap.size := Nat.le_trans hb3 Hc4.out.size
          obtain ⟨ad4, n4, cap4, hvc⟩ := ho4.shape2
          have Hvc := Lib.hid hvc
          have hown4' : w4.ownsRow base 5 1 vc (nx + it.size + 1) (bytesV (xs ++ (it.data.toList ++ [58]))) := by
            have h1 := ho4
            unfold Own at h1
            rw [List.length_append, List.length_append, ← Hnx.out, Hitn.out] at h1
            exact h1
          have Hown4' := Lib.hid hown4'
          clear hown4 hgr4 hnil4 hal3 hoB ho4 hk4 hblk4 hvc hown4'
          go_wp2_with (at_builtin; refine Lib.wpList_append_own_string _ rfl _ _ 86 9 rfl base 5 i0 Tryz.underlying86 Tryz.underlying9 Hi.out Hz0.out Hz1.out Hz2.out vc (nx + it.size + 1) _ rfl Hown4'.out at' rfl M5.out M6.out hb4 ?_)
          intro vd w5 hown5 hgr5 hnil5
          have ho5 : Own w5 base vd (xs ++ (it.data.toList ++ [58]) ++ at'.data.toList) := Own.app (n := nx + it.size + 1) (by rw [List.length_append, List.length_append, ← Hnx.out, Hitn.out]; rfl) Hats.out.symm (str_bytes at') hown5
          have hsame : xs ++ (it.data.toList ++ [58]) ++ at'.data.toList = xs ++ atomB at'.data.toList := by
            unfold atomB
            rw [Hitl.out, Hats.out]
            simp
          rw [hsame] at ho5
          have Ho5 := Lib.hid ho5
          have Hc5 := Lib.hid (AbB.grown Ho4.out hgr5)
          have Hk5 := Lib.hid (Kp.grown Ho4.out hgr5)
          have hal5 : (xs ++ atomB at'.data.toList).length ≤ 1099511627776 := by
            have h1 := congrArg List.length hsame
            simp only [List.length_append, List.length_cons, List.length_nil, Hitn.out, Hats.out, ← Hnx.out] at h1
            rw [List.length_append, ← Hnx.out, ← h1]
            omega
          have Hal5 := Lib.hid hal5
          clear hown5 hgr5 hnil5 ho5 hsame hal5
          cases hrm : room (xs ++ atomB at'.data.toList) with
          | error y =>
            rw [hrm] at Hput
            have Hrm := Lib.hid (room_no base vd _ y w5 Ho5.out Hal5.out hrm)
            clear hrm
            go_wp2_with fail
            refine Hrm.out.mono ?_
            rintro e w6 ⟨rfl, rfl⟩
            go_wp2_with fail
            go_ret2
            refine ⟨HalB.out.trans ((Hc2.out.mono fun _ _ x => x.elim).trans (Hc3.out.trans (Hc4.out.trans Hc5.out))), HalK.out.trans ((Kp.of Hc2.out).trans (Hk3.out.trans (Hk4.out.trans Hk5.out))), ?_⟩
            rw [Hput.out]
            rfl
          | ok zs =>
            rw [hrm] at Hput
            obtain ⟨hzs, _⟩ := room_ok hrm
            have Hzs := Lib.hid hzs
            have Hrm := Lib.hid (room_yes base vd _ zs w5 Ho5.out Hal5.out hrm)
            clear hrm hzs
            go_wp2_with fail
            refine Hrm.out.mono ?_
            rintro e w6 ⟨rfl, rfl⟩
            go_wp2_with fail
            go_ret2
            refine ⟨HalB.out.trans ((Hc2.out.mono fun _ _ x => x.elim).trans (Hc3.out.trans (Hc4.out.trans Hc5.out))), HalK.out.trans ((Kp.of Hc2.out).trans (Hk3.out.trans (Hk4.out.trans Hk5.out))), ?_⟩
            rw [Hput.out]
            exact ⟨vd, rfl, by rw [Hzs.out]; exact Ho5.out⟩
      · have hm0 : 0 < m := by omega
        have hput : putN (.mk true at' ks) d xs = .error 1 := by
          have hne : ks ≠ [] := by
            rintro rfl
            have := Hm.out
            rw [List.length_nil] at this
            omega
          rw [putN]
          simp only [if_true]
          rw [if_neg (by rw [List.isEmpty_iff]; exact hne)]
        have Hput := Lib.hid hput
        clear hput hk0
        go_enter Tryz.func82, Tryz.ntmps82
        go_wp2_with fail
        go_ret2
        refine ⟨HalB.out, HalK.out, ?_⟩
        rw [Hput.out]
        rfl
    | false =>
      by_cases ha0 : at'.size = 0
      · obtain rfl := empty_of_size ha0
        by_cases hd32 : d < 32
        · have hput := put_list ks d xs hd32
          have Hput := Lib.hid hput
          obtain ⟨i0, hi, hz0, hz1, hz2⟩ := info_parts info5
          obtain ⟨nx, hnx⟩ : ∃ n, n = xs.length := ⟨_, rfl⟩
          have hx0 := Lib.hid hx
          rw [← hnx] at hx hbv hcp1
          have Hnx := Lib.hid hnx
          have Hi := Lib.hid hi
          have Hz0 := Lib.hid hz0
          have Hz1 := Lib.hid hz1
          have Hz2 := Lib.hid hz2
          have M1 := Lib.hid (show nx + 1 ≤ maxLen by unfold maxLen; omega)
          have M2 := Lib.hid (show (nx + 1) * 1 ≤ 140737488355328 by omega)
          clear hput hnx hi hz0 hz1 hz2 hbv ha0 hx
          obtain ⟨vb, hvb⟩ : ∃ vb, vb = w.heap.size := ⟨_, rfl⟩
          rw [← hvb] at v0 v1 v2 Hblk
          have Hvb := Lib.hid hvb
          clear hvb
          go_enter Tryz.func82, Tryz.ntmps82
          go_upto_region 14 with fail
          rw [← Hvb.out]
          generalize w.alloc (.cells #[.bool false, .string ⟨#[]⟩, .slice q m c] 71) = w1 at *
          have hal1 := (Chg.refl NoB w1).alloc (.cells #[.int .u8 40] 5)
          have hb1 : base ≤ (w1.alloc (.cells #[.int .u8 40] 5)).heap.size := Nat.le_trans Hla.out.le hal1.size
          have hoA := Hoa.out.keepB hal1
          have HoA := Lib.hid hoA
          have Hal1 := Lib.hid hal1
          have hownA : (w1.alloc (.cells #[.int .u8 40] 5)).ownsRow base 5 1 bv nx (bytesV xs) := by have := hoA; unfold Own at this; rw [← Hnx.out] at this; exact this
          have HownA := Lib.hid hownA
          clear hal1 hoA hownA
          go_wp2_with (at_builtin; refine wpList_append_own _ rfl _ _ 86 rfl base 5 i0 (.int .u8 0) 1 1 Tryz.underlying86 Hi.out Hz0.out Hz1.out Hz2.out rfl (by decide) _ nx _ rfl HownA.out ⟨w1.heap.size, 0, none⟩ 1 1 [.int .u8 40] rfl rfl (lit_one _ 40) (one_u8 40) M1.out M2.out hb1 ?_)
          intro va w3 hown3 hgr3 hnil3
          have ho3 : Own w3 base va (xs ++ [40]) := Own.app (m := 1) Hnx.out rfl rfl hown3
          have Hc3 := Lib.hid (show Chg (AbB base) w w3 from HalB.out.trans ((Hal1.out.mono fun _ _ x => x.elim).trans (AbB.grown HoA.out hgr3)))
          have hk3 : Kp w1 w3 := (Kp.of Hal1.out).trans (Kp.grown HoA.out hgr3)
          have Hk3 := Lib.hid (HalK.out.trans hk3)
          have Hblk3 := Lib.hid (hk3 _ _ _ (by decide) (by decide) Hblk.out)
          have Hroom := Lib.hid (room_st base va xs ks d w3 ho3 hx0.out)
          clear hown3 hgr3 hnil3 ho3 hk3
          go_wp2_with fail
          refine Hroom.out.mono ?_
          rintro e w4 ⟨rfl, bv4, y0, rfl, hst⟩
          have Hst := Lib.hid hst
          clear hst
          have hmle : m ≤ 1048576 := by omega
          go_wp2_with fail
          clear v0 v1 v2
          have HST : ∀ x, S x → ¬ AbB base x := fun x hx hb => by have := HS.out x hx; unfold AbB at hb; omega
          go_loopw [0, 8, 9] (fun bv ev i wr => ∃ (k : Nat) (y : Int), k ≤ m ∧ i = .int .i64 k ∧ ev = .int .i64 y ∧ LpSt base (openR ks d xs) ks d k bv y wr ∧ Chg (AbB base) w wr ∧ Kp w wr ∧ wr.heap[vb]? = some (.cells #[.bool false, .string ⟨#[]⟩, .slice q m c] 71 (0, 0))) (fun _ _ i _ => m - (intOf i).toNat)
          case atStart => exact ⟨0, y0, Nat.zero_le _, rfl, rfl, Hst.out, Hc3.out, Hk3.out, Hblk3.out⟩
          case round =>
            obtain ⟨k, y, hk, rfl, rfl, hst, hch, hkp, hbk⟩ := hrel
            obtain ⟨_, _, v2⟩ := var3 hbk
            have Hst := Lib.hid hst
            have Hch := Lib.hid hch
            have Hkp := Lib.hid hkp
            have Hbk := Lib.hid hbk
            clear hch hkp hbk
            rcases hst with ⟨rfl, ys, hoy, hyl, hput⟩ | ⟨hy0, hy1, hR⟩
            · have Hoy := Lib.hid hoy
              have HputL := Lib.hid hput
              clear hoy hput
              by_cases hlt : k < m
              · have hlt' : k < ks.length := by rw [← Hm.out]; exact hlt
                obtain ⟨_, hca, s', kb', ko', c0, c1, c2, hs'⟩ := ((Hk.out k hlt').keep Hch.out HST).cells
                have hs2 := hs'
                obtain ⟨⟨q', c', hsq', h5, h6, h7⟩, h8⟩ := hs'
                subst hsq'
                have hqe := Hq.out (by intro e; rw [e] at hlt'; simp at hlt')
                subst hqe
                have hcnt : ks[k].count ≤ N := Nat.le_trans (Nd.counts_get ks k hlt') (by omega)
                have hv : NdV wr S (.agg #[.bool ks[k].leaf, .string ks[k].atom, .slice q' ks[k].kids.length c']) ks[k] := ⟨hca, _, kb', ko', rfl, hs2⟩
                have hdrop : putL (ks.drop k) (d + 1) ys = match putN ks[k] (d + 1) ys with | .error e => .error e | .ok b1 => putL (ks.drop (k + 1)) (d + 1) b1 := by
                  rw [drop_get ks k hlt', putL]
                  cases putN ks[k] (d + 1) ys <;> rfl
                have Hdrop := Lib.hid hdrop
                have Hnode := Lib.hid (IH.out ks[k] hcnt S _ (d + 1) _ ys base wr hv HS.out Hoy.out (Hl.out.chg Hch.out fun _ x => x) hyl (by omega))
                clear hv hs2 hcnt hdrop h5 h6 h7 h8 hca
                generalize ks[k] = kd at *
                cases hp : putN kd (d + 1) ys with
                | error z =>
                  obtain ⟨z0, z1⟩ := putN_err _ _ _ _ hp
                  rw [hp] at Hnode
                  have hR : openR ks d xs = .error z := by rw [← HputL.out, Hdrop.out, hp]
                  have HR := Lib.hid hR
                  clear hp hR
                  go_wp2_with fail
                  refine Hnode.out.mono ?_
                  rintro e w5 ⟨hc5, hk5, rfl⟩
                  have Hc5 := Lib.hid hc5
                  have Hk5 := Lib.hid hk5
                  clear hc5 hk5
                  go_wp2_with fail
                  go_roundw
                  case rel => exact ⟨k + 1, z, by omega, by go_num, rfl, .inr ⟨z0, z1, HR.out⟩, Hch.out.trans Hc5.out, Hkp.out.trans Hk5.out, Hk5.out _ _ _ (by decide) (by decide) Hbk.out⟩
                  case measure => simp [intOf]; omega
                | ok zs =>
                  have hzl := (putN_ok _ _ _ _ hp).2.2
                  rw [hp] at Hnode
                  have hR : putL (ks.drop (k + 1)) (d + 1) zs = openR ks d xs := by rw [← HputL.out, Hdrop.out, hp]
                  have HR := Lib.hid hR
                  clear hp hR
                  go_wp2_with fail
                  refine Hnode.out.mono ?_
                  rintro e w5 ⟨hc5, hk5, v5, rfl, ho5⟩
                  have Hc5 := Lib.hid hc5
                  have Hk5 := Lib.hid hk5
                  have Ho5 := Lib.hid ho5
                  clear hc5 hk5 ho5
                  go_wp2_with fail
                  go_roundw
                  case rel => exact ⟨k + 1, 0, by omega, by go_num, rfl, .inl ⟨rfl, zs, Ho5.out, hzl, HR.out⟩, Hch.out.trans Hc5.out, Hkp.out.trans Hk5.out, Hk5.out _ _ _ (by decide) (by decide) Hbk.out⟩
                  case measure => simp [intOf]; omega
              · obtain rfl : k = m := by omega
                have hput := HputL.out
                rw [Hm.out, List.drop_length, putL] at hput
                have hfin : putN (.mk false ⟨#[]⟩ ks) d xs = room (ys ++ [41]) := by rw [Hput.out, ← hput]
                have Hfin := Lib.hid hfin
                obtain ⟨ny, hny⟩ : ∃ n, n = ys.length := ⟨_, rfl⟩
                have Hny := Lib.hid hny
                have hyl2 : ny ≤ 65536 := by omega
                have N1 := Lib.hid (show ny + 1 ≤ maxLen by unfold maxLen; omega)
                have N2 := Lib.hid (show (ny + 1) * 1 ≤ 140737488355328 by omega)
                have hal6 := (Chg.refl NoB wr).alloc (.cells #[.int .u8 41] 5)
                have hb6 : base ≤ (wr.alloc (.cells #[.int .u8 41] 5)).heap.size := Nat.le_trans (Hl.out.chg Hch.out fun _ x => x).le hal6.size
                have hoA := Hoy.out.keepB hal6
                have HoB := Lib.hid hoA
                have Hal6 := Lib.hid hal6
                have hownB := hoA
                unfold Own at hownB
                rw [← Hny.out] at hownB
                have HownB := Lib.hid hownB
                clear hput hfin hny hal6 hoA hownB
                go_wp2_with (at_builtin; refine wpList_append_own _ rfl _ _ 86 rfl base 5 i0 (.int .u8 0) 1 1 Tryz.underlying86 Hi.out Hz0.out Hz1.out Hz2.out rfl (by decide) _ ny _ rfl HownB.out ⟨wr.heap.size, 0, none⟩ 1 1 [.int .u8 41] rfl rfl (lit_one _ 41) (one_u8 41) N1.out N2.out hb6 ?_)
                intro v7 w7 hown7 hgr7 hnil7
                have ho7 : Own w7 base v7 (ys ++ [41]) := Own.app (m := 1) Hny.out rfl rfl hown7
                have Hc7 := Lib.hid (show Chg (AbB base) wr w7 from (Hal6.out.mono fun _ _ x => x.elim).trans (AbB.grown HoB.out hgr7))
                have Hk7 := Lib.hid (show Kp wr w7 from (Kp.of Hal6.out).trans (Kp.grown HoB.out hgr7))
                have hl7 : (ys ++ [41]).length ≤ 1099511627776 := by simp; omega
                have Ho7 := Lib.hid ho7
                have Hl7 := Lib.hid hl7
                clear hown7 hgr7 hnil7 ho7 hl7
                cases hrm : room (ys ++ [41]) with
                | error y =>
                  rw [hrm] at Hfin
                  have Hrm := Lib.hid (room_no base v7 _ y w7 Ho7.out Hl7.out hrm)
                  clear hrm
                  go_wp2_with fail
                  refine Hrm.out.mono ?_
                  rintro e w8 ⟨rfl, rfl⟩
                  go_wp2_with fail
                  go_ret2
                  refine ⟨Hch.out.trans Hc7.out, Hkp.out.trans Hk7.out, ?_⟩
                  rw [Hfin.out]
                  rfl
                | ok zs =>
                  rw [hrm] at Hfin
                  obtain ⟨hzs, _⟩ := room_ok hrm
                  have Hzs := Lib.hid hzs
                  have Hrm := Lib.hid (room_yes base v7 _ zs w7 Ho7.out Hl7.out hrm)
                  clear hrm hzs
                  go_wp2_with fail
                  refine Hrm.out.mono ?_
                  rintro e w8 ⟨rfl, rfl⟩
                  go_wp2_with fail
                  go_ret2
                  refine ⟨Hch.out.trans Hc7.out, Hkp.out.trans Hk7.out, ?_⟩
                  rw [Hfin.out]
                  exact ⟨v7, rfl, by rw [Hzs.out]; exact Ho7.out⟩
            · have hyb : (y == 0) = false := by rw [beq_eq_false_iff_ne]; omega
              have hR' : putN (.mk false ⟨#[]⟩ ks) d xs = .error y := by rw [Hput.out, hR]
              have HR := Lib.hid hR'
              clear hR hR'
              by_cases hlt : k < m
              · go_wp2_with fail
                go_ret2
                refine ⟨Hch.out, Hkp.out, ?_⟩
                rw [HR.out]
                rfl
              · obtain rfl : k = m := by omega
                go_wp2_with fail
                go_ret2
                refine ⟨Hch.out, Hkp.out, ?_⟩
                rw [HR.out]
                rfl
        · have hput : putN (.mk false ⟨#[]⟩ ks) d xs = .error 4 := by
            rw [putN]
            simp only [Bool.false_eq_true, if_false]
            rw [if_neg (by rw [ha0]; decide), if_pos (by omega)]
          have Hput := Lib.hid hput
          have hd32' : d = 32 := by omega
          subst hd32'
          clear hput ha0
          go_enter Tryz.func82, Tryz.ntmps82
          go_wp2_with fail
          go_ret2
          refine ⟨HalB.out, HalK.out, ?_⟩
          rw [Hput.out]
          rfl
      · have hput : putN (.mk false at' ks) d xs = .error 1 := by
          rw [putN]
          simp only [Bool.false_eq_true, if_false]
          rw [if_pos ha0]
        have Hput := Lib.hid hput
        have hemp : at'.toList.isEmpty = false := by
          rw [Lib.toList_data, List.isEmpty_eq_false_iff]
          intro e
          have : at'.data.toList.length = at'.size := by simp
          rw [e, List.length_nil] at this
          exact ha0 this.symm
        clear hput
        go_enter Tryz.func82, Tryz.ntmps82
        go_wp2_with fail
        go_ret2
        refine ⟨HalB.out, HalK.out, ?_⟩
        rw [Hput.out]
        rfl
/- what an encoding answers -/
def EncP (r : Except Int (List UInt8)) (w : World) (e : Ending) (w' : World) : Prop := Chg NoB w w' ∧ match r with
  | .error y => e = .returned (.tuple #[.string (tx []), .int .i64 y])
  | .ok ys => e = .returned (.tuple #[.string (tx ys), .int .i64 0])
theorem chg_up {base : Nat} {w w' : World} (h : Chg (AbB base) w w') (hb : w.heap.size ≤ base) : Chg NoB w w' := ⟨h.os, h.tape, h.output, h.size, fun k hk _ => h.block k hk fun x => by unfold AbB at x; omega⟩
theorem Own.nilB (w : World) (base : Nat) : Own w base (.slice none 0 0) [] := ⟨rfl, .inl ⟨rfl, rfl⟩⟩
set_option maxHeartbeats 1000000 in
theorem encR_any (n : Nd) (hn : n.count ≤ 1048576) (S : Nat → Prop) (v : Value) (w : World) (hv : NdV w S v n) (hS : ∀ k, S k → k < w.heap.size) (hl : Lw w.heap.size w) :
    Calls Tryz.prog 61 #[v] w (EncP (putN n 0 []) w) := by
  have Hv := Lib.hid hv
  obtain ⟨ha, s, kb, ko, rfl, hs⟩ := hv
  have hal := (Chg.refl NoB w).alloc (.cells #[.bool n.leaf, .string n.atom, s] 71)
  obtain ⟨⟨q, c, rfl, hkc, hcm, hqq⟩, hk⟩ := hs
  obtain ⟨v0, v1, v2⟩ := var3 (heap_alloc_new w (.cells #[.bool n.leaf, .string n.atom, .slice q n.kids.length c] 71))
  have hl1 := hl.keep hal
  have Hput := Lib.hid (put_any 1048576 (Nat.le_refl _) n hn S _ 0 (.slice none 0 0) [] w.heap.size _ (Hv.out.keep hal fun _ _ => id) hS (Own.nilB _ _) hl1 (by decide) (by decide))
  have Hal := Lib.hid hal
  clear hk hqq hal hS hl hl1
  cases hp : putN n 0 [] with
  | error y =>
    rw [hp] at Hput
    have Hp := Lib.hid hp
    clear hp
    go_enter Tryz.func61, Tryz.ntmps61
    go_wp2_with fail
    refine Hput.out.mono ?_
    rintro e w2 ⟨hc2, _, rfl⟩
    have Hc2 := Lib.hid hc2
    have hcv := (Own.nilB w2 0).src.conv
    clear hc2
    go_wp2_with fail
    go_ret2
    exact ⟨chg_up ((Hal.out.mono fun _ _ x => x.elim).trans Hc2.out) (Nat.le_refl _), rfl⟩
  | ok ys =>
    rw [hp] at Hput
    have Hp := Lib.hid hp
    clear hp
    go_enter Tryz.func61, Tryz.ntmps61
    go_wp2_with fail
    refine Hput.out.mono ?_
    rintro e w2 ⟨hc2, _, v2, rfl, ho⟩
    have Hc2 := Lib.hid hc2
    have hcv := ho.src.conv
    obtain ⟨ad, n2, cap, rfl⟩ := ho.shape2
    clear hc2 ho
    go_wp2_with fail
    go_ret2
    exact ⟨chg_up ((Hal.out.mono fun _ _ x => x.elim).trans Hc2.out) (Nat.le_refl _), rfl⟩
set_option maxHeartbeats 1000000 in
theorem enc_any (n : Nd) (hn : n.count ≤ 1048576) (S : Nat → Prop) (v : Value) (w : World) (hv : NdV w S v n) (hS : ∀ k, S k → k < w.heap.size) (hl : Lw w.heap.size w) :
    Calls Tryz.prog 60 #[v] w (EncP (putN n 0 []) w) := by
  have Hv := Lib.hid hv
  obtain ⟨ha, s, kb, ko, rfl, hs⟩ := hv
  have hal := (Chg.refl NoB w).alloc (.cells #[.bool n.leaf, .string n.atom, s] 71)
  obtain ⟨⟨q, c, rfl, hkc, hcm, hqq⟩, hk⟩ := hs
  have hblk := heap_alloc_new w (.cells #[.bool n.leaf, .string n.atom, .slice q n.kids.length c] 71)
  obtain ⟨vb, hvb⟩ : ∃ vb, vb = w.heap.size := ⟨_, rfl⟩
  have Hvb := Lib.hid hvb
  rw [← hvb] at hblk
  have Hblk := Lib.hid hblk
  have hl1 := Lib.hid (hl.keep hal)
  have HvA := Lib.hid (Hv.out.keep hal fun _ _ => id)
  have Hal := Lib.hid hal
  have HS := Lib.hid hS
  clear hk hqq hal hS hl hvb hblk
  go_enter Tryz.func60, Tryz.ntmps60
  go_upto_region 1 with fail
  rw [← Hvb.out]
  generalize w.alloc (.cells #[.bool n.leaf, .string n.atom, .slice q n.kids.length c] 71) = w1 at *
  have hal2 := (Chg.refl NoB w1).alloc (.cells #[.slice none 0 0] 88)
  obtain ⟨v0, v1, v2⟩ := var3 (row_kept hal2 Hblk.out id)
  have hw0 : w.heap.size ≤ w1.heap.size := Hal.out.size
  have hwr : Wr (w1.alloc (.cells #[.slice none 0 0] 88)) w.heap.size w1.heap.size [] := ⟨hw0, _, heap_alloc_new w1 _, Own.nilB _ _⟩
  have Hnode := Lib.hid (node_any 1048576 (Nat.le_refl _) n hn S _ 0 [] w.heap.size w1.heap.size _ (HvA.out.keep hal2 fun _ _ => id) HS.out hwr (hl1.out.keep hal2) (by decide) (by decide))
  have Hal2 := Lib.hid hal2
  clear hal2 hwr hw0
  cases hp : putN n 0 [] with
  | error y =>
    obtain ⟨y0, y1⟩ := putN_err _ _ _ _ hp
    have hyb : (y == 0) = false := by rw [beq_eq_false_iff_ne]; omega
    rw [hp] at Hnode
    have Hp := Lib.hid hp
    clear hp
    go_wp2_with fail
    refine Hnode.out.mono ?_
    rintro e w2 ⟨hc2, rfl⟩
    have Hc2 := Lib.hid hc2
    clear hc2
    go_wp2_with fail
    go_ret2
    refine ⟨chg_up ((Hal.out.mono fun _ _ x => x.elim).trans ((Hal2.out.mono fun _ _ x => x.elim).trans Hc2.out)) (Nat.le_refl _), ?_⟩
    rw [Hp.out]
    rfl
  | ok ys =>
    rw [hp] at Hnode
    have Hp := Lib.hid hp
    clear hp
    go_wp2_with fail
    refine Hnode.out.mono ?_
    rintro e w2 ⟨hc2, rfl, _, v3, hr3, ho3⟩
    have Hc2 := Lib.hid hc2
    have hcv := ho3.src.conv
    have hcl : w2.cell? ⟨w1.heap.size, 0, none⟩ = some v3 := by rw [cell_of_row _ _ 0 _ _ (0, 0) hr3]; rfl
    obtain ⟨ad, n2, cap, rfl⟩ := ho3.shape2
    clear hc2 ho3 hr3
    go_wp2_with fail
    go_ret2
    refine ⟨chg_up ((Hal.out.mono fun _ _ x => x.elim).trans ((Hal2.out.mono fun _ _ x => x.elim).trans Hc2.out)) (Nat.le_refl _), ?_⟩
    rw [Hp.out]
    rfl
end Go.Proofs.YtilkcjcmcnlfnaaGreatDoor
