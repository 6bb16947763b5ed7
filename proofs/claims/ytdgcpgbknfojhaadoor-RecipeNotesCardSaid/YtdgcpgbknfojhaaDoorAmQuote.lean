/- The contracts of a text between quotes: the program's plain, Text, first, Cut, Whole. Condition: the text is not too long. -/
import Derived.Test.YtdgcpgbknfojhaaDoorAmQuo
import Derived.Test.YtdgcpgbknfojhaaDoorNdLib
import Derived.Test.YtdgcpgbknfojhaaDoorCdBase
import Derived.OwnWalk
import Derived.Laws.OwnMore
import Derived.RegionTactic
import Derived.Deep.QuietTactic
import Derived.BigQuiet

namespace Go.Proofs.YtdgcpgbknfojhaaDoor
set_option linter.unusedVariables false
open Go.ChangeShapes Go.WideShapes Go.ChangeAt Go.RowKit
theorem u8_info : (Tryd.prog.info? 5).map (fun i => (i.zero, i.size, i.bytes)) = some (some (.int .u8 0), 1, 1) := by kernel_rfl
theorem bytesV_one (l : List UInt8) : ∀ u ∈ bytesV l, u.oneCell' = true := by
  intro u hu
  obtain ⟨c, _, rfl⟩ := List.mem_map.1 hu
  rfl
/- bytes that were just laid, put behind bytes of the call's own -/
theorem wpList_lit {w : World} {ops : Array Oper} {rest : List Oper} {o : Oper} {a : Act} {Q : Exit → Act → World → Prop} (hgd : o.guard = none) (s x : Operand)
    (ho : o.op = .call { callee := .builtin .append, args := #[s, x], argTypes := #[69, 69] })
    {base n : Nat} {v : Value} {l ys : List UInt8} {b m : Nat} (hs : a.eval s = v) (hm : ys.length = m) (hx : a.eval x = .slice (some ⟨b, 0, none⟩) m m) (hn : n = l.length) (hown : w.ownsRow base 5 1 v n (bytesV l)) (hb : w.heap[b]? = some (.cells (bytesV ys).toArray 5 (0, 0))) (hl : n + m ≤ 1048576) (hbase : base ≤ w.heap.size)
    (h : ∀ v' w', Own w' base v' (l ++ ys) → Chg (fun j => v.ownBlock = some j) w w' → wpList Tryd.prog ops Q rest (a.put o.dst v') w') : wpList Tryd.prog ops Q (o :: rest) a w := by
  obtain ⟨i0, hi, hz0, hz1, hz2⟩ := info_parts u8_info
  refine wpList_append_own w hgd s x 69 ho base 5 i0 (.int .u8 0) 1 1 Tryd.underlying69 hi hz0 hz1 hz2 rfl (by decide) v n (bytesV l) hs hown ⟨b, 0, none⟩ m m (bytesV ys) hx (by rw [bytesV_len, hm]; omega) (fun j u hj => ?_) (bytesV_one ys) (by unfold maxLen; omega) (by omega) hbase ?_
  · rw [add_zero_off, cell_of_row w b j _ _ (0, 0) hb, List.getElem?_toArray]
    exact hj
  · intro v' w' h1 h2 _
    refine h v' w' ?_ ((Chg.refl _ w).grown h2 fun j hj => .inl hj)
    unfold Own
    rw [List.length_append, bytesV_append, hm, ← hn]
    exact h1
/- the same, where an order is drawn -/
theorem step_lit {ops : Array Oper} {o : Oper} {a : Act} {K : Act → World → Prop} {Q : Exit → Act → World → Prop} {E : Prop} (hgd : o.guard = none) (z : World) (s x : Operand)
    (ho : o.op = .call { callee := .builtin .append, args := #[s, x], argTypes := #[69, 69] }) (base n : Nat) (v : Value) (l ys : List UInt8) (m : Nat) (cs : Array Value) (hcs : cs = (bytesV ys).toArray) (hm : ys.length = m)
    (hs : a.eval s = v) (hx : a.eval x = .slice (some ⟨z.heap.size, 0, none⟩) m m) (hn : n = l.length) (hown : z.ownsRow base 5 1 v n (bytesV l)) (hl : n + m ≤ 1048576) (hbase : base ≤ z.heap.size)
    (h : ∀ v' w', Own w' base v' (l ++ ys) → Chg (fun j => v.ownBlock = some j) z w' → K (a.put o.dst v') w') :
    if Region.wanted o (yielded ops a.tmps) = true then Oper.wp Tryd.prog o a (z.alloc (.cells cs 5)).drew K Q else E := by
  obtain ⟨i0, hi, hz0, hz1, hz2⟩ := info_parts u8_info
  have hal := (Chg.refl NoB z).alloc (.cells cs 5)
  refine step_append_at hgd _ s x 69 ho base 5 i0 (.int .u8 0) 1 1 Tryd.underlying69 hi hz0 hz1 hz2 rfl (by decide) v n (bytesV l) hs (ownsRow_chg hown hal.drew fun _ _ => id) ⟨z.heap.size, 0, none⟩ m m (bytesV ys) hx (by rw [bytesV_len, hm]; omega) (fun j u hj => ?_) (bytesV_one ys) (by unfold maxLen; omega) (by omega) (Nat.le_trans hbase hal.size) ?_
  · rw [add_zero_off]
    show (z.alloc (.cells cs 5)).cell? ⟨z.heap.size, j, none⟩ = some u
    rw [cell_of_row _ z.heap.size j _ _ (0, 0) (heap_alloc_new z _), hcs, List.getElem?_toArray]
    exact hj
  · intro v' w' h1 h2 _
    refine h v' w' ?_ ((hal.drew.mono fun _ _ h => h.elim).trans ((Chg.refl _ _).grown h2 fun j hj => .inl hj))
    unfold Own
    rw [List.length_append, bytesV_append, hm, ← hn]
    exact h1
theorem and_all : (List.range 256).all (fun n => bits .and .u8 (n : Int) 15 == ((n % 16 : Nat) : Int)) = true := by kernel_rfl
theorem and_15 (c : UInt8) : bits .and .u8 (c.toNat : Int) 15 = ((c.toNat % 16 : Nat) : Int) := by
  have := List.all_eq_true.1 and_all c.toNat (List.mem_range.2 c.toNat_lt)
  simpa using this
theorem hexB_all : (List.range 16).all (fun k => (⟨#[48, 49, 50, 51, 52, 53, 54, 55, 56, 57, 97, 98, 99, 100, 101, 102]⟩ : ByteArray).get! k == hexT.getD k 0) = true := by decide
theorem hexB {k : Nat} (h : k < (⟨#[48, 49, 50, 51, 52, 53, 54, 55, 56, 57, 97, 98, 99, 100, 101, 102]⟩ : ByteArray).size) : (⟨#[48, 49, 50, 51, 52, 53, 54, 55, 56, 57, 97, 98, 99, 100, 101, 102]⟩ : ByteArray)[k] = hexT.getD k 0 := by
  have h16 : k < 16 := h
  have := List.all_eq_true.1 hexB_all k (List.mem_range.2 h16)
  rw [beq_iff_eq] at this
  rw [← this]
  simp [ByteArray.get!, ByteArray.getElem_eq_getElem_data, h16]
theorem plain_any (c : UInt8) (w : World) : Calls Tryd.prog 87 #[.int .u8 (c.toNat : Int)] w fun e w' => e = .returned (.bool (plainC c)) ∧ w' = w := by
  go_enter Tryd.func87, Tryd.ntmps87
  go_wp2_with fail
  all_goals
    go_ret
    refine ⟨retB ?_, rfl⟩
    rw [Bool.eq_iff_iff]
    simp only [plainC, Bool.and_eq_true, bne_iff_ne, decide_eq_true_eq, Bool.false_eq_true, false_iff, ne_eq]
    omega
def SayT (t : List UInt8) (w : World) (e : Ending) (w' : World) : Prop := e = .returned (.string (tx t)) ∧ Chg NoB w w'
theorem quoL_take (s : List UInt8) (k : Nat) (h : k < s.length) : quoL (s.take (k + 1)) = quoL (s.take k) ++ quoC s[k] := by
  unfold quoL
  rw [take_at h, List.map_append, List.flatten_append]
  simp
theorem quoL_le (s : List UInt8) (k : Nat) : (quoL (s.take k)).length ≤ 3 * s.length := by
  have h1 := quoL_len (s.take k)
  rw [List.length_take] at h1
  omega
set_option maxHeartbeats 4000000 in
set_option maxRecDepth 20000 in
theorem text_any (s : List UInt8) (w : World) (hs : s.length ≤ 131072) : Calls Tryd.prog 91 #[.string (tx s)] w (SayT (quoF s) w) := by
  have hal_ := (Chg.refl NoB w).alloc (.cells #[.int .u8 34] 5)
  have hb_ := heap_alloc_new w (.cells #[.int .u8 34] 5)
  obtain ⟨b1, hxb_⟩ : ∃ b, b = w.heap.size := ⟨_, rfl⟩
  obtain ⟨w1, hw_⟩ : ∃ w_, w.alloc (.cells #[.int .u8 34] 5) = w_ := ⟨_, rfl⟩
  have hz_ : w1.heap.size = b1 + 1 := by rw [← hw_, hxb_]; exact alloc_size _ _
  rw [hw_] at hal_ hb_
  rw [← hxb_] at hb_
  have Hw1 := Lib.hid hw_
  have Hx1 := Lib.hid hxb_
  have Ha1 := Lib.hid hal_
  have Hb1 := Lib.hid hb_
  have Hz1 := Lib.hid hz_
  clear hal_ hb_ hxb_ hw_ hz_
  have Hown0 := Lib.hid (show Own w1 w.heap.size (.slice (some ⟨b1, 0, none⟩) 1 1) (34 :: quoL []) from by
    rw [← Hw1.out, Hx1.out]; exact World.ownsRow_lit w #[.int .u8 34] 1 (Nat.le_refl _) (by decide) rfl)
  have hz : (tx s).size = s.length := tx_size s
  go_enter Tryd.func91, Tryd.ntmps91
  go_wp2_with fail
  go_loopw [3, 9] (fun o i wr => ∃ k : Nat, k ≤ s.length ∧ i = .int .i64 k ∧ Own wr w.heap.size o (34 :: quoL (s.take k)) ∧ Chg NoB w wr) (fun _ i _ => s.length - (intOf i).toNat)
  case atStart =>
    have h := Hown0.out
    rw [← Hx1.out] at h
    rw [Hw1.out, ← Hx1.out]
    exact ⟨0, Nat.zero_le _, rfl, h, Ha1.out⟩
  case round =>
    obtain ⟨k, hk, rfl, ho, hc⟩ := hrel
    obtain ⟨ad, cap, rfl, -, -, -⟩ := ho.shape
    have hql := quoL_le s k
    obtain ⟨n, hn⟩ : ∃ n, n = (34 :: quoL (s.take k)).length := ⟨_, rfl⟩
    have hnb : n ≤ 393217 := by rw [hn, List.length_cons]; omega
    unfold Own at ho
    rw [← hn] at ho ⊢
    have Hn := Lib.hid hn
    have Ho := Lib.hid ho
    have Hc := Lib.hid hc
    clear ho hc hn hql
    by_cases hlt : k < s.length
    · have hz : (tx s).size = s.length := tx_size s
      have hkk : k < (tx s).size := by omega
      obtain ⟨c, hcc⟩ : ∃ c, (tx s)[k] = c := ⟨_, rfl⟩
      have Hcc := Lib.hid hcc
      have Hqc := Lib.hid (show quoL (s.take (k + 1)) = quoL (s.take k) ++ quoC c from by rw [← hcc]; exact quoL_take s k hlt)
      have HP := Lib.hid (plain_any c wr)
      clear hcc
      go_wp2_with fail
      rw [Hcc.out]
      refine HP.out.mono ?_
      rintro e w' ⟨rfl, rfl⟩
      by_cases hpl : plainC c = true
      · rw [hpl]
        have hal_ := (Chg.refl NoB w').alloc (.cells #[.int .u8 (c.toNat : Int)] 5)
        have hb_ := heap_alloc_new w' (.cells #[.int .u8 (c.toNat : Int)] 5)
        obtain ⟨b2, hxb_⟩ : ∃ b, b = w'.heap.size := ⟨_, rfl⟩
        obtain ⟨w2, hw_⟩ : ∃ w_, w'.alloc (.cells #[.int .u8 (c.toNat : Int)] 5) = w_ := ⟨_, rfl⟩
        have hz_ : w2.heap.size = b2 + 1 := by rw [← hw_, hxb_]; exact alloc_size _ _
        rw [hw_] at hal_ hb_
        rw [← hxb_] at hb_
        have Hw2 := Lib.hid hw_
        have Hx2 := Lib.hid hxb_
        have Ha2 := Lib.hid hal_
        have Hb2 := Lib.hid hb_
        have Hz2 := Lib.hid hz_
        clear hal_ hb_ hxb_ hw_ hz_
        have Ho2 := Lib.hid (ownsRow_chg Ho.out Ha2.out fun _ _ => id)
        have Hbase := Lib.hid (show w.heap.size ≤ w2.heap.size from Nat.le_trans Hc.out.size Ha2.out.size)
        go_wp2_with (at_builtin; go_loud (rw [← Hx2.out, Hw2.out]); go_loud (refine wpList_lit (m := 1) (v := .slice ad n cap) (ys := [c]) rfl _ _ rfl rfl rfl rfl Hn.out Ho2.out Hb2.out (by omega) Hbase.out ?_); intro v3 w3 h3 hc3)
        have Ht := Lib.hid (show quoL (s.take (k + 1)) = quoL (s.take k) ++ [c] by rw [Hqc.out, quoC, if_pos hpl])
        go_roundw
        case rel => exact ⟨k + 1, by omega, by go_num, by rw [Ht.out]; exact h3, (Hc.out.trans Ha2.out).above hc3 fun j hj => (World.ownsRow.lt Ho2.out j hj).1⟩
        case measure => simp [intOf]; omega
      · rw [show plainC c = false by simpa using hpl]
        have hlc := c.toNat_lt
        obtain ⟨X, hX⟩ : ∃ X, X = c.toNat / 16 := ⟨_, rfl⟩
        obtain ⟨Y, hY⟩ : ∃ Y, Y = c.toNat % 16 := ⟨_, rfl⟩
        have q1 : (c.toNat : Int) / 16 = (X : Int) := by omega
        have q2 : bits .and .u8 (c.toNat : Int) 15 = (Y : Int) := by rw [and_15, hY]
        have q3 : X < 16 := by omega
        have q4 : Y < 16 := by omega
        have Hqx := Lib.hid (show quoC c = [92, hexT.getD X 0, hexT.getD Y 0] by rw [quoC, if_neg hpl, hX, hY])
        clear hX hY
        have n2 : n + 3 ≤ 1048576 := by omega
        have q5 : (X : Int) < 16 := by omega
        have q6 : (Y : Int) < 16 := by omega
        go_wp2_with fail
        go_region_law (refine step_lit (by rfl) w' (.tmp 21) (.tmp 28) (by rfl) w.heap.size n (.slice ad n cap) (34 :: quoL (s.take k)) [92, (⟨#[48, 49, 50, 51, 52, 53, 54, 55, 56, 57, 97, 98, 99, 100, 101, 102]⟩ : ByteArray)[X]'q3, (⟨#[48, 49, 50, 51, 52, 53, 54, 55, 56, 57, 97, 98, 99, 100, 101, 102]⟩ : ByteArray)[Y]'q4] 3 _ (by rfl) rfl (by rfl) (by rfl) Hn.out Ho.out n2 Hc.out.size ?_; intro v3 w3 h3 hc3)
        all_goals
          have Ht := Lib.hid (show quoL (s.take (k + 1)) = quoL (s.take k) ++ [92, hexT.getD X 0, hexT.getD Y 0] by rw [Hqc.out, Hqx.out])
          rw [hexB, hexB] at h3
          go_wp2_with fail
          go_roundw
          case rel => exact ⟨k + 1, by omega, by go_num, by rw [Ht.out]; exact h3, Hc.out.above hc3 fun j hj => (World.ownsRow.lt Ho.out j hj).1⟩
          case measure => simp [intOf]; omega
    · obtain rfl : k = s.length := by omega
      have Htk := Lib.hid (show s.take s.length = s from List.take_length)
      have hal_ := (Chg.refl NoB wr).alloc (.cells #[.int .u8 34] 5)
      have hb_ := heap_alloc_new wr (.cells #[.int .u8 34] 5)
      obtain ⟨b2, hxb_⟩ : ∃ b, b = wr.heap.size := ⟨_, rfl⟩
      obtain ⟨w2, hw_⟩ : ∃ w_, wr.alloc (.cells #[.int .u8 34] 5) = w_ := ⟨_, rfl⟩
      have hz_ : w2.heap.size = b2 + 1 := by rw [← hw_, hxb_]; exact alloc_size _ _
      rw [hw_] at hal_ hb_
      rw [← hxb_] at hb_
      have Hw2 := Lib.hid hw_
      have Hx2 := Lib.hid hxb_
      have Ha2 := Lib.hid hal_
      have Hb2 := Lib.hid hb_
      have Hz2 := Lib.hid hz_
      clear hal_ hb_ hxb_ hw_ hz_
      have Ho2 := Lib.hid (ownsRow_chg Ho.out Ha2.out fun _ _ => id)
      have Hbase := Lib.hid (show w.heap.size ≤ w2.heap.size from Nat.le_trans Hc.out.size Ha2.out.size)
      go_wp2_with (at_builtin; go_loud (rw [← Hx2.out, Hw2.out]); go_loud (refine wpList_lit (m := 1) (v := .slice ad n cap) (ys := [34]) rfl _ _ rfl rfl rfl rfl Hn.out Ho2.out Hb2.out (by omega) Hbase.out ?_); intro v3 w3 h3 hc3; have cv := h3.src.conv)
      go_ret
      refine ⟨?_, (Hc.out.trans Ha2.out).above hc3 fun j hj => (World.ownsRow.lt Ho2.out j hj).1⟩
      rfl
def hexI (b : UInt8) : Int := match hexC b with | some a => (a : Int) | none => -1
theorem hexI_all : (List.range 256).all (fun n => Lib.indexByte [48, 49, 50, 51, 52, 53, 54, 55, 56, 57, 97, 98, 99, 100, 101, 102] n.toUInt8 == hexI n.toUInt8) = true := by decide +kernel
theorem hexI_idx (b : UInt8) : Lib.indexByte [48, 49, 50, 51, 52, 53, 54, 55, 56, 57, 97, 98, 99, 100, 101, 102] b = hexI b := by
  have := List.all_eq_true.1 hexI_all b.toNat (List.mem_range.2 b.toNat_lt)
  simpa using this
theorem ixb_any (b : UInt8) (w : World) : Calls Tryd.prog 83 #[.string ⟨#[48, 49, 50, 51, 52, 53, 54, 55, 56, 57, 97, 98, 99, 100, 101, 102]⟩, .int .u8 (b.toNat : Int)] w fun e w' => e = .returned (.int .i64 (hexI b)) ∧ w' = w := by
  have h := Tryd.strings_IndexByte ⟨#[48, 49, 50, 51, 52, 53, 54, 55, 56, 57, 97, 98, 99, 100, 101, 102]⟩ (b.toNat : Int) w
  rw [show ((b.toNat : Int).toNat.toUInt8) = b by simp] at h
  rw [show (⟨#[48, 49, 50, 51, 52, 53, 54, 55, 56, 57, 97, 98, 99, 100, 101, 102]⟩ : ByteArray).data.toList = [48, 49, 50, 51, 52, 53, 54, 55, 56, 57, 97, 98, 99, 100, 101, 102] from rfl, hexI_idx] at h
  exact h
def SayF (r : UInt8 × Nat) (w : World) (e : Ending) (w' : World) : Prop := e = .returned (.tuple #[.int .u8 (r.1.toNat : Int), .int .i64 (r.2 : Int)]) ∧ Chg NoB w w'
theorem or_all : (List.range 16).all (fun a => (List.range 16).all fun b => bits .or .i64 ((a : Int) * 16) (b : Int) == ((16 * a + b : Nat) : Int)) = true := by decide +kernel
theorem or_hex {a b : Nat} (ha : a < 16) (hb : b < 16) : bits .or .i64 ((a : Int) * 16) (b : Int) = ((16 * a + b : Nat) : Int) := by
  have := List.all_eq_true.1 (List.all_eq_true.1 or_all a (List.mem_range.2 ha)) b (List.mem_range.2 hb)
  simpa using this
set_option maxHeartbeats 4000000 in
set_option maxRecDepth 20000 in
theorem first_any (s : List UInt8) (w : World) (h0 : s ≠ []) (hs : s.length ≤ 131072) : Calls Tryd.prog 70 #[.string (tx s)] w (SayF (firstF s) w) := by
  have hz : (tx s).size = s.length := tx_size s
  have hpos : 0 < s.length := List.length_pos_iff.2 h0
  have hp0 : 0 < (tx s).size := by omega
  obtain ⟨c, hcc⟩ : ∃ c, (tx s)[0] = c := ⟨_, rfl⟩
  obtain ⟨r, rfl⟩ : ∃ r, s = c :: r := by
    cases s with
    | nil => exact absurd rfl h0
    | cons x r => exact ⟨r, by rw [← hcc]; rfl⟩
  have HP := Lib.hid (fun w => plain_any c w)
  clear h0
  go_enter Tryd.func70, Tryd.ntmps70
  go_wp2_with fail
  try rw [hcc]
  refine (HP.out _).mono ?_
  rintro e w' ⟨rfl, rfl⟩
  by_cases hpl : plainC c = true
  · rw [hpl]
    go_wp2_with fail
    try rw [hcc]
    go_ret2
    refine ⟨?_, Chg.refl _ _⟩
    simp [firstF, hpl]
  · have hpf : plainC c = false := by simpa using hpl
    rw [hpf]
    by_cases h92 : c.toNat = 92
    · by_cases hl : (c :: r).length < 3
      · have hr : firstF (c :: r) = (0, 0) := by
          rcases r with _ | ⟨x, _ | ⟨y, z⟩⟩
          · simp [firstF, hpl, h92]
          · simp [firstF, hpl, h92]
          · simp only [List.length_cons] at hl; omega
        have Hr := Lib.hid hr
        have hl' : (r.length : Int) + 1 < 3 := by rw [List.length_cons] at hl; omega
        clear hr
        go_wp2_with fail
        go_ret2
        exact ⟨by rw [Hr.out]; rfl, Chg.refl _ _⟩
      · obtain ⟨x, y, r', rfl⟩ : ∃ x y r', r = x :: y :: r' := by
          match r with
          | [] => simp at hl
          | [x] => simp at hl
          | x :: y :: z => exact ⟨x, y, z, rfl⟩
        have hl' : ¬ (((x :: y :: r').length : Int) + 1 < 3) := by simp only [List.length_cons] at hl ⊢; omega
        have g1 : 1 < (tx (c :: x :: y :: r')).size := by omega
        have g2 : 2 < (tx (c :: x :: y :: r')).size := by omega
        have e1 : (tx (c :: x :: y :: r'))[1] = x := rfl
        have e2 : (tx (c :: x :: y :: r'))[2] = y := rfl
        have IX := Lib.hid (fun b w => ixb_any b w)
        have Hr := Lib.hid (show firstF (c :: x :: y :: r') = match hexC x, hexC y with | some a, some b => (UInt8.ofNat (16 * a + b), 3) | _, _ => (0, 0) by simp only [firstF, hpf, Bool.false_eq_true, if_false, h92, ne_eq, not_true_eq_false]; rfl)
        go_wp2_with fail
        go_quiet ((go_at_call 83; exact Calls.quiet_of_same (IX.out _ _)))
        have hw : Chg NoB w' (w'.drewN nq) := (Chg.refl NoB w').drewN nq
        have HW := Lib.hid hw
        generalize w'.drewN nq = w2 at *
        clear hw
        cases ha : hexC x with
        | none =>
          have hv : hexI x = -1 := by unfold hexI; rw [ha]
          rw [hv]
          rw [ha] at Hr
          go_wp2_with fail
          go_ret2
          exact ⟨by rw [Hr.out]; rfl, HW.out⟩
        | some a =>
          have hv : hexI x = (a : Int) := by unfold hexI; rw [ha]
          have ha1 := (hexC_ascii ha).1
          rw [hv]
          cases hb : hexC y with
          | none =>
            have hv2 : hexI y = -1 := by unfold hexI; rw [hb]
            rw [hv2]
            rw [ha, hb] at Hr
            go_wp2_with fail
            go_ret2
            exact ⟨by rw [Hr.out]; rfl, HW.out⟩
          | some b =>
            have hv2 : hexI y = (b : Int) := by unfold hexI; rw [hb]
            have hb1 := (hexC_ascii hb).1
            rw [hv2]
            rw [ha, hb] at Hr
            have hor := or_hex ha1 hb1
            have n0 : ¬ ((a : Int) < 0) := by omega
            have n1 : ¬ ((b : Int) < 0) := by omega
            have hlt : 16 * a + b < 256 := by omega
            go_wp2_with fail
            go_ret2
            refine ⟨?_, HW.out⟩
            rw [Hr.out]
            have e5 : ((UInt8.ofNat (16 * a + b)).toNat : Int) = 16 * (a : Int) + b := by rw [UInt8.toNat_ofNat']; omega
            simp only [e5]
            rfl
    · have hcd : ((c.toNat : Int) != 92) = true := by rw [bne_iff_ne]; omega
      have Hr := Lib.hid (show firstF (c :: r) = (0, 0) by simp [firstF, hpl, h92])
      go_wp2_with fail
      go_ret2
      exact ⟨by rw [Hr.out]; rfl, Chg.refl _ _⟩
end Go.Proofs.YtdgcpgbknfojhaaDoor
