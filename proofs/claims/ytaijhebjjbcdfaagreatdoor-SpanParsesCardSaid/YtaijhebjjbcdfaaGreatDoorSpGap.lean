/- The contracts of gapText at two gaps, and of Text at two ranges: what alive asks. Condition: the library's table of powers of ten. -/
import Derived.Test.YtaijhebjjbcdfaaGreatDoorSpText
import Derived.Test.YtaijhebjjbcdfaaGreatDoorSpNot
import Derived.Test.YtaijhebjjbcdfaaGreatDoorShelf

namespace Go.Proofs.YtaijhebjjbcdfaaGreatDoor
set_option linter.unusedVariables false
open Go.ChangeShapes Go.WideShapes Go.ChangeAt Go.RowKit
def tA : ByteArray := ⟨#[62, 61, 49, 46, 50, 46, 48, 32, 60, 50, 46, 48, 46, 48]⟩
def tB : ByteArray := ⟨#[61, 51, 46, 48, 46, 48]⟩
theorem num1 : numB 1002000 = ⟨#[49, 46, 50, 46, 48]⟩ := by kernel_rfl
theorem num2 : numB 2000000 = ⟨#[50, 46, 48, 46, 48]⟩ := by kernel_rfl
theorem num3 : numB 3000000 = ⟨#[51, 46, 48, 46, 48]⟩ := by kernel_rfl
set_option maxHeartbeats 1000000 in
set_option maxRecDepth 20000 in
theorem gtext_b (w : World) (ht : Ver.Tb w) : Calls Tryz.prog 42 #[.agg #[.int .i64 3000000, .int .i64 3000001]] w fun e w' => e = .returned (.string tB) ∧ Chg NoB w w' := by
  have hal_ := (Chg.refl NoB w).alloc (.cells #[.int .i64 3000000, .int .i64 3000001] 37)
  have hb_ := heap_alloc_new w (.cells #[.int .i64 3000000, .int .i64 3000001] 37)
  obtain ⟨b1, hxb_⟩ : ∃ b, b = w.heap.size := ⟨_, rfl⟩
  obtain ⟨w1, hw_⟩ : ∃ w_, w.alloc (.cells #[.int .i64 3000000, .int .i64 3000001] 37) = w_ := ⟨_, rfl⟩
  have hz_ : w1.heap.size = b1 + 1 := by rw [← hw_, hxb_]; exact alloc_size _ _
  rw [hw_] at hal_ hb_
  rw [← hxb_] at hb_
  have Hw1 := Lib.hid hw_
  have Hx1 := Lib.hid hxb_
  have Ha1 := Lib.hid hal_
  have Hb1 := Lib.hid hb_
  have Hz1 := Lib.hid hz_
  clear hal_ hb_ hxb_ hw_ hz_
  have HN := Lib.hid (ntext_any 3000000 (by omega) (by omega) w1 (ht.keep Ha1.out.below))
  rw [num3] at HN
  obtain ⟨q0, q1⟩ := var2 Hb1.out
  clear ht
  go_enter Tryz.func42, Tryz.ntmps42
  go_upto_region 1 with fail
  rw [Hw1.out, ← Hx1.out]
  go_wp2_with fail
  refine HN.out.mono ?_
  rintro e w2 ⟨rfl, hc2⟩
  have Hc2 := Lib.hid (Ha1.out.trans hc2)
  clear hc2
  go_wp2_with fail
  go_ret
  exact ⟨rfl, Hc2.out⟩
set_option maxHeartbeats 1000000 in
set_option maxRecDepth 20000 in
theorem gtext_a (w : World) (ht : Ver.Tb w) : Calls Tryz.prog 42 #[.agg #[.int .i64 1002000, .int .i64 2000000]] w fun e w' => e = .returned (.string tA) ∧ Chg NoB w w' := by
  have hal_ := (Chg.refl NoB w).alloc (.cells #[.int .i64 1002000, .int .i64 2000000] 37)
  have hb_ := heap_alloc_new w (.cells #[.int .i64 1002000, .int .i64 2000000] 37)
  obtain ⟨b1, hxb_⟩ : ∃ b, b = w.heap.size := ⟨_, rfl⟩
  obtain ⟨w1, hw_⟩ : ∃ w_, w.alloc (.cells #[.int .i64 1002000, .int .i64 2000000] 37) = w_ := ⟨_, rfl⟩
  have hz_ : w1.heap.size = b1 + 1 := by rw [← hw_, hxb_]; exact alloc_size _ _
  rw [hw_] at hal_ hb_
  rw [← hxb_] at hb_
  have Hw1 := Lib.hid hw_
  have Hx1 := Lib.hid hxb_
  have Ha1 := Lib.hid hal_
  have Hb1 := Lib.hid hb_
  have Hz1 := Lib.hid hz_
  clear hal_ hb_ hxb_ hw_ hz_
  have HN := Lib.hid (ntext_any 1002000 (by omega) (by omega) w1.drew (ht.keep (Ha1.out.trans (Chg.refl NoB w1).drew).below))
  have HN2 := Lib.hid (fun (W : World) (h : Chg NoB w1 W) => ntext_any 2000000 (by omega) (by omega) W (ht.keep (Ha1.out.trans h).below))
  rw [num1] at HN
  rw [num2] at HN2
  obtain ⟨q0, q1⟩ := var2 Hb1.out
  have hA := And.intro q0 q1
  clear ht
  go_enter Tryz.func42, Tryz.ntmps42
  go_upto_region 1 with fail
  rw [Hw1.out, ← Hx1.out]
  go_upto_region 9 with fail
  go_region_held3 (fun w' => w'.cell? ⟨b1, 0, none⟩ = some (.int .i64 1002000) ∧ w'.cell? ⟨b1, 1, none⟩ = some (.int .i64 2000000))
    (first | exact hC | exact hB | exact hA)
    (first
      | (have hq2 := hc2; go_at_call 55; refine (HN2.out w2 hc2).mono ?_; rintro e w3 ⟨rfl, hc3'⟩; have hc3 : Chg NoB w1 w3 := hc2.trans hc3'; have hC := And.intro (hc3.keep q0) (hc3.keep q1))
      | (go_at_call 55; refine HN.out.mono ?_; rintro e w2 ⟨rfl, hc2'⟩; have hc2 : Chg NoB w1 w2 := ((Chg.refl NoB w1).drew).trans hc2'; have hB := And.intro (hc2.keep q0) (hc2.keep q1)))
  all_goals
    have Hc3 := Lib.hid (Ha1.out.trans hc3)
    clear hA hB hC hc2 hc3
    go_wp2_with fail
    go_ret
    exact ⟨rfl, Hc3.out⟩
def strsV (l : List ByteArray) : List Value := l.map fun x => .string x
theorem strsV_one : ∀ l : List ByteArray, ∀ u ∈ strsV l, u.oneCell' = true := fun l u h => by
  obtain ⟨x, -, rfl⟩ := List.mem_map.1 h
  rfl
theorem strInfo : (Tryz.prog.info? 9).map (fun i => (i.zero, i.size, i.bytes)) = some (some (.string ⟨#[]⟩), 1, 16) := by kernel_rfl
theorem row_str {w : World} {base g c n : Nat} {l : List ByteArray} (h : w.ownsRow base 9 1 (.slice (some ⟨g, 0, none⟩) n c) n (strsV l)) (m : Nat) (x : ByteArray) (hm : l[m]? = some x) : w.cell? ⟨g, m, none⟩ = some (.string x) := by
  have b1 := World.ownsRow.cells (g := g) h rfl m (.string x) (by unfold strsV; rw [List.getElem?_map, hm]; rfl)
  rw [add_zero_off] at b1
  exact b1
theorem wpList_str {w : World} {ops : Array Oper} {rest : List Oper} {o : Oper} {a : Act} {Q : Exit → Act → World → Prop} (hgd : o.guard = none) (s x : Operand)
    (ho : o.op = .call { callee := .builtin .append, args := #[s, x], argTypes := #[53, 53] })
    {base n : Nat} {v : Value} {l : List ByteArray} {b : Nat} {y : ByteArray} {f : Nat × Nat} (hs : a.eval s = v) (hx : a.eval x = .slice (some ⟨b, 0, none⟩) 1 1) (hn : n = l.length) {k : Nat} (hk : k = n + 1) (hown : w.ownsRow base 9 1 v n (strsV l)) (hb : w.heap[b]? = some (.cells #[.string y] 9 f)) (hl : n + 1 ≤ 1048576) (hbase : base ≤ w.heap.size)
    (h : ∀ v' w', w'.ownsRow base 9 1 v' k (strsV (l ++ [y])) → Chg (fun j => v.ownBlock = some j) w w' → wpList Tryz.prog ops Q rest (a.put o.dst v') w') : wpList Tryz.prog ops Q (o :: rest) a w := by
  obtain ⟨i0, hi, hz0, hz1, hz2⟩ := info_parts strInfo
  refine wpList_append_at w hgd s x 53 ho base 9 i0 (.string ⟨#[]⟩) 1 16 Tryz.underlying53 hi hz0 hz1 hz2 rfl (by decide) v n (strsV l) hs hown ⟨b, 0, none⟩ 1 1 (strsV [y]) hx rfl ?_ (strsV_one _) (by unfold maxLen; omega) (by omega) hbase ?_
  · intro j u hj
    rw [add_zero_off, cell_of_row w b j _ _ f hb]
    show (strsV [y]).toArray[j]? = some u
    rw [List.getElem?_toArray]
    exact hj
  · intro v' w' h1 h2 _
    rw [show strsV l ++ strsV [y] = strsV (l ++ [y]) from (List.map_append).symm, ← hk] at h1
    exact h v' w' h1 ((Chg.refl _ w).grown h2 fun j hj => .inl hj)
def joinB (ts : List ByteArray) : ByteArray := ⟨(Lib.join (ts.map (·.data.toList)) [32, 124, 32]).toArray⟩
set_option maxHeartbeats 4000000 in
set_option maxRecDepth 20000 in
theorem text_any' (l : List GapL) (ts : List ByteArray) (hts : ts.length = l.length) (hgood : goodG l = true) (hne : l ≠ []) (S : Nat → Prop) (v : Value) (kb ko : Nat) (w : World) (hs : GapS w S v l kb ko) (ht : Ver.Tb w)
    (hG : ∀ k (h : k < l.length) (W : World), Ver.Tb W → Calls Tryz.prog 42 #[.agg #[.int .i64 l[k].1, .int .i64 l[k].2]] W fun e w' => e = .returned (.string (ts[k]'(by omega))) ∧ Chg NoB W w')
    (hj : (Lib.join (ts.map (·.data.toList)) [32, 124, 32]).length ≤ 140737488355328) : Calls Tryz.prog 23 #[v] w fun e w' => e = .returned (.string (joinB ts)) ∧ Chg NoB w w' := by
  have HGd := Lib.hid (good_any l S v kb ko w hs)
  rw [hgood] at HGd
  obtain ⟨⟨q, c, rfl, h1, h2, h3⟩, hat, -⟩ := hs
  obtain ⟨n, hn⟩ : ∃ n, n = l.length := ⟨_, rfl⟩
  rw [← hn] at h1 HGd ⊢
  have H3 := Lib.hid h3
  have Hat := Lib.hid hat
  have Hn := Lib.hid hn
  have Hts := Lib.hid hts
  have Ht := Lib.hid ht
  have HG := Lib.hid hG
  have Hj := Lib.hid hj
  have hn16 : n ≤ 16 := by rw [hn]; exact good_len hgood
  have hn0 : 0 < n := by rw [hn]; exact List.length_pos_iff.2 hne
  have hz : ((n : Int) == 0) = false := by rw [beq_eq_false_iff_ne]; omega
  unfold maxLen at h2
  clear h3 hat hn ht hG hj hgood hne
  go_enter Tryz.func23, Tryz.ntmps23
  go_wp2_with fail
  refine HGd.out.mono ?_
  rintro e w1 ⟨rfl, hc1⟩
  have Hc1 := Lib.hid hc1
  clear hc1 HGd
  go_wp2_with fail
  go_loopw [3, 14] (fun ov i wr => ∃ (k c' : Nat) (q' : Option Addr) (o : List ByteArray), k ≤ n ∧ i = .int .i64 k ∧ ov = .slice q' k c' ∧ k = o.length ∧ o = ts.take k ∧ wr.ownsRow w1.heap.size 9 1 (.slice q' k c') k (strsV o) ∧ Chg NoB w1 wr) (fun _ i _ => n - (intOf i).toNat)
  case atStart => exact ⟨0, 0, none, [], Nat.zero_le _, rfl, rfl, rfl, rfl, World.ownsRow_nil _ _ _ _, Chg.refl _ _⟩
  case round =>
    obtain ⟨k, c', q', o, hk, rfl, rfl, hm, ho, hor, hch⟩ := hrel
    have Hm := Lib.hid hm
    have Ho := Lib.hid ho
    have Hor := Lib.hid hor
    have Hch := Lib.hid hch
    clear hm ho hor hch
    by_cases hlt : k < n
    · have hkl : k < l.length := by rw [← Hn.out]; exact hlt
      obtain ⟨rfl, -⟩ := H3.out (by intro e; rw [e] at hkl; simp at hkl)
      obtain ⟨c0, c1⟩ := Hat.out k hkl
      have c0 := Hch.out.keep (Hc1.out.keep c0)
      have c1 := Hch.out.keep (Hc1.out.keep c1)
      have hkt : k < ts.length := by rw [Hts.out]; exact hkl
      have Htk := Lib.hid (show ts.take (k + 1) = ts.take k ++ [ts[k]] from take_at hkt)
      rw [← Ho.out] at Htk
      have HGk := Lib.hid (fun W hW => HG.out k hkl W hW)
      generalize ts[k] = t at *
      generalize l[k] = g at *
      obtain ⟨x1, x2⟩ := g
      simp only at c0 c1 HGk
      have hal_ := (Chg.refl NoB wr).alloc (.cells #[.int .i64 x1, .int .i64 x2] 37)
      have hb_ := heap_alloc_new wr (.cells #[.int .i64 x1, .int .i64 x2] 37)
      obtain ⟨b5, hxb_⟩ : ∃ b, b = wr.heap.size := ⟨_, rfl⟩
      obtain ⟨w2, hw_⟩ : ∃ w_, wr.alloc (.cells #[.int .i64 x1, .int .i64 x2] 37) = w_ := ⟨_, rfl⟩
      have hz_ : w2.heap.size = b5 + 1 := by rw [← hw_, hxb_]; exact alloc_size _ _
      rw [hw_] at hal_ hb_
      rw [← hxb_] at hb_
      have Hw5 := Lib.hid hw_
      have Hx5 := Lib.hid hxb_
      have Ha5 := Lib.hid hal_
      have Hb5 := Lib.hid hb_
      have Hz5 := Lib.hid hz_
      clear hal_ hb_ hxb_ hw_ hz_
      obtain ⟨d0, d1⟩ := var2 Hb5.out
      have Hc2 := Lib.hid (Hch.out.trans Ha5.out)
      have Hor2 := Lib.hid (ownsRow_chg Hor.out Ha5.out fun _ _ => id)
      have HT2 := Lib.hid (HGk.out w2 (Ht.out.keep (Hc1.out.trans Hc2.out).below))
      clear hkl hkt HGk
      go_upto_region 9 with fail
      rw [Hw5.out, ← Hx5.out]
      clear c0 c1
      go_wp2_with fail
      refine HT2.out.mono ?_
      rintro e w3 ⟨rfl, hc3⟩
      have Hc3 := Lib.hid (Hc2.out.trans hc3)
      have Hor3 := Lib.hid (ownsRow_chg Hor2.out hc3 fun _ _ => id)
      clear hc3 HT2 d0 d1
      have hal_ := (Chg.refl NoB w3).alloc (.cells #[.string t] 9)
      have hb_ := heap_alloc_new w3 (.cells #[.string t] 9)
      obtain ⟨lb, hxb_⟩ : ∃ b, b = w3.heap.size := ⟨_, rfl⟩
      obtain ⟨w8, hw_⟩ : ∃ w_, w3.alloc (.cells #[.string t] 9) = w_ := ⟨_, rfl⟩
      have hz_ : w8.heap.size = lb + 1 := by rw [← hw_, hxb_]; exact alloc_size _ _
      rw [hw_] at hal_ hb_
      rw [← hxb_] at hb_
      have Hw8 := Lib.hid hw_
      have Hx8 := Lib.hid hxb_
      have Ha8 := Lib.hid hal_
      have Hb8 := Lib.hid hb_
      have Hz8 := Lib.hid hz_
      clear hal_ hb_ hxb_ hw_ hz_
      have Hc8 := Lib.hid (Hc3.out.trans Ha8.out)
      have Hor8 := Lib.hid (ownsRow_chg Hor3.out Ha8.out fun _ _ => id)
      go_wp2_with (at_builtin; go_loud (rw [← Hx8.out, Hw8.out]); go_loud (refine wpList_str (v := .slice q' k c') (y := t) rfl _ _ rfl rfl rfl Hm.out rfl Hor8.out Hb8.out (by omega) Hc8.out.size ?_); intro v9 w9 hown9 hch9; go_loud (obtain ⟨q9, c9, rfl, -, -⟩ := row_shape hown9); have Hown9 := Lib.hid hown9; go_loud (have Hc9 := Lib.hid (Hc8.out.above hch9 fun j hj => (World.ownsRow.lt Hor8.out j hj).1)); clear hown9 hch9)
      go_roundw
      case rel => exact ⟨k + 1, c9, q9, o ++ [t], by omega, by go_num, rfl, by rw [List.length_append, ← Hm.out]; rfl, Htk.out.symm, Hown9.out, Hc9.out⟩
      case measure => simp [intOf]; omega
    · obtain rfl : k = n := by omega
      have Ho2 := Lib.hid (show o = ts by rw [Ho.out, Hn.out, ← Hts.out, List.take_length])
      obtain rfl := Ho2.out
      obtain ⟨g, rfl⟩ : ∃ g, q' = some ⟨g, 0, none⟩ := by
        rcases Hor.out.2 with ⟨e, h0⟩ | ⟨g', cap, cur, e, _⟩
        · omega
        · exact ⟨g', by injection e⟩
      have hcc : k ≤ c' := by
        obtain ⟨qx, cx, ex, h1, h2⟩ := row_shape Hor.out
        cases ex
        exact h1
      have HJ := Lib.hid (Tryz.strings_Join g 0 c' o ⟨#[32, 124, 32]⟩ wr (fun j x hx => by rw [Nat.zero_add]; exact row_str Hor.out j x hx) (World.ownsRow.lt Hor.out g rfl).2 (by rw [← Hm.out]; omega) (by rw [← Hm.out]; exact hcc) Hj.out)
      rw [← Hm.out] at HJ
      go_wp2_with fail
      refine HJ.out.mono ?_
      rintro e w9 ⟨rfl, hb9⟩
      have Hc9 := Lib.hid ((Hc1.out.trans Hch.out).trans (chg_of_below hb9))
      clear hb9
      go_wp2_with fail
      go_ret
      exact ⟨rfl, Hc9.out⟩
end Go.Proofs.YtaijhebjjbcdfaaGreatDoor
