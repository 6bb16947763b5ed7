/- The contract of the source's add: one line more. Conditions: the source lies as AmLab says; the line is not too long. -/
import Derived.Test.YtaihgciokfkonaaDoorAmMark
import Derived.RangeFuncWrites

namespace Go.Proofs.YtaihgciokfkonaaDoor
set_option linter.unusedVariables false
open Go.ChangeShapes Go.WideShapes Go.ChangeAt Go.RowKit Go.ChangeMaps Go.MapKept
def AddP (lo ob mb : Nat) (r : Except Int SrcL) (w : World) (e : Ending) (w' : World) : Prop := Chg (AbS lo ob mb) w w' ∧ KeepsFrom lo w w' ∧ match r with
  | .error x => e = .returned (.int .i64 x)
  | .ok s' => e = .returned (.int .i64 0) ∧ SrcM w' lo ob mb s'
theorem Chg.keepsF {S : Nat → Prop} {w w' : World} (h : Chg S w w') (B : Nat) (hS : ∀ k, B ≤ k → ¬ S k) : KeepsFrom B w w' :=
  ⟨h.size, fun k o hB hk _ => row_kept h hk (hS k hB)⟩
theorem suf_any (t : List UInt8) (w : World) (hl : t.length ≤ 1048576) : Calls Tryd.prog 36 #[.string (tx t), .string ⟨#[58]⟩] w fun e w' => e = .returned (.tuple #[.string (tx (if t.getLast? = some 58 then t.dropLast else t)), .bool (decide (t.getLast? = some 58))]) ∧ w' = w := by
  refine (Tryd.strings_CutSuffix (tx t) ⟨#[58]⟩ w (by rw [tx_size]; omega)).mono ?_
  rintro e w' ⟨rfl, rfl⟩
  refine ⟨?_, rfl⟩
  rw [tx_list]
  have e0 : (⟨#[58]⟩ : ByteArray).data.toList = [58] := rfl
  rw [e0]
  rcases List.eq_nil_or_concat t with rfl | ⟨ini, z, rfl⟩
  · rfl
  · rw [List.concat_eq_append]
    have e1 : Lib.hasSuffix (ini ++ [z]) [58] = decide ((ini ++ [z]).getLast? = some 58) := by
      unfold Lib.hasSuffix List.isSuffixOf
      rw [List.getLast?_concat, List.reverse_append]
      show ((58 == z) && true) = decide (some z = some 58)
      rw [Bool.and_true, Bool.eq_iff_iff, beq_iff_eq, decide_eq_true_eq, Option.some.injEq]
      exact ⟨fun h => h.symm, fun h => h.symm⟩
    have e2 : Lib.trimSuffix (ini ++ [z]) [58] = if (ini ++ [z]).getLast? = some 58 then (ini ++ [z]).dropLast else ini ++ [z] := by
      unfold Lib.trimSuffix
      rw [e1]
      by_cases h : (ini ++ [z]).getLast? = some 58
      · rw [if_pos h, if_pos (by simpa using h)]; simp
      · rw [if_neg h, if_neg (by simpa using h)]
    rw [e1, e2]
    rfl
theorem step_line {ops : Array Oper} {o : Oper} {a : Act} {K : Act → World → Prop} {Q : Exit → Act → World → Prop} {E : Prop} (hgd : o.guard = none) (z : World) (s x : Operand)
    (ho : o.op = .call { callee := .builtin .append, args := #[s, x], argTypes := #[42, 42] }) (base n : Nat) (v : Value) (l : List LineL) (y : LineL)
    (hs : a.eval s = v) (hx : a.eval x = .slice (some ⟨z.heap.size, 0, none⟩) 1 1) (hown : z.ownsRow base 76 5 v n (flatN l)) (hl : n + 1 ≤ 1048576) (hbase : base ≤ z.heap.size)
    (h : ∀ v' w', w'.ownsRow base 76 5 v' (n + 1) (flatN (l ++ [y])) → Chg (fun j => v.ownBlock = some j) z w' → K (a.put o.dst v') w') :
    if Region.wanted o (yielded ops a.tmps) = true then Oper.wp Tryd.prog o a (z.alloc (.cells #[.int .i64 y.no, .int .i64 y.ins.op, .int .i64 y.ins.n, .string (tx y.ins.s), .string (tx y.lab)] 76)).drew K Q else E := by
  obtain ⟨i0, hi, hz0, hz1, hz2⟩ := info_parts lineInfo
  have hal := (Chg.refl NoB z).alloc (.cells #[.int .i64 y.no, .int .i64 y.ins.op, .int .i64 y.ins.n, .string (tx y.ins.s), .string (tx y.lab)] 76)
  refine step_append_at hgd _ s x 42 ho base 76 i0 (.agg #[.int .i64 0, .int .i64 0, .int .i64 0, .string ⟨#[]⟩, .string ⟨#[]⟩]) 5 56 Tryd.underlying42 hi hz0 hz1 hz2 rfl (by decide) v n (flatN l) hs (ownsRow_chg hown hal.drew fun _ _ => id) ⟨z.heap.size, 0, none⟩ 1 1 (flatN [y]) hx rfl (fun j u hj => ?_) (flatN_one [y]) (by unfold maxLen; omega) (by omega) (Nat.le_trans hbase hal.size) ?_
  · rw [add_zero_off]
    show (z.alloc (.cells #[.int .i64 y.no, .int .i64 y.ins.op, .int .i64 y.ins.n, .string (tx y.ins.s), .string (tx y.lab)] 76)).cell? ⟨z.heap.size, j, none⟩ = some u
    rw [cell_of_row _ z.heap.size j _ _ (0, 0) (heap_alloc_new z _)]
    show (flatN [y]).toArray[j]? = some u
    rw [List.getElem?_toArray]
    exact hj
  · intro v' w' h1 h2 _
    refine h v' w' ?_ ((hal.drew.mono fun _ _ h => h.elim).trans ((Chg.refl _ _).grown h2 fun j hj => .inl hj))
    rw [flatN_app]
    exact h1
/- a row's own block is cells: what is no cells stays -/
theorem rowN_others {A B : World} {base : Nat} {v : Value} {n : Nat} {l : List LineL} (h : A.ownsRow base 76 5 v n (flatN l)) (hc : Chg (fun j => v.ownBlock = some j) A B) : KeepsOthers A B :=
  ⟨hc.size, fun k o hk ho => (hc.block k (Array.getElem?_eq_some_iff.1 hk).1 fun e => by
    rcases h.2 with ⟨e3, -⟩ | ⟨g', cap, cur, e3, hb, hh, -⟩
    · rw [e3] at e; cases e
    · rw [e3] at e; cases e
      rw [hh] at hk; cases hk; cases ho).trans hk⟩
theorem inner_len : ∀ (n : Nat) (s t : List UInt8), s.length ≤ n → innerF s = some t → t.length ≤ s.length := by
  intro n
  induction n with
  | zero =>
    intro s t hs h
    have : s = [] := List.eq_nil_of_length_eq_zero (by omega)
    subst this
    rw [innerF_nil, Option.some.injEq] at h
    subst h; exact Nat.le_refl _
  | succ n ih =>
    intro s t hs h
    rcases s with _ | ⟨c, r⟩
    · rw [innerF_nil, Option.some.injEq] at h
      subst h; exact Nat.le_refl _
    · rw [innerF_cons] at h
      by_cases h0 : (firstF (c :: r)).2 = 0
      · rw [if_pos h0] at h; cases h
      · rw [if_neg h0] at h
        cases hi : innerF ((c :: r).drop (firstF (c :: r)).2) with
        | none => rw [hi] at h; cases h
        | some u =>
          rw [hi] at h
          simp only [Option.map_some, Option.some.injEq] at h
          subst h
          have hd : ((c :: r).drop (firstF (c :: r)).2).length = r.length + 1 - (firstF (c :: r)).2 := by rw [List.length_drop, List.length_cons]
          have := ih _ _ (by rw [hd]; rw [List.length_cons] at hs; omega) hi
          rw [hd] at this
          have := firstF_le (c :: r)
          rw [List.length_cons] at this ⊢
          simp only [List.length_cons]
          omega
theorem whole_len {s t : List UInt8} (h : wholeF s = some t) : t.length ≤ s.length := by
  rw [whole_doc] at h
  unfold docF at h
  split at h
  · cases h
  · have := inner_len _ _ _ (Nat.le_refl _) h
    rw [List.length_dropLast, List.length_drop] at this
    omega
theorem insF_wf {t : List UInt8} {x : InsL × List UInt8} (h : insF t = some x) (ht : t.length ≤ 65536) : x.1.wf := by
  have ho := opF_lt (cutW t).1
  have hl := (cutW_len t).2
  unfold insF insG at h
  split at h
  · cases h
  · split at h
    · cases hd : digP (cutW t).2.1 with
      | none => rw [hd] at h; cases h
      | some n =>
        rw [hd] at h
        cases h
        exact ⟨by simp only; omega, (digP_bounds hd).1, by simp⟩
    · split at h
      · cases hd : wholeF (cutW t).2.1 with
        | none => rw [hd] at h; cases h
        | some n =>
          rw [hd] at h
          cases h
          have := whole_len hd
          exact ⟨by simp only; omega, by simp, by simp only; omega⟩
      · split at h
        · split at h
          · cases h; exact ⟨by simp only; omega, by simp, by simp⟩
          · cases h
        · cases h; exact ⟨by simp only; omega, by simp, by simp⟩
set_option maxHeartbeats 4000000 in
set_option maxRecDepth 20000 in
theorem add_any (lo ob mb base : Nat) (s : SrcL) (t : List UInt8) (no : Int) (w : World) (hs : SrcM w lo ob mb s) (h1 : mb < lo) (h2 : mb ≠ ob) (h3 : ob < lo) (h4 : lo ≤ w.heap.size) (ht : t.length ≤ 65536) (hn0 : 0 ≤ no) (hn1 : no ≤ 131072) (hl : s.labs.length < 131072 ∧ s.list.length < 131072) (hv : Av base w) : Calls Tryd.prog 19 #[.pointer (some ⟨ob, 0, none⟩), .string (tx t), .int .i64 no] w (AddP lo ob mb (addF s t no) w) := by
  have Hs := Lib.hid hs
  have Hv := Lib.hid hv
  have hz : (tx t).size = t.length := tx_size t
  have en := txQ t
  clear hs hv
  rcases t with _ | ⟨c, r⟩
  · go_enter Tryd.func19, Tryd.ntmps19
    go_wp2_with fail
    go_ret
    exact ⟨Chg.refl _ _, KeepsFrom.refl _ _, rfl, Hs.out⟩
  · have g0 : (tx (c :: r))[0]'(by rw [tx_size]; exact Nat.succ_pos _) = c := rfl
    by_cases hc : c.toNat = 59
    · have hcd : ((c.toNat : Int) == 59) = true := by simp [hc]
      have Hr := Lib.hid (show addF s (c :: r) no = .ok s by
        unfold addF; rw [if_pos (.inr (by rw [List.head?_cons, show c = 59 from UInt8.toNat_inj.1 hc]))])
      clear hc
      go_enter Tryd.func19, Tryd.ntmps19
      go_wp2_with fail
      go_ret
      exact ⟨Chg.refl _ _, KeepsFrom.refl _ _, by rw [Hr.out]; exact ⟨rfl, Hs.out⟩⟩
    · have hcd : ((c.toNat : Int) == 59) = false := by rw [beq_eq_false_iff_ne]; omega
      have Hr := Lib.hid (show addF s (c :: r) no = if markF (c :: r) = true then (if hasK s.labs (c :: r).dropLast = true then .error 11 else .ok ⟨s.labs ++ [((c :: r).dropLast, (s.list.length : Int))], s.list⟩) else match insF (c :: r) with | none => .error 50 | some x => .ok ⟨s.labs, s.list ++ [⟨no, x.1, x.2⟩]⟩ by
        have hno : ¬ (c :: r = [] ∨ (c :: r).head? = some 59) := by
          rintro (h | h)
          · cases h
          · rw [List.head?_cons, Option.some.injEq] at h; subst h; exact hc rfl
        unfold addF
        rw [if_neg hno]
        rfl)
      have HS := Lib.hid (suf_any (c :: r) w (by omega))
      have hml : markF (c :: r) = (decide ((c :: r).getLast? = some 58) && Pth.nameL (c :: r).dropLast) := rfl
      have HN := Lib.hid (fun w => nameP (c :: r).dropLast w (by rw [List.length_dropLast]; omega))
      have HM := Lib.hid (mark_any lo ob mb s (c :: r).dropLast)
      have hdl : (c :: r).dropLast.length ≤ 65536 := by rw [List.length_dropLast]; omega
      clear hc
      by_cases hla : (c :: r).getLast? = some 58
      · rw [if_pos hla, decide_eq_true hla] at HS
        rw [decide_eq_true hla, Bool.true_and] at hml
        generalize (c :: r).dropLast = nm at *
        cases hnl : Pth.nameL nm with
        | true =>
          rw [hnl] at hml HN
          rw [if_pos hml] at Hr
          go_enter Tryd.func19, Tryd.ntmps19
          go_wp2_with fail
          refine HS.out.mono ?_
          rintro e w1 ⟨rfl, hw1⟩
          obtain rfl : w = w1 := hw1.symm
          go_wp2_with fail
          refine (HN.out _).mono ?_
          rintro e w2 ⟨rfl, hc2⟩
          have Hc2 := Lib.hid hc2
          have HMc := Lib.hid (HM.out w2 (Hs.out.keep hc2) h1 h2 hdl hl.1)
          clear hc2
          go_wp2_with fail
          refine HMc.out.mono ?_
          intro e w3 hmp
          unfold MarkP at hmp
          by_cases hk : hasK s.labs nm = true
          · rw [if_pos hk] at hmp
            obtain ⟨rfl, hc3⟩ := hmp
            have Hc3 := Lib.hid (Hc2.out.trans hc3)
            have Hrr := Lib.hid (show addF s (c :: r) no = .error 11 by rw [Hr.out, if_pos hk])
            clear hc3
            go_wp2_with fail
            go_ret
            exact ⟨Hc3.out.mono fun _ _ => False.elim, Hc3.out.keepsF lo fun _ _ => id, by rw [Hrr.out]; rfl⟩
          · rw [if_neg hk] at hmp
            obtain ⟨rfl, hc3, hsm⟩ := hmp
            have Hc3 := Lib.hid ((Hc2.out.mono fun _ _ => False.elim).trans hc3)
            have Hrr := Lib.hid (show addF s (c :: r) no = .ok ⟨s.labs ++ [(nm, (s.list.length : Int))], s.list⟩ by rw [Hr.out, if_neg hk])
            have Hsm := Lib.hid hsm
            clear hc3 hsm
            go_wp2_with fail
            go_ret
            exact ⟨Hc3.out.mono fun _ _ e => .inr (.inl e), Hc3.out.keepsF lo fun k hk e => by omega, by rw [Hrr.out]; exact ⟨rfl, Hsm.out⟩⟩
        | false =>
          rw [hnl] at hml HN
          rw [if_neg (by rw [hml]; simp)] at Hr
          go_enter Tryd.func19, Tryd.ntmps19
          go_wp2_with fail
          refine HS.out.mono ?_
          rintro e w1 ⟨rfl, hw1⟩
          obtain rfl : w = w1 := hw1.symm
          go_wp2_with fail
          refine (HN.out _).mono ?_
          rintro e w2 ⟨rfl, hc2⟩
          have Hc2 := Lib.hid hc2
          clear hc2
          have HI := Lib.hid (inst_any (c :: r) base w2 (Hv.out.keep Hc2.out) ht)
          have Hwf := Lib.hid (fun x (h : insF (c :: r) = some x) => insF_wf h ht)
          generalize insF (c :: r) = o at *
          go_wp2_with fail
          refine HI.out.mono ?_
          rintro e w3 ⟨hc3, he3⟩
          have Hc3 := Lib.hid (Hc2.out.trans hc3)
          clear hc3
          cases o with
          | none =>
            obtain ⟨op, n, s4, l4, rfl⟩ := he3
            have hal_ := (Chg.refl NoB w3).alloc (.cells #[.int .i64 0, .int .i64 op, .int .i64 n, .string s4, .string l4] 76)
            have hb_ := heap_alloc_new w3 (.cells #[.int .i64 0, .int .i64 op, .int .i64 n, .string s4, .string l4] 76)
            obtain ⟨b9, hxb_⟩ : ∃ b, b = w3.heap.size := ⟨_, rfl⟩
            obtain ⟨w4, hw_⟩ : ∃ w_, w3.alloc (.cells #[.int .i64 0, .int .i64 op, .int .i64 n, .string s4, .string l4] 76) = w_ := ⟨_, rfl⟩
            have hz_ : w4.heap.size = b9 + 1 := by rw [← hw_, hxb_]; exact alloc_size _ _
            rw [hw_] at hal_ hb_
            rw [← hxb_] at hb_
            have Hw9 := Lib.hid hw_
            have Hx9 := Lib.hid hxb_
            have Ha9 := Lib.hid hal_
            have Hb9 := Lib.hid hb_
            have Hz9 := Lib.hid hz_
            clear hal_ hb_ hxb_ hw_ hz_
            simp only [LineV]
            go_wp2_with fail
            go_ret
            rw [Hw9.out]
            have hc := Hc3.out.trans Ha9.out
            exact ⟨hc.mono fun _ _ => False.elim, hc.keepsF lo fun _ _ => id, by rw [Hr.out]; rfl⟩
          | some x =>
            obtain ⟨⟨op, n, sx⟩, lb⟩ := x
            subst he3
            simp only [LineV]
            have hal_ := (Chg.refl NoB w3).alloc (.cells #[.int .i64 0, .int .i64 op, .int .i64 n, .string (tx sx), .string (tx lb)] 76)
            have hb_ := heap_alloc_new w3 (.cells #[.int .i64 0, .int .i64 op, .int .i64 n, .string (tx sx), .string (tx lb)] 76)
            obtain ⟨b9, hxb_⟩ : ∃ b, b = w3.heap.size := ⟨_, rfl⟩
            obtain ⟨w4, hw_⟩ : ∃ w_, w3.alloc (.cells #[.int .i64 0, .int .i64 op, .int .i64 n, .string (tx sx), .string (tx lb)] 76) = w_ := ⟨_, rfl⟩
            have hz_ : w4.heap.size = b9 + 1 := by rw [← hw_, hxb_]; exact alloc_size _ _
            rw [hw_] at hal_ hb_
            rw [← hxb_] at hb_
            have Hw9 := Lib.hid hw_
            have Hx9 := Lib.hid hxb_
            have Ha9 := Lib.hid hal_
            have Hb9 := Lib.hid hb_
            have Hz9 := Lib.hid hz_
            clear hal_ hb_ hxb_ hw_ hz_
            have Hc5 := Lib.hid ((Hc3.out.trans Ha9.out).above ((Chg.refl (fun k => k = b9) w4).setCell (p := ⟨b9, 0, none⟩) (.inl rfl) (.int .i64 no)) fun k e => by have := Hx9.out; have := Hc3.out.size; omega)
            have Hb5 := Lib.hid (heap_set Hb9.out (i := 0) (.int .i64 no))
            have z0 := (var5' Hb9.out).1
            have zf := row_free Hb9.out
            have Hwx := Lib.hid (Hwf.out _ rfl)
            clear Hwf
            go_upto_region 9 with fail
            rw [Hw9.out, ← Hx9.out]
            go_upto_region 10 with fail
            clear z0 zf
            generalize w4.setCell ⟨b9, 0, none⟩ (.int .i64 no) = w5 at *
            have Hs5 := Lib.hid (Hs.out.keep Hc5.out)
            obtain ⟨q, cp, hrow, hown⟩ := Hs5.out.row
            obtain ⟨ln, hln⟩ : ∃ n, n = s.list.length := ⟨_, rfl⟩
            rw [← hln] at hrow hown
            obtain ⟨o0, o1⟩ := var2 hrow
            obtain ⟨p0, p1, p2, p3, p4⟩ := var5' Hb5.out
            have of := row_free hrow
            have hal : Chg NoB w5 (w5.alloc (.cells #[.int .i64 no, .int .i64 op, .int .i64 n, .string (tx sx), .string (tx lb)] 76)) := (Chg.refl NoB w5).alloc _
            have o0a := hal.keep o0
            have o1a := hal.keep o1
            have Hrow := Lib.hid hrow
            have Hown := Lib.hid hown
            have Hln := Lib.hid hln
            have hlb : ln + 1 ≤ 1048576 := by omega
            have Hbase := Lib.hid (show lo ≤ w5.heap.size from Nat.le_trans h4 Hc5.out.size)
            clear hrow hown hln
            go_region_law (refine step_line (by rfl) w5 (.tmp 44) (.tmp 46) (by rfl) lo ln (.slice q ln cp) s.list ⟨no, ⟨op, n, sx⟩, lb⟩ (by rfl) (by rfl) Hown.out hlb Hbase.out ?_; intro v9 w9 hown9 hch9; obtain ⟨q9, c9, rfl, -, -⟩ := row_shape hown9; have y1 := hch9.cell o1 (fun e => by have := (World.ownsRow.lt Hown.out ob e).1; omega); have yf := hch9.frozen o1 (fun e => by have := (World.ownsRow.lt Hown.out ob e).1; omega) (of 1))
            all_goals
              have Hown9 := Lib.hid hown9
              have Hch9 := Lib.hid hch9
              clear hown9 hch9 y1 yf o0 o1 o0a o1a hal
              go_wp2_with fail
              go_ret
              have hob : ∀ k, (Value.slice q ln cp).ownBlock = some k → lo ≤ k := fun k e => (World.ownsRow.lt Hown.out k e).1
              have hrow9 := row_kept Hch9.out Hrow.out (fun e => by have := hob ob e; omega)
              have hset : Chg (fun k => k = ob) w9 (w9.setCell ⟨ob, 1, none⟩ (.slice q9 (ln + 1) c9)) := (Chg.refl (fun k => k = ob) w9).setCell (p := ⟨ob, 1, none⟩) (.inl rfl) _
              have hll : (s.list ++ [(⟨no, ⟨op, n, sx⟩, lb⟩ : LineL)]).length = ln + 1 := by rw [List.length_append, ← Hln.out]; rfl
              refine ⟨?_, ?_, ?_⟩
              · exact ((Hc5.out.mono fun _ _ => False.elim).trans (Hch9.out.mono fun k _ e => .inr (.inr (hob k e)))).trans (hset.mono fun k _ e => .inl e)
              · exact ((Hc5.out.keepsF lo fun _ _ => id).trans ((rowN_others Hown.out Hch9.out).from lo)).trans ((KeepsOthers.setCell _ _ _).from lo)
              · rw [Hr.out]
                refine ⟨rfl, ⟨q9, c9, ?_, ?_⟩, ?_, Hs.out.nd, ?_, ?_, Hs.out.wf.2.2⟩
                · rw [hll]; exact heap_set hrow9 (i := 1) _
                · rw [hll]
                  exact ownsRow_chg Hown9.out hset fun k e x => by have := (World.ownsRow.lt Hown9.out k e).1; omega
                · obtain ⟨es, clock, hb, hrr⟩ := Hs5.out.map
                  have hb9 := row_kept Hch9.out hb (fun e => by have := hob mb e; omega)
                  exact ⟨es, clock, row_kept hset hb9 h2, hrr⟩
                · intro l hlm
                  rcases List.mem_append.1 hlm with h | h
                  · exact Hs.out.wf.1 l h
                  · rw [List.mem_singleton.1 h]
                    exact ⟨Hwx.out, by simp only; omega, by simp only; omega⟩
                · rw [hll]; have := Hln.out; omega
      · rw [if_neg hla, decide_eq_false hla] at HS
        rw [decide_eq_false hla, Bool.false_and] at hml
        rw [if_neg (by rw [hml]; simp)] at Hr
        clear hla
        go_enter Tryd.func19, Tryd.ntmps19
        go_wp2_with fail
        refine HS.out.mono ?_
        rintro e w1 ⟨rfl, hw1⟩
        obtain rfl : w = w1 := hw1.symm
        have Hc2 := Lib.hid (Chg.refl NoB w)
        have HI := Lib.hid (inst_any (c :: r) base w (Hv.out.keep Hc2.out) ht)
        have Hwf := Lib.hid (fun x (h : insF (c :: r) = some x) => insF_wf h ht)
        generalize insF (c :: r) = o at *
        go_wp2_with fail
        refine HI.out.mono ?_
        rintro e w3 ⟨hc3, he3⟩
        have Hc3 := Lib.hid (Hc2.out.trans hc3)
        clear hc3
        cases o with
        | none =>
          obtain ⟨op, n, s4, l4, rfl⟩ := he3
          have hal_ := (Chg.refl NoB w3).alloc (.cells #[.int .i64 0, .int .i64 op, .int .i64 n, .string s4, .string l4] 76)
          have hb_ := heap_alloc_new w3 (.cells #[.int .i64 0, .int .i64 op, .int .i64 n, .string s4, .string l4] 76)
          obtain ⟨b9, hxb_⟩ : ∃ b, b = w3.heap.size := ⟨_, rfl⟩
          obtain ⟨w4, hw_⟩ : ∃ w_, w3.alloc (.cells #[.int .i64 0, .int .i64 op, .int .i64 n, .string s4, .string l4] 76) = w_ := ⟨_, rfl⟩
          have hz_ : w4.heap.size = b9 + 1 := by rw [← hw_, hxb_]; exact alloc_size _ _
          rw [hw_] at hal_ hb_
          rw [← hxb_] at hb_
          have Hw9 := Lib.hid hw_
          have Hx9 := Lib.hid hxb_
          have Ha9 := Lib.hid hal_
          have Hb9 := Lib.hid hb_
          have Hz9 := Lib.hid hz_
          clear hal_ hb_ hxb_ hw_ hz_
          simp only [LineV]
          go_wp2_with fail
          go_ret
          rw [Hw9.out]
          have hc := Hc3.out.trans Ha9.out
          exact ⟨hc.mono fun _ _ => False.elim, hc.keepsF lo fun _ _ => id, by rw [Hr.out]; rfl⟩
        | some x =>
          obtain ⟨⟨op, n, sx⟩, lb⟩ := x
          subst he3
          simp only [LineV]
          have hal_ := (Chg.refl NoB w3).alloc (.cells #[.int .i64 0, .int .i64 op, .int .i64 n, .string (tx sx), .string (tx lb)] 76)
          have hb_ := heap_alloc_new w3 (.cells #[.int .i64 0, .int .i64 op, .int .i64 n, .string (tx sx), .string (tx lb)] 76)
          obtain ⟨b9, hxb_⟩ : ∃ b, b = w3.heap.size := ⟨_, rfl⟩
          obtain ⟨w4, hw_⟩ : ∃ w_, w3.alloc (.cells #[.int .i64 0, .int .i64 op, .int .i64 n, .string (tx sx), .string (tx lb)] 76) = w_ := ⟨_, rfl⟩
          have hz_ : w4.heap.size = b9 + 1 := by rw [← hw_, hxb_]; exact alloc_size _ _
          rw [hw_] at hal_ hb_
          rw [← hxb_] at hb_
          have Hw9 := Lib.hid hw_
          have Hx9 := Lib.hid hxb_
          have Ha9 := Lib.hid hal_
          have Hb9 := Lib.hid hb_
          have Hz9 := Lib.hid hz_
          clear hal_ hb_ hxb_ hw_ hz_
          have Hc5 := Lib.hid ((Hc3.out.trans Ha9.out).above ((Chg.refl (fun k => k = b9) w4).setCell (p := ⟨b9, 0, none⟩) (.inl rfl) (.int .i64 no)) fun k e => by have := Hx9.out; have := Hc3.out.size; omega)
          have Hb5 := Lib.hid (heap_set Hb9.out (i := 0) (.int .i64 no))
          have z0 := (var5' Hb9.out).1
          have zf := row_free Hb9.out
          have Hwx := Lib.hid (Hwf.out _ rfl)
          clear Hwf
          go_upto_region 9 with fail
          rw [Hw9.out, ← Hx9.out]
          go_upto_region 10 with fail
          clear z0 zf
          generalize w4.setCell ⟨b9, 0, none⟩ (.int .i64 no) = w5 at *
          have Hs5 := Lib.hid (Hs.out.keep Hc5.out)
          obtain ⟨q, cp, hrow, hown⟩ := Hs5.out.row
          obtain ⟨ln, hln⟩ : ∃ n, n = s.list.length := ⟨_, rfl⟩
          rw [← hln] at hrow hown
          obtain ⟨o0, o1⟩ := var2 hrow
          obtain ⟨p0, p1, p2, p3, p4⟩ := var5' Hb5.out
          have of := row_free hrow
          have hal : Chg NoB w5 (w5.alloc (.cells #[.int .i64 no, .int .i64 op, .int .i64 n, .string (tx sx), .string (tx lb)] 76)) := (Chg.refl NoB w5).alloc _
          have o0a := hal.keep o0
          have o1a := hal.keep o1
          have Hrow := Lib.hid hrow
          have Hown := Lib.hid hown
          have Hln := Lib.hid hln
          have hlb : ln + 1 ≤ 1048576 := by omega
          have Hbase := Lib.hid (show lo ≤ w5.heap.size from Nat.le_trans h4 Hc5.out.size)
          clear hrow hown hln
          go_region_law (refine step_line (by rfl) w5 (.tmp 44) (.tmp 46) (by rfl) lo ln (.slice q ln cp) s.list ⟨no, ⟨op, n, sx⟩, lb⟩ (by rfl) (by rfl) Hown.out hlb Hbase.out ?_; intro v9 w9 hown9 hch9; obtain ⟨q9, c9, rfl, -, -⟩ := row_shape hown9; have y1 := hch9.cell o1 (fun e => by have := (World.ownsRow.lt Hown.out ob e).1; omega); have yf := hch9.frozen o1 (fun e => by have := (World.ownsRow.lt Hown.out ob e).1; omega) (of 1))
          all_goals
            have Hown9 := Lib.hid hown9
            have Hch9 := Lib.hid hch9
            clear hown9 hch9 y1 yf o0 o1 o0a o1a hal
            go_wp2_with fail
            go_ret
            have hob : ∀ k, (Value.slice q ln cp).ownBlock = some k → lo ≤ k := fun k e => (World.ownsRow.lt Hown.out k e).1
            have hrow9 := row_kept Hch9.out Hrow.out (fun e => by have := hob ob e; omega)
            have hset : Chg (fun k => k = ob) w9 (w9.setCell ⟨ob, 1, none⟩ (.slice q9 (ln + 1) c9)) := (Chg.refl (fun k => k = ob) w9).setCell (p := ⟨ob, 1, none⟩) (.inl rfl) _
            have hll : (s.list ++ [(⟨no, ⟨op, n, sx⟩, lb⟩ : LineL)]).length = ln + 1 := by rw [List.length_append, ← Hln.out]; rfl
            refine ⟨?_, ?_, ?_⟩
            · exact ((Hc5.out.mono fun _ _ => False.elim).trans (Hch9.out.mono fun k _ e => .inr (.inr (hob k e)))).trans (hset.mono fun k _ e => .inl e)
            · exact ((Hc5.out.keepsF lo fun _ _ => id).trans ((rowN_others Hown.out Hch9.out).from lo)).trans ((KeepsOthers.setCell _ _ _).from lo)
            · rw [Hr.out]
              refine ⟨rfl, ⟨q9, c9, ?_, ?_⟩, ?_, Hs.out.nd, ?_, ?_, Hs.out.wf.2.2⟩
              · rw [hll]; exact heap_set hrow9 (i := 1) _
              · rw [hll]
                exact ownsRow_chg Hown9.out hset fun k e x => by have := (World.ownsRow.lt Hown9.out k e).1; omega
              · obtain ⟨es, clock, hb, hrr⟩ := Hs5.out.map
                have hb9 := row_kept Hch9.out hb (fun e => by have := hob mb e; omega)
                exact ⟨es, clock, row_kept hset hb9 h2, hrr⟩
              · intro l hlm
                rcases List.mem_append.1 hlm with h | h
                · exact Hs.out.wf.1 l h
                · rw [List.mem_singleton.1 h]
                  exact ⟨Hwx.out, by simp only; omega, by simp only; omega⟩
              · rw [hll]; have := Hln.out; omega
end Go.Proofs.YtaihgciokfkonaaDoor
