/- The contract of the source's program. Conditions: the source lies as AmLab says; the list of words reads as listed. -/
import Derived.Test.YtaihgciokfkonaaDoorAmAdd
import Derived.Test.YtaihgciokfkonaaDoorCdFind
import Derived.Deep.QuietTactic
import Derived.BigQuiet

namespace Go.Proofs.YtaihgciokfkonaaDoor
set_option linter.unusedVariables false
open Go.ChangeShapes Go.WideShapes Go.ChangeAt Go.RowKit Go.ChangeMaps Go.MapKept
open Go.Maps (Keyed string_keyed)
theorem look_run (ls : List (List UInt8 × Int)) (mb k : Nat) (n : List UInt8) (w : World) (hm : w.ownsMap Tryd.prog 9 (plainElem Tryd.prog 3) mb k (labD ls)) (hnd : (ls.map Prod.fst).Nodup) (hn : n.length ≤ 1048576) :
    (Instr.lookup 41 (.map (some mb)) (.string (tx n)) true).run Tryd.prog w = .ok (.tuple #[.int .i64 ((atK ls n).getD 0), .bool (atK ls n).isSome]) w := by
  have K : Keyed Tryd.prog 9 := string_keyed Tryd.underlying9
  obtain ⟨v, ps, hrun, hv⟩ := hm.look_ok K Tryd.underlying41 (zInt w) (plainElem_int (H := Unit) Tryd.underlying3 (by decide)) (kkey n hn)
  obtain ⟨c, rfl, hc, -⟩ := plainElem_int_inv Tryd.underlying3 hv
  rw [hrun, labD_has, ← atK_has]
  have := congrArg Prod.fst hc
  simp only [labD_at ls n _ hnd] at this
  cases ha : atK ls n with
  | none => rw [ha] at this; simp only at this; cases this; rfl
  | some a => rw [ha] at this; simp only at this; cases this; rfl
/- an instruction that was just laid, put behind instructions of the call's own -/
theorem wpList_ins {w : World} {ops : Array Oper} {rest : List Oper} {o : Oper} {a : Act} {Q : Exit → Act → World → Prop} (hgd : o.guard = none) (s x : Operand)
    (ho : o.op = .call { callee := .builtin .append, args := #[s, x], argTypes := #[23, 23] })
    {base n : Nat} {v : Value} {l : List InsL} {y : InsL} {b : Nat} (hs : a.eval s = v) (hx : a.eval x = .slice (some ⟨b, 0, none⟩) 1 1) (hown : w.ownsRow base 38 3 v n (flatI l)) (hb : w.heap[b]? = some (.cells #[.int .i64 y.op, .int .i64 y.n, .string (tx y.s)] 38 (0, 0))) (hl : n + 1 ≤ 1048576) (hbase : base ≤ w.heap.size)
    (h : ∀ v' w', w'.ownsRow base 38 3 v' (n + 1) (flatI (l ++ [y])) → Chg (fun j => v.ownBlock = some j) w w' → wpList Tryd.prog ops Q rest (a.put o.dst v') w') : wpList Tryd.prog ops Q (o :: rest) a w := by
  obtain ⟨i0, hi, hz0, hz1, hz2⟩ := info_parts insInfo
  refine wpList_append_own w hgd s x 23 ho base 38 i0 (.agg #[.int .i64 0, .int .i64 0, .string ⟨#[]⟩]) 3 32 Tryd.underlying23 hi hz0 hz1 hz2 rfl (by decide) v n (flatI l) hs hown ⟨b, 0, none⟩ 1 1 (flatI [y]) hx rfl (fun j u hj => ?_) (flatI_one [y]) (by unfold maxLen; omega) (by omega) hbase ?_
  · rw [add_zero_off, cell_of_row w b j _ _ (0, 0) hb]
    show (flatI [y]).toArray[j]? = some u
    rw [List.getElem?_toArray]
    exact hj
  · intro v' w' h1 h2 _
    refine h v' w' ?_ ((Chg.refl _ w).grown h2 fun j hj => .inl hj)
    rw [flatI_app]
    exact h1
theorem fillF_snoc (ls : List (List UInt8 × Int)) : ∀ (a : List LineL) (x : LineL) (p : List InsL), fillF ls a = .ok p → fillF ls (a ++ [x]) = if x.lab = [] then .ok (p ++ [x.ins]) else match atK ls x.lab with
    | none => .error x.no
    | some v => .ok (p ++ [⟨x.ins.op, v, x.ins.s⟩]) := by
  intro a
  induction a with
  | nil =>
    intro x p h
    cases h
    rw [List.nil_append, fillF]
    by_cases hx : x.lab = []
    · rw [if_pos hx, if_pos hx]; rfl
    · rw [if_neg hx, if_neg hx]; cases atK ls x.lab <;> rfl
  | cons z r ih =>
    intro x p h
    rw [List.cons_append, fillF]
    rw [fillF] at h
    by_cases hz : z.lab = []
    · rw [if_pos hz] at h ⊢
      cases hf : fillF ls r with
      | error e => rw [hf] at h; cases h
      | ok q =>
        rw [hf] at h
        cases h
        rw [ih x q hf]
        by_cases hx : x.lab = []
        · rw [if_pos hx, if_pos hx]; rfl
        · rw [if_neg hx, if_neg hx]; cases atK ls x.lab <;> rfl
    · rw [if_neg hz] at h ⊢
      cases ha : atK ls z.lab with
      | none => rw [ha] at h; cases h
      | some v =>
        rw [ha] at h
        simp only at h ⊢
        cases hf : fillF ls r with
        | error e => rw [hf] at h; cases h
        | ok q =>
          rw [hf] at h
          cases h
          rw [ih x q hf]
          by_cases hx : x.lab = []
          · rw [if_pos hx, if_pos hx]; rfl
          · rw [if_neg hx, if_neg hx]; cases atK ls x.lab <;> rfl
theorem fillF_err (ls : List (List UInt8 × Int)) : ∀ (a b : List LineL) (e : Int), fillF ls a = .error e → fillF ls (a ++ b) = .error e := by
  intro a
  induction a with
  | nil => intro b e h; cases h
  | cons z r ih =>
    intro b e h
    rw [fillF] at h
    rw [List.cons_append, fillF]
    by_cases hz : z.lab = []
    · rw [if_pos hz] at h ⊢
      cases hf : fillF ls r with
      | error e' => rw [hf] at h; cases h; rw [ih b _ hf]; rfl
      | ok q => rw [hf] at h; cases h
    · rw [if_neg hz] at h ⊢
      cases ha : atK ls z.lab with
      | none => rw [ha] at h; exact h
      | some v =>
        rw [ha] at h
        simp only at h ⊢
        cases hf : fillF ls r with
        | error e' => rw [hf] at h; cases h; rw [ih b _ hf]; rfl
        | ok q => rw [hf] at h; cases h
theorem check30 {p : List InsL} (h : (checkF p).2 = 30) : ∃ k : Nat, (checkF p).1 = (k : Int) ∧ k < p.length := by
  unfold checkF at h ⊢
  split at h
  · simp at h
  · rename_i hn
    rw [if_neg hn]
    cases hi : p.findIdx? (fun x => !standsF x p.length) with
    | none => rw [hi] at h; simp at h
    | some k => exact ⟨k, rfl, (List.findIdx?_eq_some_iff_getElem.1 hi).1⟩
theorem fill_wf {ls : List (List UInt8 × Int)} (hb : ∀ x ∈ ls, -9223372036854775808 ≤ x.2 ∧ x.2 ≤ 9223372036854775807) : ∀ {l : List LineL} {p : List InsL}, fillF ls l = .ok p → (∀ z ∈ l, z.ins.wf) → ∀ x ∈ p, x.wf := by
  intro l
  induction l with
  | nil => intro p h _ x hx; cases h; cases hx
  | cons z r ih =>
    intro p h hw x hx
    rw [fillF] at h
    by_cases hz : z.lab = []
    · rw [if_pos hz] at h
      cases hf : fillF ls r with
      | error e => rw [hf] at h; cases h
      | ok q =>
        rw [hf] at h
        cases h
        rcases List.mem_cons.1 hx with rfl | hx
        · exact hw z List.mem_cons_self
        · exact ih hf (fun y hy => hw y (List.mem_cons_of_mem _ hy)) x hx
    · rw [if_neg hz] at h
      cases ha : atK ls z.lab with
      | none => rw [ha] at h; cases h
      | some v =>
        rw [ha] at h
        simp only at h
        cases hf : fillF ls r with
        | error e => rw [hf] at h; cases h
        | ok q =>
          rw [hf] at h
          cases h
          rcases List.mem_cons.1 hx with rfl | hx
          · have hz := hw z List.mem_cons_self
            unfold atK at ha
            cases hfi : ls.find? (fun x => x.1 == z.lab) with
            | none => rw [hfi] at ha; cases ha
            | some y =>
              rw [hfi] at ha
              cases ha
              exact ⟨hz.1, hb y (List.mem_of_find?_eq_some hfi), hz.2.2⟩
          · exact ih hf (fun y hy => hw y (List.mem_cons_of_mem _ hy)) x hx
def ProgP (r : List InsL × Int × Int) (w : World) (e : Ending) (w' : World) : Prop := Chg NoB w w' ∧ ∃ v, e = .returned (.tuple #[v, .int .i64 r.2.1, .int .i64 r.2.2]) ∧ w'.ownsRow w.heap.size 38 3 v r.1.length (flatI r.1)
set_option maxHeartbeats 4000000 in
set_option maxRecDepth 20000 in
theorem prog_any (lo ob mb base : Nat) (s : SrcL) (w : World) (hs : SrcM w lo ob mb s) (hv : Av base w) (hlab : ∀ l ∈ s.list, l.lab.length ≤ 65536) (hlb : ∀ x ∈ s.labs, -9223372036854775808 ≤ x.2 ∧ x.2 ≤ 9223372036854775807) : Calls Tryd.prog 20 #[.pointer (some ⟨ob, 0, none⟩)] w (ProgP (endF s) w) := by
  obtain ⟨q, c, hrow, hown⟩ := hs.row
  obtain ⟨c0, c1⟩ := var2 hrow
  obtain ⟨len, hlen⟩ : ∃ n, n = s.list.length := ⟨_, rfl⟩
  rw [← hlen] at c1 hown
  have hcell := fun g (hg : q = some ⟨g, 0, none⟩) => World.ownsRow.cells (g := g) hown (by rw [hg]; rfl)
  have hq : len ≠ 0 → ∃ g, q = some ⟨g, 0, none⟩ := by
    intro h0
    rcases hown.2 with ⟨e, -⟩ | ⟨g, cap, cur, e, -⟩
    · cases e; exact absurd rfl h0
    · cases e; exact ⟨g, rfl⟩
  have Hs := Lib.hid hs
  have Hv := Lib.hid hv
  have Hlen := Lib.hid hlen
  have Hcell := Lib.hid hcell
  have Hq := Lib.hid hq
  have Hlab := Lib.hid hlab
  have Hlb := Lib.hid hlb
  have hle : len ≤ 131072 := by rw [hlen]; exact hs.wf.2.1
  clear hrow hown hcell hq hs hv hlen hlab hlb
  go_enter Tryd.func20, Tryd.ntmps20
  go_wp2_with fail
  go_loopw [5, 17] (fun pv iv wr => ∃ (k : Nat) (p : List InsL), k ≤ len ∧ iv = .int .i64 k ∧ fillF s.labs (s.list.take k) = .ok p ∧ p.length = k ∧ wr.ownsRow w.heap.size 38 3 pv k (flatI p) ∧ Chg NoB w wr) (fun _ iv _ => len - (intOf iv).toNat)
  case atStart => exact ⟨0, [], Nat.zero_le _, rfl, rfl, rfl, World.ownsRow_nil _ _ _ _, Chg.refl _ _⟩
  case round =>
    obtain ⟨k, p, hk, rfl, hf, hpl, hor, hch⟩ := hrel
    obtain ⟨q2, cp2, rfl, -, -⟩ := row_shape hor
    have Hf := Lib.hid hf
    have Hpl := Lib.hid hpl
    have Hor := Lib.hid hor
    have Hch := Lib.hid hch
    clear hf hpl hor hch
    by_cases hlt : k < len
    · have hkl : k < s.list.length := by rw [← Hlen.out]; exact hlt
      obtain ⟨g, rfl⟩ := Hq.out (by omega)
      obtain ⟨a0, a1, a2, a3, a4⟩ := flatN_at s.list k hkl
      have p0 := Hch.out.keep (Hcell.out g rfl _ _ a0)
      have p1 := Hch.out.keep (Hcell.out g rfl _ _ a1)
      have p2 := Hch.out.keep (Hcell.out g rfl _ _ a2)
      have p3 := Hch.out.keep (Hcell.out g rfl _ _ a3)
      have p4 := Hch.out.keep (Hcell.out g rfl _ _ a4)
      rw [add_zero_off] at p0 p1 p2 p3 p4
      have Hsn := Lib.hid (fillF_snoc s.labs (s.list.take k) s.list[k] p Hf.out)
      rw [← take_at hkl] at Hsn
      have Hxl := Lib.hid (Hlab.out s.list[k] (List.getElem_mem hkl))
      have Hff := Lib.hid (fun e (h : fillF s.labs (s.list.take (k + 1)) = .error e) => by
        have := fillF_err s.labs (s.list.take (k + 1)) (s.list.drop (k + 1)) e h
        rw [List.take_append_drop] at this
        exact this)
      clear a0 a1 a2 a3 a4
      generalize s.list[k] = x at *
      obtain ⟨no, ⟨op, n, sx⟩, lb⟩ := x
      simp only at p0 p1 p2 p3 p4
      have hal_ := (Chg.refl NoB wr).alloc (.cells #[.int .i64 no, .int .i64 op, .int .i64 n, .string (tx sx), .string (tx lb)] 76)
      have hb_ := heap_alloc_new wr (.cells #[.int .i64 no, .int .i64 op, .int .i64 n, .string (tx sx), .string (tx lb)] 76)
      obtain ⟨b7, hxb_⟩ : ∃ b, b = wr.heap.size := ⟨_, rfl⟩
      obtain ⟨w3, hw_⟩ : ∃ w_, wr.alloc (.cells #[.int .i64 no, .int .i64 op, .int .i64 n, .string (tx sx), .string (tx lb)] 76) = w_ := ⟨_, rfl⟩
      have hz_ : w3.heap.size = b7 + 1 := by rw [← hw_, hxb_]; exact alloc_size _ _
      rw [hw_] at hal_ hb_
      rw [← hxb_] at hb_
      have Hw7 := Lib.hid hw_
      have Hx7 := Lib.hid hxb_
      have Ha7 := Lib.hid hal_
      have Hb7 := Lib.hid hb_
      have Hz7 := Lib.hid hz_
      clear hal_ hb_ hxb_ hw_ hz_
      have en := txQ lb
      have Hc3 := Lib.hid (Hch.out.trans Ha7.out)
      have Hor3 := Lib.hid (ownsRow_chg Hor.out Ha7.out fun _ _ => id)
      obtain ⟨e0, e1, e2, e3, e4⟩ := var5' Hb7.out
      have ef := row_free Hb7.out
      have d0 := Hc3.out.keep c0
      have hkb : k + 1 ≤ 1048576 := by omega
      rcases lb with _ | ⟨b, lb⟩
      · replace Hsn := Lib.hid (show fillF s.labs (s.list.take (k + 1)) = .ok (p ++ [⟨op, n, sx⟩]) by rw [Hsn.out]; rfl)
        have hal_ := (Chg.refl NoB w3).alloc (.cells #[.int .i64 op, .int .i64 n, .string (tx sx)] 38)
        have hb_ := heap_alloc_new w3 (.cells #[.int .i64 op, .int .i64 n, .string (tx sx)] 38)
        obtain ⟨b8, hxb_⟩ : ∃ b, b = w3.heap.size := ⟨_, rfl⟩
        obtain ⟨w4, hw_⟩ : ∃ w_, w3.alloc (.cells #[.int .i64 op, .int .i64 n, .string (tx sx)] 38) = w_ := ⟨_, rfl⟩
        have hz_ : w4.heap.size = b8 + 1 := by rw [← hw_, hxb_]; exact alloc_size _ _
        rw [hw_] at hal_ hb_
        rw [← hxb_] at hb_
        have Hw8 := Lib.hid hw_
        have Hx8 := Lib.hid hxb_
        have Ha8 := Lib.hid hal_
        have Hb8 := Lib.hid hb_
        have Hz8 := Lib.hid hz_
        clear hal_ hb_ hxb_ hw_ hz_
        have Hor4 := Lib.hid (ownsRow_chg Hor3.out Ha8.out fun _ _ => id)
        have Hbase := Lib.hid (show w.heap.size ≤ w4.heap.size from (Hc3.out.trans Ha8.out).size)
        go_upto_region 5 with fail
        rw [Hw7.out, ← Hx7.out]
        clear p0 p1 p2 p3 p4
        go_wp2_with (at_builtin; go_loud (rw [← Hx8.out, Hw8.out]); go_loud (refine wpList_ins (v := .slice q2 k cp2) (y := ⟨op, n, sx⟩) rfl _ _ rfl rfl rfl Hor4.out Hb8.out hkb Hbase.out ?_); intro v9 w9 hown9 hch9)
        go_roundw
        case rel => exact ⟨k + 1, p ++ [⟨op, n, sx⟩], by omega, by go_num, Hsn.out, by rw [List.length_append, Hpl.out]; rfl, hown9, (Hc3.out.trans Ha8.out).above hch9 fun j hj => (World.ownsRow.lt Hor4.out j hj).1⟩
        case measure => simp [intOf]; omega
      · have hm3 := (Hs.out.keep Hc3.out).map
        have hlook : ∀ m, (Instr.lookup 41 (.map (some mb)) (.string (tx (b :: lb))) true).run Tryd.prog (w3.drewN m) = .ok (.tuple #[.int .i64 ((atK s.labs (b :: lb)).getD 0), .bool (atK s.labs (b :: lb)).isSome]) (w3.drewN m) := fun m =>
          look_run s.labs mb _ (b :: lb) (w3.drewN m) hm3 Hs.out.nd (by have := Hxl.out; simp only at this; omega)
        go_upto_region 5 with fail
        rw [Hw7.out, ← Hx7.out]
        clear p0 p1 p2 p3 p4
        cases hat : atK s.labs (b :: lb) with
        | none =>
          rw [hat] at hlook
          simp only [Option.getD_none, Option.isSome_none] at hlook
          have Hend := Lib.hid (show endF s = ([], no, 31) by
            unfold endF
            rw [Hff.out no (by rw [Hsn.out, if_neg (List.cons_ne_nil _ _)]; simp only; rw [hat])])
          clear hat
          go_wp2_with fail
          go_quiet (fail)
          have Hdr := Lib.hid ((Chg.refl NoB w3).drewN nq)
          have HcD := Lib.hid (Hc3.out.trans Hdr.out)
          have Hb7d := Lib.hid (row_kept Hdr.out Hb7.out id)
          have HorD := Lib.hid (ownsRow_chg Hor3.out Hdr.out fun _ _ => id)
          clear hlook hm3 e0 e1 e2 e3 e4 ef d0
          generalize w3.drewN nq = w4 at *
          obtain ⟨e0, e1, e2, e3, e4⟩ := var5' Hb7d.out
          have ef := row_free Hb7d.out
          go_wp2_with fail
          go_quiet (fail)
          have HcQ := Lib.hid (HcD.out.drewN nq)
          generalize w4.drewN nq = w6 at *
          go_wp2_with fail
          go_ret3
          exact ⟨HcQ.out, .slice none 0 0, by rw [Hend.out]; rfl, by rw [Hend.out]; exact World.ownsRow_nil _ _ _ _⟩
        | some a =>
          rw [hat] at hlook
          simp only [Option.getD_some, Option.isSome_some] at hlook
          replace Hsn := Lib.hid (show fillF s.labs (s.list.take (k + 1)) = .ok (p ++ [⟨op, a, sx⟩]) by rw [Hsn.out, if_neg (List.cons_ne_nil _ _)]; simp only; rw [hat])
          clear hat
          go_wp2_with fail
          go_quiet (fail)
          have Hdr := Lib.hid ((Chg.refl NoB w3).drewN nq)
          have HcD := Lib.hid (Hc3.out.trans Hdr.out)
          have Hb7d := Lib.hid (row_kept Hdr.out Hb7.out id)
          have HorD := Lib.hid (ownsRow_chg Hor3.out Hdr.out fun _ _ => id)
          clear hlook hm3 e0 e1 e2 e3 e4 ef d0
          generalize w3.drewN nq = w4 at *
          obtain ⟨e0, e1, e2, e3, e4⟩ := var5' Hb7d.out
          have ef := row_free Hb7d.out
          go_upto_region 10 with fail
          have hset := (Chg.refl (fun k => k = b7) w4).setCell (p := ⟨b7, 2, none⟩) (.inl rfl) (.int .i64 a)
          have Hb9 := Lib.hid (heap_set Hb7d.out (i := 2) (.int .i64 a))
          have Hor9 := Lib.hid (ownsRow_chg HorD.out hset fun j hj e => by have := (World.ownsRow.lt Hor.out j hj).2; have := Hx7.out; omega)
          have Hc9 := Lib.hid (HcD.out.above hset fun j e => by have := Hx7.out; have := Hch.out.size; omega)
          clear e0 e1 e2 e3 e4 ef hset
          generalize w4.setCell ⟨b7, 2, none⟩ (.int .i64 a) = w5 at *
          obtain ⟨e0, e1, e2, e3, e4⟩ := var5' Hb9.out
          have hal_ := (Chg.refl NoB w5).alloc (.cells #[.int .i64 op, .int .i64 a, .string (tx sx)] 38)
          have hb_ := heap_alloc_new w5 (.cells #[.int .i64 op, .int .i64 a, .string (tx sx)] 38)
          obtain ⟨b8, hxb_⟩ : ∃ b, b = w5.heap.size := ⟨_, rfl⟩
          obtain ⟨w6, hw_⟩ : ∃ w_, w5.alloc (.cells #[.int .i64 op, .int .i64 a, .string (tx sx)] 38) = w_ := ⟨_, rfl⟩
          have hz_ : w6.heap.size = b8 + 1 := by rw [← hw_, hxb_]; exact alloc_size _ _
          rw [hw_] at hal_ hb_
          rw [← hxb_] at hb_
          have Hw8 := Lib.hid hw_
          have Hx8 := Lib.hid hxb_
          have Ha8 := Lib.hid hal_
          have Hb8 := Lib.hid hb_
          have Hz8 := Lib.hid hz_
          clear hal_ hb_ hxb_ hw_ hz_
          have Hor6 := Lib.hid (ownsRow_chg Hor9.out Ha8.out fun _ _ => id)
          have Hbase := Lib.hid (show w.heap.size ≤ w6.heap.size from (Hc9.out.trans Ha8.out).size)
          go_wp2_with (at_builtin; go_loud (rw [← Hx8.out, Hw8.out]); go_loud (refine wpList_ins (v := .slice q2 k cp2) (y := ⟨op, a, sx⟩) rfl _ _ rfl rfl rfl Hor6.out Hb8.out hkb Hbase.out ?_); intro v9 w9 hown9 hch9)
          go_roundw
          case rel => exact ⟨k + 1, p ++ [⟨op, a, sx⟩], by omega, by go_num, Hsn.out, by rw [List.length_append, Hpl.out]; rfl, hown9, (Hc9.out.trans Ha8.out).above hch9 fun j hj => (World.ownsRow.lt Hor6.out j hj).1⟩
          case measure => simp [intOf]; omega
    · obtain rfl : k = len := by omega
      have Hfa := Lib.hid (show fillF s.labs s.list = .ok p by have := Hf.out; rwa [show s.list.take k = s.list by rw [Hlen.out]; exact List.take_length] at this)
      have hwf : ∀ i (hi : i < p.length), p[i].wf := fun i hi => fill_wf Hlb.out Hfa.out (fun l hl => (Hs.out.wf.1 l hl).1) _ (List.getElem_mem hi)
      have horp : wr.ownsRow w.heap.size 38 3 (.slice q2 k cp2) p.length (flatI p) := by rw [Hpl.out]; exact Hor.out
      obtain ⟨kb, hins⟩ := InsS.of_row horp hwf
      have HC := Lib.hid (check_any p _ (.slice q2 k cp2) kb 0 base wr (Hv.out.keep Hch.out).wd (by rw [Hpl.out]; omega) hins)
      have Hend := Lib.hid (show endF s = if (checkF p).2 = 30 then ([], ((s.list.map LineL.no).getD (checkF p).1.toNat 0), 30) else if (checkF p).2 ≠ 0 then ([], 0, (checkF p).2) else (p, 0, 0) by
        unfold endF; rw [Hfa.out])
      have H30 := Lib.hid (fun h => check30 (p := p) h)
      have Hor2 := Lib.hid (show ∀ W, Chg NoB wr W → W.ownsRow w.heap.size 38 3 (.slice q2 k cp2) p.length (flatI p) from fun W h => ownsRow_chg horp h fun _ _ => id)
      clear hwf horp hins
      generalize checkF p = ck at *
      obtain ⟨at', er⟩ := ck
      go_wp2_with fail
      refine HC.out.mono ?_
      rintro e w3 ⟨rfl, hc3⟩
      have Hc3 := Lib.hid hc3
      have Hc13 := Lib.hid (Hch.out.trans hc3)
      clear hc3
      by_cases h30 : er = 30
      · have h30b : (er == 30) = true := by simp [h30]
        rw [if_pos h30] at Hend
        obtain ⟨i, hi, hil⟩ := H30.out h30
        replace hi : at' = (i : Int) := hi
        subst hi
        have hik : i < s.list.length := by rw [← Hlen.out, ← Hpl.out]; exact hil
        have hkn : i < k := by rw [← Hpl.out]; exact hil
        obtain ⟨g, rfl⟩ := Hq.out (by omega)
        obtain ⟨a0, -, -, -, -⟩ := flatN_at s.list i hik
        have p0 := Hc13.out.keep (Hcell.out g rfl _ _ a0)
        rw [add_zero_off] at p0
        have Hno := Lib.hid (show (s.list.map LineL.no).getD i 0 = s.list[i].no by
          rw [List.getD_eq_getElem?_getD, List.getElem?_map, List.getElem?_eq_getElem hik]; rfl)
        generalize s.list[i].no = no at *
        have d1 := Hc13.out.keep c1
        have l0 : (i : Int) < (k : Int) := by omega
        clear hik hil a0
        subst h30
        go_wp2_with fail
        go_quiet (fail)
        have HcQ := Lib.hid (Hc13.out.drewN nq)
        generalize w3.drewN nq = w6 at *
        go_wp2_with fail
        go_ret3
        exact ⟨HcQ.out, .slice none 0 0, by rw [Hend.out]; simp only [Int.toNat_natCast, Hno.out]; rfl, by rw [Hend.out]; exact World.ownsRow_nil _ _ _ _⟩
      · have h30b : (er == 30) = false := by simp [h30]
        rw [if_neg h30] at Hend
        by_cases h00 : er = 0
        · have h0b : (er != 0) = false := by simp [h00]
          rw [if_neg (by simp [h00])] at Hend
          clear h30 h00
          go_wp2_with fail
          go_ret3
          exact ⟨Hc13.out, .slice q2 k cp2, by rw [Hend.out]; rfl, by rw [Hend.out]; exact Hor2.out _ Hc3.out⟩
        · have h0b : (er != 0) = true := by simp [h00]
          rw [if_pos h00] at Hend
          clear h30 h00
          go_wp2_with fail
          go_ret3
          exact ⟨Hc13.out, .slice none 0 0, by rw [Hend.out]; rfl, by rw [Hend.out]; exact World.ownsRow_nil _ _ _ _⟩
end Go.Proofs.YtaihgciokfkonaaDoor
