/- The contracts of a shelf's Put and All. Condition: at most 2^20 pairs. -/
import Derived.Test.YtbloglfmhhgccaaShIns
import Derived.RegionTactic

namespace Go.Proofs.Ytbloglfmhhgccaa
set_option linter.unusedVariables false
open Go.ChangeShapes Go.WideShapes Go.ChangeAt Go.RowKit
def ShB (lo ob : Nat) : Nat → Prop := fun k => k = ob ∨ lo ≤ k
theorem same_cell {w : World} {b j : Nat} {cs : Array Value} {t : TypeId} {u : Value} (h : w.heap[b]? = some (.cells cs t (0, 0))) (hc : w.cell? ⟨b, j, none⟩ = some u) : (w.setCell ⟨b, j, none⟩ u).heap[b]? = some (.cells cs t (0, 0)) := by
  rw [heap_set h]
  rw [cell_of_row w b j _ _ (0, 0) h] at hc
  have e : cs.setIfInBounds j u = cs := by
    apply Array.ext
    · simp
    · intro k h1 h2
      rw [Array.getElem_setIfInBounds]
      split
      · rename_i hk; subst hk
        rw [Array.getElem?_eq_getElem h2] at hc
        exact (Option.some.inj hc).symm
      · rfl
  rw [e]
/- the block in which a shelf's pairs lie -/
def RowB (w : World) (ob k : Nat) : Prop := ∃ n c, w.heap[ob]? = some (.cells #[.slice (some ⟨k, 0, none⟩) n c] 57 (0, 0))
theorem RowB.same {w w' : World} {ob k : Nat} (h : RowB w ob k) (e : w'.heap[ob]? = w.heap[ob]?) : RowB w' ob k := by obtain ⟨n, c, h⟩ := h; exact ⟨n, c, e.trans h⟩
theorem RowB.at {w : World} {ob k n c : Nat} {q : Option Addr} (h : RowB w ob k) (e : w.heap[ob]? = some (.cells #[.slice q n c] 57 (0, 0))) : q = some ⟨k, 0, none⟩ := by
  obtain ⟨n', c', h⟩ := h
  rw [e] at h
  simp only [Option.some.injEq, Obj.cells.injEq, Array.mk.injEq, List.cons.injEq, Value.slice.injEq] at h
  exact h.1.1.1
def PutB (ob : Nat) (w : World) : Nat → Prop := fun k => k = ob ∨ RowB w ob k
def PutP (ps : List FileL) (x : FileL) (lo ob : Nat) (w : World) (e : Ending) (w' : World) : Prop := Chg (PutB ob w) w w' ∧ (∀ k, RowB w' ob k → RowB w ob k ∨ w.heap.size ≤ k) ∧ ∃ b h, e = .returned (.tuple #[.string b, .bool h]) ∧ ((x ∈ ps ∧ ShO w' lo ob ps) ∨ ((∀ y ∈ ps, y.1 ≠ x.1) ∧ ShO w' lo ob (insF x ps)))
set_option maxHeartbeats 4000000 in
set_option maxRecDepth 20000 in
theorem sput_any (ps : List FileL) (hl : ps.length ≤ 1048576) (lo ob : Nat) (x : FileL) (w : World) (h : ShO w lo ob ps) (hx : x ∈ ps ∨ ∀ y ∈ ps, y.1 ≠ x.1) (hlo : lo ≤ w.heap.size) :
    Calls Try.prog 20 #[.pointer (some ⟨ob, 0, none⟩), .string (tx x.1), .string (tx x.2)] w (PutP ps x lo ob w) := by
  have HF := Lib.hid (find_any ps hl lo ob x.1 w h)
  have Hsh := Lib.hid h
  obtain ⟨q, c, h1, h2, h3⟩ := h.row
  have Hasc := Lib.hid h.asc
  have H1 := Lib.hid h1
  have H2 := Lib.hid h2
  have H3 := Lib.hid h3
  obtain ⟨k, v⟩ := x
  obtain ⟨n, hn⟩ : ∃ n, n = ps.length := ⟨_, rfl⟩
  rw [← hn] at H1 H2 H3 hl
  have Hn := Lib.hid hn
  have Hx := Lib.hid hx
  have Hlo := Lib.hid hlo
  show Calls _ _ #[_, .string (tx k), .string (tx v)] _ _
  change Hid (Calls _ _ #[_, .string (tx k)] _ _) at HF
  clear h h1 h2 h3 hn hx hlo
  go_enter Try.func20, Try.ntmps20
  go_wp2_with fail
  refine HF.out.mono ?_
  rintro e w2 ⟨hc2, i, hp, rfl⟩
  have Hc2 := Lib.hid hc2
  have Hsh2 := Lib.hid (Hsh.out.keep hc2)
  have Hob := Lib.hid (row_kept hc2 H1.out id)
  have Hrow := Lib.hid (ownsRow_chg H2.out hc2 fun _ _ => id)
  have o0 := var1 Hob.out
  rcases place_get Hasc.out hp with ⟨hf, hi, hk, hg⟩ | ⟨hf, hg, hno⟩
  · rw [hf]
    have hin : i < n := by rw [Hn.out]; exact hi
    have hmem : (k, v) ∈ ps := by
      rcases Hx.out with hx | hx
      · exact hx
      · exact absurd hk (hx _ (List.getElem_mem hi))
    have hv : ps[i].2 = v := by
      have := getS_mem Hasc.out hmem
      rw [hg] at this
      exact (Prod.mk.inj this).1
    obtain ⟨g, rfl⟩ : ∃ g, q = some ⟨g, 0, none⟩ := by
      rcases Hrow.out.2 with ⟨e, h0⟩ | ⟨g', cap', cur, e, _⟩
      · omega
      · simp only [Value.slice.injEq] at e
        exact ⟨g', e.1⟩
    obtain ⟨cur, hg0, hgb, -, -, -, -⟩ := row_known Hrow.out
    have c1 : w2.cell? ⟨g, i * 2 + 1, none⟩ = some (.string (tx v)) := by
      have := World.ownsRow.cells (g := g) Hrow.out rfl _ _ (flatP_at ps i hi).2
      rw [add_zero_off, hv] at this
      exact this
    have cf : w2.frozen? ⟨g, i * 2 + 1, none⟩ = false := row_free hgb _
    have Hgb := Lib.hid hgb
    have Hmem := Lib.hid hmem
    have Hkv := Lib.hid (And.intro hk hv)
    have Hg0 := Lib.hid hg0
    clear hc2 hp hf hk hg hmem hv hgb hg0
    go_wp2_with fail
    go_region
    clear c1 cf
    go_wp2_with fail
    go_ret2
    have c1 : w2.cell? ⟨g, i * 2 + 1, none⟩ = some (.string (tx v)) := by
      have := World.ownsRow.cells (g := g) Hrow.out rfl _ _ (flatP_at ps i hi).2
      rw [add_zero_off] at this
      rcases Hx.out with hx | hx
      · have h1 := (flatP_at ps i hi).2
        have hk : ps[i].1 = k ∧ ps[i].2 = v := Hkv.out
        rw [hk.2] at this; exact this
      · have hk : ps[i].1 = k ∧ ps[i].2 = v := Hkv.out
        rw [hk.2] at this; exact this
    have hch : Chg (PutB ob w) w2 (w2.setCell ⟨g, i * 2 + 1, none⟩ (.string (tx v))) := (Chg.refl _ w2).setCell (p := ⟨g, i * 2 + 1, none⟩) (.inl (.inr ⟨_, _, H1.out⟩)) _
    have hst : Chg (fun k => k = g) w2 (w2.setCell ⟨g, i * 2 + 1, none⟩ (.string (tx v))) := (Chg.refl (fun k => k = g) w2).setCell (p := ⟨g, i * 2 + 1, none⟩) (.inl rfl) _
    have hgb := same_cell Hgb.out c1
    have hobE := row_kept hst.drew Hob.out (fun e => H3.out g rfl e.symm)
    refine ⟨((Hc2.out.mono fun k _ h => h.elim).trans hch).drew, fun k hk => .inl ?_, _, true, rfl, .inl ⟨Hmem.out, Hasc.out, some ⟨g, 0, none⟩, c, ?_, ?_, by rw [← Hn.out]; exact H3.out⟩⟩
    · have := hk.at hobE
      exact ⟨_, _, by rw [← this]; exact H1.out⟩
    · rw [← Hn.out]; exact row_kept hst.drew Hob.out (fun e => H3.out g rfl e.symm)
    · rw [← Hn.out]
      rcases Hrow.out.2 with ⟨e, _⟩ | ⟨g', cap', cur', e, r1, r2, r3⟩
      · cases e
      · simp only [Value.slice.injEq, Option.some.injEq] at e
        obtain ⟨e1, -, rfl⟩ := e
        cases e1
        have : cur' = cur := by rw [Hgb.out] at r2; cases r2; rfl
        subst this
        exact ⟨Hrow.out.1, .inr ⟨g, c, cur', rfl, r1, hgb, r3⟩⟩
  · rw [hf]
    have Hp := Lib.hid hp
    have Hno := Lib.hid hno
    have hal_ := (Chg.refl NoB w2).alloc (.cells #[.string (tx k), .string (tx v)] 61)
    have hb_ := heap_alloc_new w2 (.cells #[.string (tx k), .string (tx v)] 61)
    obtain ⟨vb, hxb_⟩ : ∃ b, b = w2.heap.size := ⟨_, rfl⟩
    obtain ⟨w3, hw_⟩ : ∃ w_, w2.alloc (.cells #[.string (tx k), .string (tx v)] 61) = w_ := ⟨_, rfl⟩
    have hz_ : w3.heap.size = vb + 1 := by rw [← hw_, hxb_]; exact alloc_size _ _
    rw [hw_] at hal_ hb_
    rw [← hxb_] at hb_
    have Hw3 := Lib.hid hw_
    have Hx3 := Lib.hid hxb_
    have Ha3 := Lib.hid hal_
    have Hb3 := Lib.hid hb_
    have Hz3 := Lib.hid hz_
    clear hal_ hb_ hxb_ hw_ hz_
    have Hlo3 := Lib.hid (show lo ≤ w3.heap.size by have := Hlo.out; have := hc2.size; have := Ha3.out.size; omega)
    have hins := insert_any ps (k, v) i hp.1 (by rw [← Hn.out]; exact hl) lo q c vb w3 (by rw [← Hn.out]; exact ownsRow_chg Hrow.out Ha3.out fun _ _ => id) (by exact Hb3.out)
      (fun g hg => by have := (World.ownsRow.lt Hrow.out g (by rw [← Hn.out] at hg; exact hg)).2; have := Hx3.out; omega) Hlo3.out
    rw [← Hn.out] at hins
    have Hins := Lib.hid hins
    have hob3 := row_kept Ha3.out Hob.out id
    have Hob3 := Lib.hid hob3
    clear hc2 hp hf hg hno hins hob3
    go_wp2_with fail
    rw [Hw3.out, ← Hx3.out]
    refine Hins.out.mono ?_
    rintro e w4 ⟨q', c', rfl, hown, hch4, hpl4⟩
    rw [← Hn.out] at hown hpl4
    have hob4 := row_kept hch4 Hob3.out (fun e => H3.out ob e rfl)
    have Hob4 := Lib.hid hob4
    have Hown := Lib.hid hown
    have Hch4 := Lib.hid hch4
    have Hpl4 := Lib.hid hpl4
    have o1 := var1 hob4
    have of := row_free hob4 0
    clear hown hch4 hpl4 hob4 o0
    rw [← Hn.out]
    go_wp2_with fail
    go_ret2
    have hst : Chg (fun y => y = ob) w4 (w4.setCell ⟨ob, 0, none⟩ (.slice q' (n + 1) c')) := (Chg.refl (fun y => y = ob) w4).setCell (p := ⟨ob, 0, none⟩) (.inl rfl) _
    have hns : ∀ g, (Value.slice q' (n + 1) c').ownBlock = some g → g ≠ ob := fun g hg e => by
      subst e
      rcases Hpl4.out g hg with h | h
      · exact H3.out g h rfl
      · have := lt_of_block Hob3.out; omega
    have hput : putI ps i (k, v) = insF (k, v) ps := put_ins (x := (k, v)) Hp.out Hno.out
    have hlen : (insF (k, v) ps).length = n + 1 := by rw [← hput, put_len Hp.out.1, ← Hn.out]
    have hlow : ∀ y, (Value.slice q n c).ownBlock = some y → RowB w ob y := fun y hy => by
      rcases Hrow.out.2 with ⟨e, _⟩ | ⟨g', cap', cur', e, _⟩
      · simp only [Value.slice.injEq] at e
        rw [e.1] at hy; cases hy
      · simp only [Value.slice.injEq] at e
        have h1 := H1.out
        rw [e.1] at h1 hy
        cases hy
        exact ⟨_, _, h1⟩
    have hsz := Hc2.out.size
    have hsz3 := Ha3.out.size
    have hobE := heap_set Hob4.out (i := 0) (.slice q' (n + 1) c')
    refine ⟨(Hc2.out.mono fun k _ h => h.elim).trans ((Ha3.out.mono fun k _ h => h.elim).trans ((Hch4.out.mono fun y _ hy => .inr (hlow y hy)).trans (hst.mono fun y _ hy => .inl hy))), fun k hk => ?_, _, false, rfl, .inr ⟨Hno.out, ?_, q', c', ?_, ?_, ?_⟩⟩
    · have e := hk.at hobE
      rcases Hpl4.out k (by rw [e]; rfl) with h | h
      · exact .inl (hlow k h)
      · exact .inr (by omega)
    · exact ins_asc Hasc.out _
    · rw [hlen]; exact heap_set Hob4.out (i := 0) _
    · rw [hlen]
      have := Hown.out
      rw [hput] at this
      exact ownsRow_chg this hst fun g hg e => hns g hg e
    · rw [hlen]; exact hns
end Go.Proofs.Ytbloglfmhhgccaa
