/- The document's machine: texts. Conditions: a machine as it ever is; the library's variables read as listed. -/
import Derived.Test.YthehpmffkkogpaaGreatDoorVqR
import Derived.Test.YthehpmffkkogpaaGreatDoorVqC
import Derived.StillTailTactics
import Derived.Deep.QuietTactic
import Derived.BigQuiet
import Derived.Test.YthehpmffkkogpaaGreatDoorVmFile
import Derived.Test.YthehpmffkkogpaaGreatDoorTrRput
import Derived.Lib.AtoiAllCases
import Derived.Test.YthehpmffkkogpaaGreatDoorVqB
namespace Go.Proofs.YthehpmffkkogpaaGreatDoor
set_option linter.unusedVariables false
open Go.ChangeShapes Go.WideShapes Go.ChangeAt Go.RowKit
structure WfR (len : Int) (s : RS) : Prop where
  stack : ∀ v ∈ s.stack, WfV v
  depth : s.stack.length ≤ 64
  loc : ∀ v ∈ s.loc, WfV v
  size : s.loc.length = 16
  calls : ∀ c ∈ s.calls, 0 ≤ c ∧ c ≤ len
  many : s.calls.length ≤ 16
  out : goodF s.out = true
  at' : 0 ≤ s.at' ∧ s.at' ≤ len
theorem fail_wfr {len : Int} {s : RS} (h : WfR len s) (y : Int) : WfR len (failS y s) := by
  unfold failS; split
  · exact ⟨h.stack, h.depth, h.loc, h.size, h.calls, h.many, h.out, h.at'⟩
  · exact h
theorem put_wfr {len : Int} {s : RS} (h : WfR len s) {v : ValL} (hv : WfV v) : WfR len (putS v s) := by
  unfold putS; split
  · split
    · exact fail_wfr h 40
    · refine ⟨fun x hx => ?_, ?_, h.loc, h.size, h.calls, h.many, h.out, h.at'⟩
      · rcases List.mem_append.1 hx with e | e
        · exact h.stack x e
        · rw [List.mem_singleton.1 e]; exact hv
      · show (s.stack ++ [v]).length ≤ 64
        rw [List.length_append, List.length_singleton]
        have := h.depth
        omega
  · exact h
theorem take_wfr {len : Int} {s : RS} (h : WfR len s) (ks : List UInt8) : WfR len (takeS ks s) := by
  unfold takeS; split
  · exact fail_wfr h 40
  · have h2 : WfR len (if anyBad ks (s.stack.drop (s.stack.length - ks.length)) = true then failS 41 s else s) := by
      split
      · exact fail_wfr h 41
      · exact h
    have hst : (if anyBad ks (s.stack.drop (s.stack.length - ks.length)) = true then failS 41 s else s).stack = s.stack := by
      unfold failS
      split
      · split <;> rfl
      · rfl
    exact ⟨fun x hx => h.stack x (List.mem_of_mem_take hx), Nat.le_trans (by rw [List.length_take]; exact Nat.min_le_right _ _) h.depth, h2.loc, h2.size, h2.calls, h2.many, h2.out, h2.at'⟩
theorem takeL_wf {len : Int} {s : RS} (h : WfR len s) (ks : List UInt8) : ∀ v ∈ takeL ks s, WfV v := fun v hv => by
  unfold takeL at hv
  split at hv
  · rw [List.eq_of_mem_replicate hv]; exact numV_wf (by decide)
  · exact h.stack v (List.mem_of_mem_drop hv)
theorem takeL_one (c : UInt8) (s : RS) : ∃ a, takeL [c] s = [a] := by
  have h := takeL_len [c] s
  match hl : takeL [c] s, h with
  | [a], _ => exact ⟨a, rfl⟩
theorem takeL_two (c d : UInt8) (s : RS) : ∃ a b, takeL [c, d] s = [a, b] := by
  have h := takeL_len [c, d] s
  match hl : takeL [c, d] s, h with
  | [a, b], _ => exact ⟨a, b, rfl⟩
theorem takeL_three (c d e : UInt8) (s : RS) : ∃ a b f, takeL [c, d, e] s = [a, b, f] := by
  have h := takeL_len [c, d, e] s
  match hl : takeL [c, d, e] s, h with
  | [a, b, f], _ => exact ⟨a, b, f, rfl⟩
def isS (t : List UInt8) : Bool := (digP t).isSome
def textsS (view : List FileL) (op : Int) (s : RS) : RS :=
  if op = 21 then
    let l := takeL [116, 116] s
    let t := takeS [116, 116] s
    let a := (l.getD 0 (numV 0)).2.2
    let b := (l.getD 1 (numV 0)).2.2
    putS (txtV (a ++ b)) (if 2048 < a.length + b.length then failS 43 t else t)
  else if op = 22 then putS (numV (((takeL [116] s).getD 0 (numV 0)).2.2.length : Nat)) (takeS [116] s)
  else if op = 23 then
    let l := takeL [116, 110, 110] s
    let t := takeS [116, 110, 110] s
    let x := (l.getD 0 (numV 0)).2.2
    let a := (l.getD 1 (numV 0)).2.1
    let b := (l.getD 2 (numV 0)).2.1
    if t.fault = 0 then (if a < 0 ∨ b < a ∨ (x.length : Int) < b then failS 43 t else putS (txtV (cutT x a b)) t) else t
  else if op = 24 then putS (txtV (itoaL ((takeL [110] s).getD 0 (numV 0)).2.1)) (takeS [110] s)
  else if op = 25 then
    let x := ((takeL [116] s).getD 0 (numV 0)).2.2
    putS (boolV (digP x).isSome) (putS (numV (match digP x with | some n => n | none => 0)) (takeS [116] s))
  else if op = 26 then
    let x := ((takeL [116] s).getD 0 (numV 0)).2.2
    putS (boolV (getF view x).2) (putS (txtV (getF view x).1) (takeS [116] s))
  else if op = 27 then putS (numV view.length) s
  else if op = 28 then
    let n := ((takeL [110] s).getD 0 (numV 0)).2.1
    putS (boolV (decide (0 ≤ n ∧ n < view.length))) (putS (txtV (if 0 ≤ n then (match view[n.toNat]? with | some f => f.1 | none => []) else [])) (takeS [110] s))
  else if op = 29 then
    let l := takeL [116, 116] s
    let t := takeS [116, 116] s
    if t.fault = 0 then (match putF t.out ((l.getD 0 (numV 0)).2.2, (l.getD 1 (numV 0)).2.2) with | .error y => failS y t | .ok o => { t with out := o }) else t
  else s
set_option maxHeartbeats 4000000 in
set_option maxRecDepth 20000 in
theorem rtexts22 (view : List FileL) {len : Int} {w : World} {lo sb : Nat} {s : RS} {F : Value × Value × Value} (hm : RefM w lo sb s F) (wf : WfR len s) (vq : Option Addr) (vc : Nat) : Calls Tryz.prog 57 #[.pointer (some ⟨sb, 0, none⟩), .string (tx (wordL 22)), .agg #[.slice vq view.length vc]] w (ROut lo sb F (textsS view 22 s) w) := by
  obtain ⟨r, hr⟩ : ∃ z, z = textsS view 22 s := ⟨_, rfl⟩
  rw [← hr]
  obtain ⟨vn, hvn⟩ : ∃ z, z = view.length := ⟨_, rfl⟩
  rw [← hvn]
  have hal_ := (Chg.refl NoB w).alloc (.cells #[.slice vq vn vc] 25)
  have hb_ := heap_alloc_new w (.cells #[.slice vq vn vc] 25)
  obtain ⟨vb, hxb_⟩ : ∃ b, b = w.heap.size := ⟨_, rfl⟩
  obtain ⟨w1, hw_⟩ : ∃ w_, w.alloc (.cells #[.slice vq vn vc] 25) = w_ := ⟨_, rfl⟩
  have hz_ : w1.heap.size = vb + 1 := by rw [← hw_, hxb_]; exact alloc_size _ _
  rw [hw_] at hal_ hb_
  rw [← hxb_] at hb_
  have Hw1 := Lib.hid hw_
  have Hx1 := Lib.hid hxb_
  have Ha1 := Lib.hid hal_
  have Hb1 := Lib.hid hb_
  have Hz1 := Lib.hid hz_
  clear hal_ hb_ hxb_ hw_ hz_
  have Hnv := Lib.hid (show ¬ (vb = sb ∨ Foot3 F vb) from fun e => by
    have h0 := Hx1.out
    rcases e with e | e
    · have := hm.lo; omega
    · have := (hm.low.1 vb e).2; omega)
  replace hm := hm.keep Ha1.out
  have Hs1 := Lib.hid (RStep.of_chg (sb := sb) (F := F) Ha1.out)
  have Hsb := Lib.hid (show sb < w1.heap.size from hm.lo.1.2)
  have HT := Lib.hid (rtake_any [116] (by decide) (by decide) hm wf.depth)
  obtain ⟨⟨a0, a1, a2⟩, hl⟩ := takeL_one 116 s
  have hwa := (takeL_wf wf [116] (a0, a1, a2) (by rw [hl]; simp)).len
  have hd := takeS_stack [116] wf.depth
  have hr : r = putS (numV (a2.length : Nat)) (takeS [116] s) := by rw [hr]; show putS (numV (((takeL [116] s).getD 0 (numV 0)).2.2.length : Nat)) _ = _; rw [hl]; rfl
  unfold TakeP at HT
  rw [hl] at HT
  generalize takeS [116] s = t at *
  have Hr := Lib.hid hr
  have Hd := Lib.hid hd
  have hz : (tx a2).size = a2.length := tx_size _
  obtain ⟨z, hzz⟩ : ∃ z, z = a2.length := ⟨_, rfl⟩
  rw [← hzz] at hz Hr
  have hw : tx (wordL 22) = ⟨#[108, 101, 110]⟩ := rfl
  clear hm wf hl hwa hd hr hvn hzz
  go_enter Tryz.func57, Tryz.ntmps57
  go_upto_region 1 with fail
  rw [Hw1.out, ← Hx1.out]
  go_wp2_with fail
  refine HT.out.mono ?_
  rintro e w2 ⟨q2, c2, rfl, hr2, F2, hs2, hm2, hn2⟩
  obtain ⟨h3, h4, g, rfl, hcl⟩ := vals_cells hr2 (by decide) rfl
  unfold maxLen at h4
  have Hgn := Lib.hid (show ¬ (g = sb ∨ Foot3 F2 g) from fun e => by
    rcases e with e | e
    · have h1 := (World.ownsRow.lt hr2 g rfl).1; have h2 := Hsb.out; omega
    · exact hn2 g rfl e)
  have Hs2 := Lib.hid (Hs1.out.trans hs2)
  have Hm2 := Lib.hid hm2
  clear hr2 hs2 hm2 hn2 HT
  have d2 := (hcl 0 (by show 0 < 1; decide)).2.2
  change w2.cell? ⟨g, 2, none⟩ = some (.string (tx a2)) at d2
  clear hcl
  go_wp2_with fail
  refine (rnum_any (z : Nat) Hm2.out Hd.out).mono ?_
  rintro e w3 ⟨rfl, F3, hs3, hm3⟩
  have Hs3 := Lib.hid (Hs2.out.trans hs3)
  have Hm3 := Lib.hid hm3
  clear hs3 hm3
  go_wp2_with fail
  first | go_end0 | refine bodyPost_ret (results_none rfl _ _ _) rfl ?_
  exact ⟨rfl, _, Hs3.out, by rw [Hr.out]; exact Hm3.out⟩
set_option maxHeartbeats 4000000 in
set_option maxRecDepth 20000 in
theorem rtexts21 (view : List FileL) {len : Int} {w : World} {lo sb : Nat} {s : RS} {F : Value × Value × Value} (hm : RefM w lo sb s F) (wf : WfR len s) (vq : Option Addr) (vc : Nat) : Calls Tryz.prog 57 #[.pointer (some ⟨sb, 0, none⟩), .string (tx (wordL 21)), .agg #[.slice vq view.length vc]] w (ROut lo sb F (textsS view 21 s) w) := by
  obtain ⟨r, hr⟩ : ∃ z, z = textsS view 21 s := ⟨_, rfl⟩
  rw [← hr]
  obtain ⟨vn, hvn⟩ : ∃ z, z = view.length := ⟨_, rfl⟩
  rw [← hvn]
  have hal_ := (Chg.refl NoB w).alloc (.cells #[.slice vq vn vc] 25)
  have hb_ := heap_alloc_new w (.cells #[.slice vq vn vc] 25)
  obtain ⟨vb, hxb_⟩ : ∃ b, b = w.heap.size := ⟨_, rfl⟩
  obtain ⟨w1, hw_⟩ : ∃ w_, w.alloc (.cells #[.slice vq vn vc] 25) = w_ := ⟨_, rfl⟩
  have hz_ : w1.heap.size = vb + 1 := by rw [← hw_, hxb_]; exact alloc_size _ _
  rw [hw_] at hal_ hb_
  rw [← hxb_] at hb_
  have Hw1 := Lib.hid hw_
  have Hx1 := Lib.hid hxb_
  have Ha1 := Lib.hid hal_
  have Hb1 := Lib.hid hb_
  have Hz1 := Lib.hid hz_
  clear hal_ hb_ hxb_ hw_ hz_
  have Hnv := Lib.hid (show ¬ (vb = sb ∨ Foot3 F vb) from fun e => by
    have h0 := Hx1.out
    rcases e with e | e
    · have := hm.lo; omega
    · have := (hm.low.1 vb e).2; omega)
  replace hm := hm.keep Ha1.out
  have Hs1 := Lib.hid (RStep.of_chg (sb := sb) (F := F) Ha1.out)
  have Hsb := Lib.hid (show sb < w1.heap.size from hm.lo.1.2)
  have HT := Lib.hid (rtake_any [116, 116] (by decide) (by decide) hm wf.depth)
  obtain ⟨⟨a0, a1, a2⟩, ⟨b0, b1, b2⟩, hl⟩ := takeL_two 116 116 s
  have hwa : a2.length ≤ 2048 := (takeL_wf wf [116, 116] (a0, a1, a2) (by rw [hl]; simp)).len
  have hwb : b2.length ≤ 2048 := (takeL_wf wf [116, 116] (b0, b1, b2) (by rw [hl]; simp)).len
  have hd := takeS_stack [116, 116] wf.depth
  have hr : r = putS (txtV (a2 ++ b2)) (if 2048 < a2.length + b2.length then failS 43 (takeS [116, 116] s) else takeS [116, 116] s) := by
    rw [hr]
    show putS (txtV (((takeL [116, 116] s).getD 0 (numV 0)).2.2 ++ ((takeL [116, 116] s).getD 1 (numV 0)).2.2)) (if 2048 < ((takeL [116, 116] s).getD 0 (numV 0)).2.2.length + ((takeL [116, 116] s).getD 1 (numV 0)).2.2.length then _ else _) = _
    rw [hl]; rfl
  unfold TakeP at HT
  rw [hl] at HT
  generalize takeS [116, 116] s = t at *
  have Hd := Lib.hid hd
  have hz : (tx a2).size = a2.length := tx_size _
  have hy : (tx b2).size = b2.length := tx_size _
  have hcat := tx_cat a2 b2
  generalize a2.length = al at *
  generalize b2.length = bl' at *
  have hw : tx (wordL 21) = ⟨#[99, 97, 116]⟩ := rfl
  have Hr0 := Lib.hid hr
  clear hm wf hl hd hvn hr
  go_enter Tryz.func57, Tryz.ntmps57
  go_upto_region 1 with fail
  rw [Hw1.out, ← Hx1.out]
  go_wp2_with fail
  refine HT.out.mono ?_
  rintro e w2 ⟨q2, c2, rfl, hr2, F2, hs2, hm2, hn2⟩
  obtain ⟨h3, h4, g, rfl, hcl⟩ := vals_cells hr2 (by decide) rfl
  unfold maxLen at h4
  have Hgn := Lib.hid (show ¬ (g = sb ∨ Foot3 F2 g) from fun e => by
    rcases e with e | e
    · have h1 := (World.ownsRow.lt hr2 g rfl).1; have h2 := Hsb.out; omega
    · exact hn2 g rfl e)
  have Hs2 := Lib.hid (Hs1.out.trans hs2)
  have Hm2 := Lib.hid hm2
  clear hr2 hs2 hm2 hn2 HT
  have d2 := (hcl 0 (by show 0 < 2; decide)).2.2
  have d5 := (hcl 1 (by show 1 < 2; decide)).2.2
  change w2.cell? ⟨g, 2, none⟩ = some (.string (tx a2)) at d2
  change w2.cell? ⟨g, 5, none⟩ = some (.string (tx b2)) at d5
  clear hcl
  go_upto_region 4 with fail
  have hA : w2.drew.cell? ⟨g, 2, none⟩ = some (.string (tx a2)) ∧ w2.drew.cell? ⟨g, 5, none⟩ = some (.string (tx b2)) := ⟨d2, d5⟩
  have hB : w2.cell? ⟨g, 2, none⟩ = some (.string (tx a2)) ∧ w2.cell? ⟨g, 5, none⟩ = some (.string (tx b2)) := ⟨d2, d5⟩
  go_region_held3 (fun w' => w'.cell? ⟨g, 2, none⟩ = some (.string (tx a2)) ∧ w'.cell? ⟨g, 5, none⟩ = some (.string (tx b2))) (first | with_reducible exact hA | with_reducible exact hB) (fail)
  clear hA hB
  have Hs3 := Lib.hid (Hs2.out.trans (RStep.of_chg (Chg.refl NoB w2).drew))
  have Hm3 := Lib.hid (Hm2.out.keep (Chg.refl NoB w2).drew)
  change w2.drew.cell? ⟨g, 2, none⟩ = some (.string (tx a2)) at d2
  change w2.drew.cell? ⟨g, 5, none⟩ = some (.string (tx b2)) at d5
  have hwr : IntKind.i64.wrap ((al : Int) + bl') = (al : Int) + bl' := IntWalk.i64_in _ (by omega)
  rw [hwr]
  generalize w2.drew = w3 at *
  by_cases hbig : 2048 < al + bl'
  · have hr : r = putS (txtV (a2 ++ b2)) (failS 43 t) := by rw [Hr0.out, if_pos hbig]
    have Hr := Lib.hid hr
    clear hr Hr0
    go_wp2_with fail
    refine (rfail_same 43 Hm3.out).mono ?_
    rintro e w4 ⟨rfl, hs4, hm4⟩
    have d2b := hs4.chg.cell d2 Hgn.out
    have d5b := hs4.chg.cell d5 Hgn.out
    replace Hs3 := Lib.hid (Hs3.out.trans hs4)
    replace Hm3 := Lib.hid hm4
    clear hs4 hm4 d2 d5
    go_upto_region 6 with fail
    have Hd5 := Lib.hid (show (failS 43 t).stack.length ≤ 64 by unfold failS; split <;> exact Hd.out)
    have hA : w4.cell? ⟨g, 2, none⟩ = some (.string (tx a2)) ∧ w4.cell? ⟨g, 5, none⟩ = some (.string (tx b2)) := ⟨d2b, d5b⟩
    have hB : w4.drew.cell? ⟨g, 2, none⟩ = some (.string (tx a2)) ∧ w4.drew.cell? ⟨g, 5, none⟩ = some (.string (tx b2)) := ⟨d2b, d5b⟩
    have HX := Lib.hid (show Calls Tryz.prog 50 #[.pointer (some ⟨sb, 0, none⟩), .string (tx a2 ++ tx b2)] w4.drew _ from by rw [hcat]; exact rtext_any (a2 ++ b2) (Hm3.out.keep (Chg.refl NoB w4).drew) Hd5.out)
    have hsum : ¬ 9223372036854775807 < al + bl' := by omega
    clear hcat
    go_region_held3 (fun w' => w'.cell? ⟨g, 2, none⟩ = some (.string (tx a2)) ∧ w'.cell? ⟨g, 5, none⟩ = some (.string (tx b2))) (first | with_reducible exact hA | with_reducible exact hB | with_reducible exact hC) ((go_at_call 50; go_must (refine HX.out.mono ?_); rintro e w6 ⟨rfl, F6, hs6, hm6⟩; have hC : w6.cell? ⟨g, 2, none⟩ = some (.string (tx a2)) ∧ w6.cell? ⟨g, 5, none⟩ = some (.string (tx b2)) := ⟨hs6.chg.cell hB.1 Hgn.out, hs6.chg.cell hB.2 Hgn.out⟩; have Hs6 := Lib.hid ((Hs3.out.trans (RStep.of_chg (Chg.refl NoB w4).drew)).trans hs6); have Hm6 := Lib.hid hm6; clear hs6 hm6))
    go_wp2_with fail
    first | go_end0 | refine bodyPost_ret (results_none rfl _ _ _) rfl ?_
    exact ⟨rfl, _, Hs6.out, by rw [Hr.out]; exact Hm6.out⟩
  · have Hr := Lib.hid (show r = putS (txtV (a2 ++ b2)) t by rw [Hr0.out, if_neg hbig])
    clear Hr0
    go_upto_region 6 with fail
    have hA : w3.cell? ⟨g, 2, none⟩ = some (.string (tx a2)) ∧ w3.cell? ⟨g, 5, none⟩ = some (.string (tx b2)) := ⟨d2, d5⟩
    have hB : w3.drew.cell? ⟨g, 2, none⟩ = some (.string (tx a2)) ∧ w3.drew.cell? ⟨g, 5, none⟩ = some (.string (tx b2)) := ⟨d2, d5⟩
    have HX := Lib.hid (show Calls Tryz.prog 50 #[.pointer (some ⟨sb, 0, none⟩), .string (tx a2 ++ tx b2)] w3.drew _ from by rw [hcat]; exact rtext_any (a2 ++ b2) (Hm3.out.keep (Chg.refl NoB w3).drew) Hd.out)
    have hsum : ¬ 9223372036854775807 < al + bl' := by omega
    clear hcat
    go_region_held3 (fun w' => w'.cell? ⟨g, 2, none⟩ = some (.string (tx a2)) ∧ w'.cell? ⟨g, 5, none⟩ = some (.string (tx b2))) (first | with_reducible exact hA | with_reducible exact hB | with_reducible exact hC) ((go_at_call 50; go_must (refine HX.out.mono ?_); rintro e w5 ⟨rfl, F5, hs5, hm5⟩; have hC : w5.cell? ⟨g, 2, none⟩ = some (.string (tx a2)) ∧ w5.cell? ⟨g, 5, none⟩ = some (.string (tx b2)) := ⟨hs5.chg.cell hB.1 Hgn.out, hs5.chg.cell hB.2 Hgn.out⟩; have Hs5 := Lib.hid ((Hs3.out.trans (RStep.of_chg (Chg.refl NoB w3).drew)).trans hs5); have Hm5 := Lib.hid hm5; clear hs5 hm5))
    go_wp2_with fail
    first | go_end0 | refine bodyPost_ret (results_none rfl _ _ _) rfl ?_
    exact ⟨rfl, _, Hs5.out, by rw [Hr.out]; exact Hm5.out⟩
set_option maxHeartbeats 8000000 in
set_option maxRecDepth 20000 in
theorem rtexts23 (view : List FileL) {len : Int} {w : World} {lo sb : Nat} {s : RS} {F : Value × Value × Value} (hm : RefM w lo sb s F) (wf : WfR len s) (vq : Option Addr) (vc : Nat) : Calls Tryz.prog 57 #[.pointer (some ⟨sb, 0, none⟩), .string (tx (wordL 23)), .agg #[.slice vq view.length vc]] w (ROut lo sb F (textsS view 23 s) w) := by
  obtain ⟨r, hr⟩ : ∃ z, z = textsS view 23 s := ⟨_, rfl⟩
  rw [← hr]
  obtain ⟨vn, hvn⟩ : ∃ z, z = view.length := ⟨_, rfl⟩
  rw [← hvn]
  have hal_ := (Chg.refl NoB w).alloc (.cells #[.slice vq vn vc] 25)
  have hb_ := heap_alloc_new w (.cells #[.slice vq vn vc] 25)
  obtain ⟨vb, hxb_⟩ : ∃ b, b = w.heap.size := ⟨_, rfl⟩
  obtain ⟨w1, hw_⟩ : ∃ w_, w.alloc (.cells #[.slice vq vn vc] 25) = w_ := ⟨_, rfl⟩
  have hz_ : w1.heap.size = vb + 1 := by rw [← hw_, hxb_]; exact alloc_size _ _
  rw [hw_] at hal_ hb_
  rw [← hxb_] at hb_
  have Hw1 := Lib.hid hw_
  have Hx1 := Lib.hid hxb_
  have Ha1 := Lib.hid hal_
  have Hb1 := Lib.hid hb_
  have Hz1 := Lib.hid hz_
  clear hal_ hb_ hxb_ hw_ hz_
  have Hnv := Lib.hid (show ¬ (vb = sb ∨ Foot3 F vb) from fun e => by
    have h0 := Hx1.out
    rcases e with e | e
    · have := hm.lo; omega
    · have := (hm.low.1 vb e).2; omega)
  replace hm := hm.keep Ha1.out
  have Hs1 := Lib.hid (RStep.of_chg (sb := sb) (F := F) Ha1.out)
  have Hsb := Lib.hid (show sb < w1.heap.size from hm.lo.1.2)
  have HT := Lib.hid (rtake_any [116, 110, 110] (by decide) (by decide) hm wf.depth)
  obtain ⟨⟨x0, x1, x2⟩, ⟨a0, a1, a2⟩, ⟨b0, b1, b2⟩, hl⟩ := takeL_three 116 110 110 s
  have hwx : x2.length ≤ 2048 := (takeL_wf wf [116, 110, 110] (x0, x1, x2) (by rw [hl]; simp)).len
  have hd := takeS_stack [116, 110, 110] wf.depth
  have hr : r = if (takeS [116, 110, 110] s).fault = 0 then (if a1 < 0 ∨ b1 < a1 ∨ (x2.length : Int) < b1 then failS 43 (takeS [116, 110, 110] s) else putS (txtV (cutT x2 a1 b1)) (takeS [116, 110, 110] s)) else takeS [116, 110, 110] s := by
    rw [hr]
    show (let l := takeL [116, 110, 110] s; let t := takeS [116, 110, 110] s; let x := (l.getD 0 (numV 0)).2.2; let a := (l.getD 1 (numV 0)).2.1; let b := (l.getD 2 (numV 0)).2.1; if t.fault = 0 then (if a < 0 ∨ b < a ∨ (x.length : Int) < b then failS 43 t else putS (txtV (cutT x a b)) t) else t) = _
    rw [hl]; rfl
  unfold TakeP at HT
  rw [hl] at HT
  generalize takeS [116, 110, 110] s = t at *
  have Hd := Lib.hid hd
  have hz : (tx x2).size = x2.length := tx_size _
  obtain ⟨xl, hxl⟩ : ∃ z, z = x2.length := ⟨_, rfl⟩
  have Hxl := Lib.hid hxl
  rw [← hxl] at hz hr hwx
  have hw : tx (wordL 23) = ⟨#[99, 117, 116]⟩ := rfl
  have Hr0 := Lib.hid hr
  clear hm wf hl hd hvn hr hxl
  go_enter Tryz.func57, Tryz.ntmps57
  go_upto_region 1 with fail
  rw [Hw1.out, ← Hx1.out]
  go_wp2_with fail
  refine HT.out.mono ?_
  rintro e w2 ⟨q2, c2, rfl, hr2, F2, hs2, hm2, hn2⟩
  obtain ⟨h3, h4, g, rfl, hcl⟩ := vals_cells hr2 (by decide) rfl
  unfold maxLen at h4
  have Hgn := Lib.hid (show ¬ (g = sb ∨ Foot3 F2 g) from fun e => by
    rcases e with e | e
    · have h1 := (World.ownsRow.lt hr2 g rfl).1; have h2 := Hsb.out; omega
    · exact hn2 g rfl e)
  have Hs2 := Lib.hid (Hs1.out.trans hs2)
  have Hm2 := Lib.hid hm2
  clear hr2 hs2 hm2 hn2 HT
  have d2 := (hcl 0 (by show 0 < 3; decide)).2.2
  have d4 := (hcl 1 (by show 1 < 3; decide)).2.1
  have d7 := (hcl 2 (by show 2 < 3; decide)).2.1
  change w2.cell? ⟨g, 2, none⟩ = some (.string (tx x2)) at d2
  change w2.cell? ⟨g, 4, none⟩ = some (.int .i64 a1) at d4
  change w2.cell? ⟨g, 7, none⟩ = some (.int .i64 b1) at d7
  have y7 : w2.cell? ⟨sb, 7, none⟩ = some (.int .i64 t.fault) := by obtain ⟨_, _, _, _, _, _, _, _, _, h⟩ := Hm2.out.cells; exact h
  clear hcl
  go_upto_region 12 with fail
  by_cases hf : t.fault = 0
  case neg =>
    have Hr := Lib.hid (show r = t by rw [Hr0.out, if_neg hf])
    have hf2 : (t.fault == 0) = false := by rw [beq_eq_false_iff_ne]; exact hf
    clear hf Hr0
    obtain ⟨ft, hft⟩ : ∃ z, z = t.fault := ⟨_, rfl⟩
    rw [← hft] at hf2 y7
    clear hft
    have q7 : ∀ n, (w2.drewN n).cell? ⟨sb, 7, none⟩ = some (.int .i64 ft) := fun n => y7
    have q2 : ∀ n, (w2.drewN n).cell? ⟨g, 2, none⟩ = some (.string (tx x2)) := fun n => d2
    have q4 : ∀ n, (w2.drewN n).cell? ⟨g, 4, none⟩ = some (.int .i64 a1) := fun n => d4
    have q8 : ∀ n, (w2.drewN n).cell? ⟨g, 7, none⟩ = some (.int .i64 b1) := fun n => d7
    go_quiet (fail)
    have Hs3 := Lib.hid (Hs2.out.trans (RStep.of_chg ((Chg.refl NoB w2).drewN nq)))
    have Hm3 := Lib.hid (Hm2.out.keep ((Chg.refl NoB w2).drewN nq))
    replace y7 := q7 nq
    replace d2 := q2 nq
    replace d4 := q4 nq
    replace d7 := q8 nq
    clear q7 q2 q4 q8
    generalize w2.drewN nq = w3 at *
    go_wp2_with fail
    first | go_end0 | refine bodyPost_ret (results_none rfl _ _ _) rfl ?_
    exact ⟨rfl, _, Hs3.out, by rw [Hr.out]; exact Hm3.out⟩
  rw [hf] at y7
  by_cases ha : a1 < 0
  · have hc : a1 < 0 ∨ b1 < a1 ∨ (xl : Int) < b1 := .inl ha
    have ea := decide_eq_true ha
    have q7 : ∀ n, (w2.drewN n).cell? ⟨sb, 7, none⟩ = some (.int .i64 0) := fun n => y7
    have q2 : ∀ n, (w2.drewN n).cell? ⟨g, 2, none⟩ = some (.string (tx x2)) := fun n => d2
    have q4 : ∀ n, (w2.drewN n).cell? ⟨g, 4, none⟩ = some (.int .i64 a1) := fun n => d4
    have q8 : ∀ n, (w2.drewN n).cell? ⟨g, 7, none⟩ = some (.int .i64 b1) := fun n => d7
    go_quiet (fail)
    have Hs3 := Lib.hid (Hs2.out.trans (RStep.of_chg ((Chg.refl NoB w2).drewN nq)))
    have Hm3 := Lib.hid (Hm2.out.keep ((Chg.refl NoB w2).drewN nq))
    replace y7 := q7 nq
    replace d2 := q2 nq
    replace d4 := q4 nq
    replace d7 := q8 nq
    clear q7 q2 q4 q8
    generalize w2.drewN nq = w3 at *
    have Hr := Lib.hid (show r = failS 43 t by rw [Hr0.out, if_pos hf, if_pos hc])
    have hf3 : (failS 43 t).fault = 43 := by unfold failS; rw [if_pos hf]
    clear hf hc Hr0 y7 d2 d4 d7
    go_wp2_with fail
    refine (rfail_same 43 Hm3.out).mono ?_
    rintro e w4 ⟨rfl, hs4, hm4⟩
    have y7 : w4.cell? ⟨sb, 7, none⟩ = some (.int .i64 43) := by obtain ⟨_, _, _, _, _, _, _, _, _, h⟩ := hm4.cells; rw [← hf3]; exact h
    have Hs4 := Lib.hid (Hs3.out.trans hs4)
    have Hm4 := Lib.hid hm4
    clear hs4 hm4 hf3
    go_wp2_with fail
    first | go_end0 | refine bodyPost_ret (results_none rfl _ _ _) rfl ?_
    exact ⟨rfl, _, Hs4.out, by rw [Hr.out]; exact Hm4.out⟩
  by_cases hb : b1 < a1
  · have hc : a1 < 0 ∨ b1 < a1 ∨ (xl : Int) < b1 := .inr (.inl hb)
    have ea := decide_eq_false ha
    have eb := decide_eq_true hb
    have q7 : ∀ n, (w2.drewN n).cell? ⟨sb, 7, none⟩ = some (.int .i64 0) := fun n => y7
    have q2 : ∀ n, (w2.drewN n).cell? ⟨g, 2, none⟩ = some (.string (tx x2)) := fun n => d2
    have q4 : ∀ n, (w2.drewN n).cell? ⟨g, 4, none⟩ = some (.int .i64 a1) := fun n => d4
    have q8 : ∀ n, (w2.drewN n).cell? ⟨g, 7, none⟩ = some (.int .i64 b1) := fun n => d7
    go_quiet (fail)
    have Hs3 := Lib.hid (Hs2.out.trans (RStep.of_chg ((Chg.refl NoB w2).drewN nq)))
    have Hm3 := Lib.hid (Hm2.out.keep ((Chg.refl NoB w2).drewN nq))
    replace y7 := q7 nq
    replace d2 := q2 nq
    replace d4 := q4 nq
    replace d7 := q8 nq
    clear q7 q2 q4 q8
    generalize w2.drewN nq = w3 at *
    have Hr := Lib.hid (show r = failS 43 t by rw [Hr0.out, if_pos hf, if_pos hc])
    have hf3 : (failS 43 t).fault = 43 := by unfold failS; rw [if_pos hf]
    clear hf hc Hr0 y7 d2 d4 d7
    go_wp2_with fail
    refine (rfail_same 43 Hm3.out).mono ?_
    rintro e w4 ⟨rfl, hs4, hm4⟩
    have y7 : w4.cell? ⟨sb, 7, none⟩ = some (.int .i64 43) := by obtain ⟨_, _, _, _, _, _, _, _, _, h⟩ := hm4.cells; rw [← hf3]; exact h
    have Hs4 := Lib.hid (Hs3.out.trans hs4)
    have Hm4 := Lib.hid hm4
    clear hs4 hm4 hf3
    go_wp2_with fail
    first | go_end0 | refine bodyPost_ret (results_none rfl _ _ _) rfl ?_
    exact ⟨rfl, _, Hs4.out, by rw [Hr.out]; exact Hm4.out⟩
  by_cases hd : (xl : Int) < b1
  · have hc : a1 < 0 ∨ b1 < a1 ∨ (xl : Int) < b1 := .inr (.inr hd)
    have ea := decide_eq_false ha
    have eb := decide_eq_false hb
    have ed := decide_eq_true hd
    have q7 : ∀ n, (w2.drewN n).cell? ⟨sb, 7, none⟩ = some (.int .i64 0) := fun n => y7
    have q2 : ∀ n, (w2.drewN n).cell? ⟨g, 2, none⟩ = some (.string (tx x2)) := fun n => d2
    have q4 : ∀ n, (w2.drewN n).cell? ⟨g, 4, none⟩ = some (.int .i64 a1) := fun n => d4
    have q8 : ∀ n, (w2.drewN n).cell? ⟨g, 7, none⟩ = some (.int .i64 b1) := fun n => d7
    go_quiet (fail)
    have Hs3 := Lib.hid (Hs2.out.trans (RStep.of_chg ((Chg.refl NoB w2).drewN nq)))
    have Hm3 := Lib.hid (Hm2.out.keep ((Chg.refl NoB w2).drewN nq))
    replace y7 := q7 nq
    replace d2 := q2 nq
    replace d4 := q4 nq
    replace d7 := q8 nq
    clear q7 q2 q4 q8
    generalize w2.drewN nq = w3 at *
    have Hr := Lib.hid (show r = failS 43 t by rw [Hr0.out, if_pos hf, if_pos hc])
    have hf3 : (failS 43 t).fault = 43 := by unfold failS; rw [if_pos hf]
    clear hf hc Hr0 y7 d2 d4 d7
    go_wp2_with fail
    refine (rfail_same 43 Hm3.out).mono ?_
    rintro e w4 ⟨rfl, hs4, hm4⟩
    have y7 : w4.cell? ⟨sb, 7, none⟩ = some (.int .i64 43) := by obtain ⟨_, _, _, _, _, _, _, _, _, h⟩ := hm4.cells; rw [← hf3]; exact h
    have Hs4 := Lib.hid (Hs3.out.trans hs4)
    have Hm4 := Lib.hid hm4
    clear hs4 hm4 hf3
    go_wp2_with fail
    first | go_end0 | refine bodyPost_ret (results_none rfl _ _ _) rfl ?_
    exact ⟨rfl, _, Hs4.out, by rw [Hr.out]; exact Hm4.out⟩
  · have hc : ¬ (a1 < 0 ∨ b1 < a1 ∨ (xl : Int) < b1) := by omega
    have Hr := Lib.hid (show r = putS (txtV (cutT x2 a1 b1)) t by rw [Hr0.out, if_pos hf, if_neg hc])
    obtain ⟨an, rfl⟩ : ∃ n : Nat, a1 = n := ⟨a1.toNat, by omega⟩
    obtain ⟨bn, rfl⟩ : ∃ n : Nat, b1 = n := ⟨b1.toNat, by omega⟩
    have ea := decide_eq_false ha
    have eb := decide_eq_false hb
    have ed := decide_eq_false hd
    have hab : an ≤ bn := by omega
    have hbt : bn ≤ xl := by omega
    have hcut : (tx x2).extract an bn = tx (cutT x2 an bn) := cut_tx x2 an bn hab (by rw [← Hxl.out]; exact hbt)
    clear hf hc Hr0 ha hb hd
    have q7 : ∀ n, (w2.drewN n).cell? ⟨sb, 7, none⟩ = some (.int .i64 0) := fun n => y7
    have q2 : ∀ n, (w2.drewN n).cell? ⟨g, 2, none⟩ = some (.string (tx x2)) := fun n => d2
    have q4 : ∀ n, (w2.drewN n).cell? ⟨g, 4, none⟩ = some (.int .i64 an) := fun n => d4
    have q8 : ∀ n, (w2.drewN n).cell? ⟨g, 7, none⟩ = some (.int .i64 bn) := fun n => d7
    go_quiet (fail)
    have Hs3 := Lib.hid (Hs2.out.trans (RStep.of_chg ((Chg.refl NoB w2).drewN nq)))
    have Hm3 := Lib.hid (Hm2.out.keep ((Chg.refl NoB w2).drewN nq))
    replace y7 := q7 nq
    replace d2 := q2 nq
    replace d4 := q4 nq
    replace d7 := q8 nq
    clear q7 q2 q4 q8
    generalize w2.drewN nq = w3 at *
    go_upto_region 15 with fail
    have hA : w3.cell? ⟨g, 2, none⟩ = some (.string (tx x2)) ∧ w3.cell? ⟨g, 4, none⟩ = some (.int .i64 an) ∧ w3.cell? ⟨g, 7, none⟩ = some (.int .i64 bn) := ⟨d2, d4, d7⟩
    have hB : w3.drew.cell? ⟨g, 2, none⟩ = some (.string (tx x2)) ∧ w3.drew.cell? ⟨g, 4, none⟩ = some (.int .i64 an) ∧ w3.drew.cell? ⟨g, 7, none⟩ = some (.int .i64 bn) := ⟨d2, d4, d7⟩
    have HX := Lib.hid (show Calls Tryz.prog 50 #[.pointer (some ⟨sb, 0, none⟩), .string ((tx x2).extract an bn)] w3.drew _ from by rw [hcut]; exact rtext_any (cutT x2 an bn) (Hm3.out.keep (Chg.refl NoB w3).drew) Hd.out)
    clear hcut
    go_region_held3 (fun w' => w'.cell? ⟨g, 2, none⟩ = some (.string (tx x2)) ∧ w'.cell? ⟨g, 4, none⟩ = some (.int .i64 an) ∧ w'.cell? ⟨g, 7, none⟩ = some (.int .i64 bn)) (first | with_reducible exact hA | with_reducible exact hB | with_reducible exact hC) ((go_at_call 50; go_must (refine HX.out.mono ?_); rintro e w4 ⟨rfl, F4, hs4, hm4⟩; have hC : w4.cell? ⟨g, 2, none⟩ = some (.string (tx x2)) ∧ w4.cell? ⟨g, 4, none⟩ = some (.int .i64 an) ∧ w4.cell? ⟨g, 7, none⟩ = some (.int .i64 bn) := ⟨hs4.chg.cell hB.1 Hgn.out, hs4.chg.cell hB.2.1 Hgn.out, hs4.chg.cell hB.2.2 Hgn.out⟩; have Hs4 := Lib.hid ((Hs3.out.trans (RStep.of_chg (Chg.refl NoB w3).drew)).trans hs4); have Hm4 := Lib.hid hm4; clear hs4 hm4))
    go_wp2_with fail
    first | go_end0 | refine bodyPost_ret (results_none rfl _ _ _) rfl ?_
    exact ⟨rfl, _, Hs4.out, by rw [Hr.out]; exact Hm4.out⟩
end Go.Proofs.YthehpmffkkogpaaGreatDoor
namespace Go.Proofs.YthehpmffkkogpaaGreatDoor
set_option linter.unusedVariables false
open Go.ChangeShapes Go.WideShapes Go.ChangeAt Go.RowKit
theorem Lb.rstep {base sb : Nat} {w w' : World} {F F' : RF} (h : Lb base w) (hs : RStep sb F F' w w') (h1 : base ≤ sb) (h2 : ∀ k, Foot3 F k → base ≤ k) : Lb base w' := h.chg hs.chg (by rintro k (rfl | e); exact h1; exact h2 k e)
theorem ratoi_any (t : List UInt8) (ht : t.length ≤ 2048) (base : Nat) (w : World) (h : Lb base w) :
    Calls Tryz.prog 72 #[.string (tx t)] w fun e w' => ∃ n er, e = .returned (.tuple #[.int .i64 n, er]) ∧ Chg NoB w w' ∧ (-9223372036854775808 ≤ n ∧ n ≤ 9223372036854775807) ∧ ∀ m, Lib.atoiAll t = .ok m → n = m := by
  have hs : (tx t).size ≤ 281474976710656 := by rw [tx_size]; omega
  have hl : (tx t).data.toList = t := tx_list t
  cases ha : Lib.atoiAll t with
  | ok n =>
    refine (Tryz.strconv_Atoi_ok (tx t) (by omega) n (by rw [hl]; exact ha) w).mono fun e w' ⟨he, hw⟩ => ⟨n, _, he, ?_, Lib.atoiAll_bounds ha, fun m hm => by injection hm⟩
    rcases hw with rfl | ⟨t, rfl⟩
    · exact Chg.refl _ _
    · exact chg_of_below (Lib.bytesWorld_below _ _ _)
  | range =>
    obtain ⟨tp, p, hv⟩ := h.rng
    refine (Tryz.strconv_Atoi_range_var (tx t) hs (by rw [hl]; exact ha) tp p w (hv w (Below.refl _ _))).mono ?_
    rintro e w1 ⟨M, he, _, _, g⟩
    exact ⟨_, _, he, chg_of_below g, Lib.atoiSat_bounds _, fun m hm => by cases hm⟩
  | _ =>
    obtain ⟨tp, p, hv⟩ := h.syn
    refine (Tryz.strconv_Atoi_bad_var (tx t) hs (by rw [hl, ha]; intro h; cases h) (fun v => by rw [hl, ha]; intro h; cases h) tp p w (hv w (Below.refl _ _))).mono ?_
    rintro e w1 ⟨M, he, _, _, g⟩
    exact ⟨_, _, he, chg_of_below g, by decide, fun m hm => by cases hm⟩
theorem ratoi_itoa (n : Int) (h0 : -9223372036854775808 ≤ n) (h1 : n ≤ 9223372036854775807) : Lib.atoiAll (Lib.itoa n) = .ok n := by
  by_cases hn : n < 0
  · have hv : (Lib.decDigits n.natAbs).foldl (fun n b => n * 10 + (b.toNat - 48)) 0 = n.natAbs := val_dec _
    have hp := parse_ok (Lib.decDigits n.natAbs) 0 (dec_in _) (by rw [hv]; omega)
    rw [hv] at hp
    unfold Lib.itoa
    rw [if_pos hn, Lib.atoiAll_minus]
    unfold Lib.parseMag
    rw [if_neg (dec_ne _), hp]
    simp only [Lib.signed]
    rw [if_neg (by omega)]
    congr 1
    omega
  · obtain ⟨m, rfl⟩ := Int.eq_ofNat_of_zero_le (by omega : 0 ≤ n)
    have hd := digP_dec m (by omega)
    have hi : Lib.itoa (m : Int) = Lib.decDigits m := by unfold Lib.itoa; rw [if_neg (by omega), Int.toNat_natCast]
    unfold digP at hd
    rw [hi]
    split at hd
    · rename_i k hk
      split at hd
      · cases hd; exact hk
      · cases hd
    · cases hd
theorem rdigP_itoa (n : Int) (h0 : -9223372036854775808 ≤ n) (h1 : n ≤ 9223372036854775807) : digP (Lib.itoa n) = some n := by
  unfold digP
  rw [ratoi_itoa n h0 h1]
  simp
theorem put_depth {s : RS} (h : s.stack.length ≤ 64) (v : ValL) : (putS v s).stack.length ≤ 64 := by
  unfold putS
  split
  · split
    · unfold failS; split <;> exact h
    · show (s.stack ++ [v]).length ≤ 64
      rw [List.length_append, List.length_singleton]
      omega
  · exact h
/- what the test of a number read says -/
theorem num_same {t : List UInt8} {n : Int} (hb : -9223372036854775808 ≤ n ∧ n ≤ 9223372036854775807) (hn : ∀ m, Lib.atoiAll t = .ok m → n = m) :
    (itoaL n = t → digP t = some n) ∧ (itoaL n ≠ t → digP t = none) := by
  refine ⟨fun h => ?_, fun h => ?_⟩
  · rw [← h]; exact rdigP_itoa n hb.1 hb.2
  · unfold digP
    cases ha : Lib.atoiAll t with
    | ok m =>
      have e := hn m ha
      subst e
      simp only
      rw [if_neg (show ¬ Lib.itoa n = t from h)]
    | _ => rfl
set_option maxHeartbeats 4000000 in
set_option maxRecDepth 20000 in
theorem rtexts24 (view : List FileL) {len : Int} {w : World} {lo sb : Nat} {s : RS} {F : Value × Value × Value} (hm : RefM w lo sb s F) (wf : WfR len s) (vq : Option Addr) (vc : Nat) (base : Nat) (hlb : Lb base w) (hbase : base ≤ lo) : Calls Tryz.prog 57 #[.pointer (some ⟨sb, 0, none⟩), .string (tx (wordL 24)), .agg #[.slice vq view.length vc]] w (ROut lo sb F (textsS view 24 s) w) := by
  have HLB := Lib.hid (fun w' (F' : RF) (h : RStep sb F F' w w') => hlb.rstep h (Nat.le_trans hbase hm.lo.1.1) (fun k hk => by have := (hm.low.1 k hk).1; have := hm.lo.1; omega))
  clear hlb hbase
  obtain ⟨r, hr⟩ : ∃ z, z = textsS view 24 s := ⟨_, rfl⟩
  rw [← hr]
  obtain ⟨vn, hvn⟩ : ∃ z, z = view.length := ⟨_, rfl⟩
  rw [← hvn]
  have hal_ := (Chg.refl NoB w).alloc (.cells #[.slice vq vn vc] 25)
  have hb_ := heap_alloc_new w (.cells #[.slice vq vn vc] 25)
  obtain ⟨vb, hxb_⟩ : ∃ b, b = w.heap.size := ⟨_, rfl⟩
  obtain ⟨w1, hw_⟩ : ∃ w_, w.alloc (.cells #[.slice vq vn vc] 25) = w_ := ⟨_, rfl⟩
  have hz_ : w1.heap.size = vb + 1 := by rw [← hw_, hxb_]; exact alloc_size _ _
  rw [hw_] at hal_ hb_
  rw [← hxb_] at hb_
  have Hw1 := Lib.hid hw_
  have Hx1 := Lib.hid hxb_
  have Ha1 := Lib.hid hal_
  have Hb1 := Lib.hid hb_
  have Hz1 := Lib.hid hz_
  clear hal_ hb_ hxb_ hw_ hz_
  have Hnv := Lib.hid (show ¬ (vb = sb ∨ Foot3 F vb) from fun e => by
    have h0 := Hx1.out
    rcases e with e | e
    · have := hm.lo; omega
    · have := (hm.low.1 vb e).2; omega)
  replace hm := hm.keep Ha1.out
  have Hs1 := Lib.hid (RStep.of_chg (sb := sb) (F := F) Ha1.out)
  have Hsb := Lib.hid (show sb < w1.heap.size from hm.lo.1.2)
  have HT := Lib.hid (rtake_any [110] (by decide) (by decide) hm wf.depth)
  obtain ⟨⟨a0, a1, a2⟩, hl⟩ := takeL_one 110 s
  have hwa := takeL_wf wf [110] (a0, a1, a2) (by rw [hl]; simp)
  have hd := takeS_stack [110] wf.depth
  have hr : r = putS (txtV (itoaL a1)) (takeS [110] s) := by rw [hr]; show putS (txtV (itoaL ((takeL [110] s).getD 0 (numV 0)).2.1)) _ = _; rw [hl]; rfl
  unfold TakeP at HT
  rw [hl] at HT
  generalize takeS [110] s = t at *
  have Hr := Lib.hid hr
  have Hd := Lib.hid hd
  have Hlo := Lib.hid (And.intro hwa.lo hwa.hi)
  have hw : tx (wordL 24) = ⟨#[115, 116, 114]⟩ := rfl
  clear hm wf hl hwa hd hr hvn
  go_enter Tryz.func57, Tryz.ntmps57
  go_upto_region 1 with fail
  rw [Hw1.out, ← Hx1.out]
  go_wp2_with fail
  refine HT.out.mono ?_
  rintro e w2 ⟨q2, c2, rfl, hr2, F2, hs2, hm2, hn2⟩
  obtain ⟨h3, h4, g, rfl, hcl⟩ := vals_cells hr2 (by decide) rfl
  unfold maxLen at h4
  have Hgn := Lib.hid (show ¬ (g = sb ∨ Foot3 F2 g) from fun e => by
    rcases e with e | e
    · have h1 := (World.ownsRow.lt hr2 g rfl).1; have h2 := Hsb.out; omega
    · exact hn2 g rfl e)
  have Hs2 := Lib.hid (Hs1.out.trans hs2)
  have Hm2 := Lib.hid hm2
  clear hr2 hs2 hm2 hn2 HT
  have d1 := (hcl 0 (by show 0 < 1; decide)).2.1
  change w2.cell? ⟨g, 1, none⟩ = some (.int .i64 a1) at d1
  have HI := Lib.hid (itoa_any a1 Hlo.out.1 Hlo.out.2 base w2 (HLB.out _ _ Hs2.out))
  clear hcl
  go_wp2_with fail
  refine HI.out.mono ?_
  rintro e w3 ⟨rfl, hc3⟩
  have Hs3 := Lib.hid (Hs2.out.trans (RStep.of_chg hc3))
  have Hm3 := Lib.hid (Hm2.out.keep hc3)
  clear hc3 d1
  go_wp2_with fail
  refine (rtext_any (itoaL a1) Hm3.out Hd.out).mono ?_
  rintro e w4 ⟨rfl, F4, hs4, hm4⟩
  have Hs4 := Lib.hid (Hs3.out.trans hs4)
  have Hm4 := Lib.hid hm4
  clear hs4 hm4
  go_wp2_with fail
  first | go_end0 | refine bodyPost_ret (results_none rfl _ _ _) rfl ?_
  exact ⟨rfl, _, Hs4.out, by rw [Hr.out]; exact Hm4.out⟩
set_option maxHeartbeats 4000000 in
set_option maxRecDepth 20000 in
theorem rtexts25 (view : List FileL) {len : Int} {w : World} {lo sb : Nat} {s : RS} {F : Value × Value × Value} (hm : RefM w lo sb s F) (wf : WfR len s) (vq : Option Addr) (vc : Nat) (base : Nat) (hlb : Lb base w) (hbase : base ≤ lo) : Calls Tryz.prog 57 #[.pointer (some ⟨sb, 0, none⟩), .string (tx (wordL 25)), .agg #[.slice vq view.length vc]] w (ROut lo sb F (textsS view 25 s) w) := by
  have HLB := Lib.hid (fun w' (F' : RF) (h : RStep sb F F' w w') => hlb.rstep h (Nat.le_trans hbase hm.lo.1.1) (fun k hk => by have := (hm.low.1 k hk).1; have := hm.lo.1; omega))
  clear hlb hbase
  obtain ⟨r, hr⟩ : ∃ z, z = textsS view 25 s := ⟨_, rfl⟩
  rw [← hr]
  obtain ⟨vn, hvn⟩ : ∃ z, z = view.length := ⟨_, rfl⟩
  rw [← hvn]
  have hal_ := (Chg.refl NoB w).alloc (.cells #[.slice vq vn vc] 25)
  have hb_ := heap_alloc_new w (.cells #[.slice vq vn vc] 25)
  obtain ⟨vb, hxb_⟩ : ∃ b, b = w.heap.size := ⟨_, rfl⟩
  obtain ⟨w1, hw_⟩ : ∃ w_, w.alloc (.cells #[.slice vq vn vc] 25) = w_ := ⟨_, rfl⟩
  have hz_ : w1.heap.size = vb + 1 := by rw [← hw_, hxb_]; exact alloc_size _ _
  rw [hw_] at hal_ hb_
  rw [← hxb_] at hb_
  have Hw1 := Lib.hid hw_
  have Hx1 := Lib.hid hxb_
  have Ha1 := Lib.hid hal_
  have Hb1 := Lib.hid hb_
  have Hz1 := Lib.hid hz_
  clear hal_ hb_ hxb_ hw_ hz_
  have Hnv := Lib.hid (show ¬ (vb = sb ∨ Foot3 F vb) from fun e => by
    have h0 := Hx1.out
    rcases e with e | e
    · have := hm.lo; omega
    · have := (hm.low.1 vb e).2; omega)
  replace hm := hm.keep Ha1.out
  have Hs1 := Lib.hid (RStep.of_chg (sb := sb) (F := F) Ha1.out)
  have Hsb := Lib.hid (show sb < w1.heap.size from hm.lo.1.2)
  have HT := Lib.hid (rtake_any [116] (by decide) (by decide) hm wf.depth)
  obtain ⟨⟨a0, a1, a2⟩, hl⟩ := takeL_one 116 s
  have hwa : a2.length ≤ 2048 := (takeL_wf wf [116] (a0, a1, a2) (by rw [hl]; simp)).len
  have hwt : (takeS [116] s).stack.length ≤ 64 := (take_wfr wf [116]).depth
  have hr : r = putS (boolV (digP a2).isSome) (putS (numV (match digP a2 with | some n => n | none => 0)) (takeS [116] s)) := by
    rw [hr]
    show (let x := ((takeL [116] s).getD 0 (numV 0)).2.2; putS (boolV (digP x).isSome) (putS (numV (match digP x with | some n => n | none => 0)) (takeS [116] s))) = _
    rw [hl]; rfl
  have hput : ∀ v, (putS v (takeS [116] s)).stack.length ≤ 64 := put_depth hwt
  unfold TakeP at HT
  rw [hl] at HT
  generalize takeS [116] s = t at *
  have Hr0 := Lib.hid hr
  have Hd := Lib.hid hwt
  have Hp := Lib.hid hput
  have Hwa := Lib.hid hwa
  have hw : tx (wordL 25) = ⟨#[110, 117, 109]⟩ := rfl
  clear hm wf hl hwa hwt hr hvn hput
  go_enter Tryz.func57, Tryz.ntmps57
  go_upto_region 1 with fail
  rw [Hw1.out, ← Hx1.out]
  go_wp2_with fail
  refine HT.out.mono ?_
  rintro e w2 ⟨q2, c2, rfl, hr2, F2, hs2, hm2, hn2⟩
  obtain ⟨h3, h4, g, rfl, hcl⟩ := vals_cells hr2 (by decide) rfl
  unfold maxLen at h4
  have Hgn := Lib.hid (show ¬ (g = sb ∨ Foot3 F2 g) from fun e => by
    rcases e with e | e
    · have h1 := (World.ownsRow.lt hr2 g rfl).1; have h2 := Hsb.out; omega
    · exact hn2 g rfl e)
  have Hs2 := Lib.hid (Hs1.out.trans hs2)
  have Hm2 := Lib.hid hm2
  clear hr2 hs2 hm2 hn2 HT
  have d2 := (hcl 0 (by show 0 < 1; decide)).2.2
  change w2.cell? ⟨g, 2, none⟩ = some (.string (tx a2)) at d2
  have HA := Lib.hid (ratoi_any a2 Hwa.out base w2 (HLB.out _ _ Hs2.out))
  clear hcl
  go_wp2_with fail
  refine HA.out.mono ?_
  rintro e w3 ⟨n, er, rfl, hc3, hn, hok⟩
  have hsame := num_same hn hok
  have d2b := hc3.keep d2
  have Hs3 := Lib.hid (Hs2.out.trans (RStep.of_chg hc3))
  have Hm3 := Lib.hid (Hm2.out.keep hc3)
  have HI := Lib.hid (itoa_any n hn.1 hn.2 base w3.drew (HLB.out _ _ (Hs3.out.trans (RStep.of_chg (Chg.refl NoB w3).drew))))
  have Hsame := Lib.hid hsame
  clear hc3 d2 hn hok hsame HA
  go_upto_region 22 with fail
  have hA : w3.cell? ⟨g, 2, none⟩ = some (.string (tx a2)) := d2b
  have hB : w3.drew.cell? ⟨g, 2, none⟩ = some (.string (tx a2)) := d2b
  go_region_held3 (fun w' => w'.cell? ⟨g, 2, none⟩ = some (.string (tx a2))) (first | with_reducible exact hA | with_reducible exact hB | with_reducible exact hC) ((go_at_call 31; go_must (refine HI.out.mono ?_); rintro e w4 ⟨rfl, hc4⟩; have hC : w4.cell? ⟨g, 2, none⟩ = some (.string (tx a2)) := hc4.keep hB; have Hs4 := Lib.hid ((Hs3.out.trans (RStep.of_chg (Chg.refl NoB w3).drew)).trans (RStep.of_chg hc4)); have Hm4 := Lib.hid ((Hm3.out.keep (Chg.refl NoB w3).drew).keep hc4); clear hc4))
  have hl2 : (tx a2).toList = a2 := by rw [Lib.toList_data]; exact tx_list a2
  rw [hl2]
  clear hA hB hC d2b HI hl2
  by_cases hi : itoaL n = a2
  · have hdig := Hsame.out.1 hi
    have hr2 := Hr0.out
    rw [hdig] at hr2
    have Hr := Lib.hid (show r = putS (boolV true) (putS (numV n) t) from hr2)
    have hb : (Lib.itoa n == a2) = true := by rw [beq_iff_eq]; exact hi
    rw [hb]
    clear hdig hr2 hi hb Hsame Hr0
    go_wp2_with fail
    refine (rnum_any n Hm4.out Hd.out).mono ?_
    rintro e w5 ⟨rfl, F5, hs5, hm5⟩
    have Hs5 := Lib.hid (Hs4.out.trans hs5)
    have Hm5 := Lib.hid hm5
    clear hs5 hm5
    go_wp2_with fail
    refine (rtruth_any true Hm5.out (Hp.out _)).mono ?_
    rintro e w6 ⟨rfl, F6, hs6, hm6⟩
    have Hs6 := Lib.hid (Hs5.out.trans hs6)
    have Hm6 := Lib.hid hm6
    clear hs6 hm6
    go_wp2_with fail
    first | go_end0 | refine bodyPost_ret (results_none rfl _ _ _) rfl ?_
    exact ⟨rfl, _, Hs6.out, by rw [Hr.out]; exact Hm6.out⟩
  · have hdig := Hsame.out.2 hi
    have hr2 := Hr0.out
    rw [hdig] at hr2
    have Hr := Lib.hid (show r = putS (boolV false) (putS (numV 0) t) from hr2)
    have hb : (Lib.itoa n == a2) = false := by rw [beq_eq_false_iff_ne]; exact hi
    rw [hb]
    clear hdig hr2 hi hb Hsame Hr0
    go_wp2_with fail
    refine (rnum_any 0 Hm4.out Hd.out).mono ?_
    rintro e w5 ⟨rfl, F5, hs5, hm5⟩
    have Hs5 := Lib.hid (Hs4.out.trans hs5)
    have Hm5 := Lib.hid hm5
    clear hs5 hm5
    go_wp2_with fail
    refine (rtruth_any false Hm5.out (Hp.out _)).mono ?_
    rintro e w6 ⟨rfl, F6, hs6, hm6⟩
    have Hs6 := Lib.hid (Hs5.out.trans hs6)
    have Hm6 := Lib.hid hm6
    clear hs6 hm6
    go_wp2_with fail
    first | go_end0 | refine bodyPost_ret (results_none rfl _ _ _) rfl ?_
    exact ⟨rfl, _, Hs6.out, by rw [Hr.out]; exact Hm6.out⟩
set_option maxHeartbeats 4000000 in
set_option maxRecDepth 20000 in
theorem rtexts27 (view : List FileL) {len : Int} {w : World} {lo sb : Nat} {s : RS} {F : Value × Value × Value} (hm : RefM w lo sb s F) (wf : WfR len s) (vq : Option Addr) (vc : Nat) (hvl : view.length ≤ 1048576) : Calls Tryz.prog 57 #[.pointer (some ⟨sb, 0, none⟩), .string (tx (wordL 27)), .agg #[.slice vq view.length vc]] w (ROut lo sb F (textsS view 27 s) w) := by
  obtain ⟨r, hr⟩ : ∃ z, z = textsS view 27 s := ⟨_, rfl⟩
  rw [← hr]
  obtain ⟨vn, hvn⟩ : ∃ z, z = view.length := ⟨_, rfl⟩
  rw [← hvn]
  have hal_ := (Chg.refl NoB w).alloc (.cells #[.slice vq vn vc] 25)
  have hb_ := heap_alloc_new w (.cells #[.slice vq vn vc] 25)
  obtain ⟨vb, hxb_⟩ : ∃ b, b = w.heap.size := ⟨_, rfl⟩
  obtain ⟨w1, hw_⟩ : ∃ w_, w.alloc (.cells #[.slice vq vn vc] 25) = w_ := ⟨_, rfl⟩
  have hz_ : w1.heap.size = vb + 1 := by rw [← hw_, hxb_]; exact alloc_size _ _
  rw [hw_] at hal_ hb_
  rw [← hxb_] at hb_
  have Hw1 := Lib.hid hw_
  have Hx1 := Lib.hid hxb_
  have Ha1 := Lib.hid hal_
  have Hb1 := Lib.hid hb_
  have Hz1 := Lib.hid hz_
  clear hal_ hb_ hxb_ hw_ hz_
  have Hnv := Lib.hid (show ¬ (vb = sb ∨ Foot3 F vb) from fun e => by
    have h0 := Hx1.out
    rcases e with e | e
    · have := hm.lo; omega
    · have := (hm.low.1 vb e).2; omega)
  replace hm := hm.keep Ha1.out
  have Hs1 := Lib.hid (RStep.of_chg (sb := sb) (F := F) Ha1.out)
  have Hsb := Lib.hid (show sb < w1.heap.size from hm.lo.1.2)
  have Hr := Lib.hid (show r = putS (numV (vn : Nat)) s by rw [hr, hvn]; rfl)
  have HN := Lib.hid (rnum_any (vn : Nat) hm wf.depth)
  have hvl2 : vn ≤ 1048576 := by rw [hvn]; exact hvl
  have v0 : w1.cell? ⟨vb, 0, none⟩ = some (.slice vq vn vc) := by have h := cell_of_row w1 vb 0 _ _ (0, 0) Hb1.out; rw [h]; rfl
  have hw : tx (wordL 27) = ⟨#[99, 111, 117, 110, 116]⟩ := rfl
  clear hm wf hr hvn hvl
  go_enter Tryz.func57, Tryz.ntmps57
  go_upto_region 1 with fail
  rw [Hw1.out, ← Hx1.out]
  go_wp2_with fail
  refine (HN.out).mono ?_
  rintro e w2 ⟨rfl, F2, hs2, hm2⟩
  have Hs2 := Lib.hid (Hs1.out.trans hs2)
  have Hm2 := Lib.hid hm2
  clear hs2 hm2
  go_wp2_with fail
  first | go_end0 | refine bodyPost_ret (results_none rfl _ _ _) rfl ?_
  exact ⟨rfl, _, Hs2.out, by rw [Hr.out]; exact Hm2.out⟩
end Go.Proofs.YthehpmffkkogpaaGreatDoor
namespace Go.Proofs.YthehpmffkkogpaaGreatDoor
set_option linter.unusedVariables false
open Go.ChangeShapes Go.WideShapes Go.ChangeAt Go.RowKit
set_option maxHeartbeats 4000000 in
set_option maxRecDepth 20000 in
theorem rtexts26 (view : List FileL) {len : Int} {w : World} {lo sb : Nat} {s : RS} {F : Value × Value × Value} (hm : RefM w lo sb s F) (wf : WfR len s) (vq : Option Addr) (vc : Nat) {kb ko : Nat} (hview : InpS w (fun k => k < lo) (.slice vq view.length vc) view kb ko) (hgv : goodF view = true) : Calls Tryz.prog 57 #[.pointer (some ⟨sb, 0, none⟩), .string (tx (wordL 26)), .agg #[.slice vq view.length vc]] w (ROut lo sb F (textsS view 26 s) w) := by
  have HV := Lib.hid (fun w' (F' : RF) (h : RStep sb F F' w w') => hview.keep h.chg (fun k hk e => by rcases e with e | e; (have := hm.lo; omega); have := (hm.low.1 k e).1; omega))
  have hvl := (good_sizes hgv).1
  have Hgv := Lib.hid hgv
  clear hview hgv
  obtain ⟨r, hr⟩ : ∃ z, z = textsS view 26 s := ⟨_, rfl⟩
  rw [← hr]
  obtain ⟨vn, hvn⟩ : ∃ z, z = view.length := ⟨_, rfl⟩
  rw [← hvn]
  have hal_ := (Chg.refl NoB w).alloc (.cells #[.slice vq vn vc] 25)
  have hb_ := heap_alloc_new w (.cells #[.slice vq vn vc] 25)
  obtain ⟨vb, hxb_⟩ : ∃ b, b = w.heap.size := ⟨_, rfl⟩
  obtain ⟨w1, hw_⟩ : ∃ w_, w.alloc (.cells #[.slice vq vn vc] 25) = w_ := ⟨_, rfl⟩
  have hz_ : w1.heap.size = vb + 1 := by rw [← hw_, hxb_]; exact alloc_size _ _
  rw [hw_] at hal_ hb_
  rw [← hxb_] at hb_
  have Hw1 := Lib.hid hw_
  have Hx1 := Lib.hid hxb_
  have Ha1 := Lib.hid hal_
  have Hb1 := Lib.hid hb_
  have Hz1 := Lib.hid hz_
  clear hal_ hb_ hxb_ hw_ hz_
  have Hnv := Lib.hid (show ¬ (vb = sb ∨ Foot3 F vb) from fun e => by
    have h0 := Hx1.out
    rcases e with e | e
    · have := hm.lo; omega
    · have := (hm.low.1 vb e).2; omega)
  replace hm := hm.keep Ha1.out
  have Hs1 := Lib.hid (RStep.of_chg (sb := sb) (F := F) Ha1.out)
  have Hsb := Lib.hid (show sb < w1.heap.size from hm.lo.1.2)
  rw [← hvn] at HV hvl
  have v0 : w1.cell? ⟨vb, 0, none⟩ = some (.slice vq vn vc) := by have h := cell_of_row w1 vb 0 _ _ (0, 0) Hb1.out; rw [h]; rfl
  have HT := Lib.hid (rtake_any [116] (by decide) (by decide) hm wf.depth)
  obtain ⟨⟨a0, a1, a2⟩, hl⟩ := takeL_one 116 s
  have hwt : (takeS [116] s).stack.length ≤ 64 := (take_wfr wf [116]).depth
  have hr : r = putS (boolV (getF view a2).2) (putS (txtV (getF view a2).1) (takeS [116] s)) := by
    rw [hr]
    show (let x := ((takeL [116] s).getD 0 (numV 0)).2.2; putS (boolV (getF view x).2) (putS (txtV (getF view x).1) (takeS [116] s))) = _
    rw [hl]; rfl
  have hput : ∀ v, (putS v (takeS [116] s)).stack.length ≤ 64 := put_depth hwt
  unfold TakeP at HT
  rw [hl] at HT
  generalize takeS [116] s = t at *
  have HGV := Lib.hid (fun w' (F' : RF) (h : RStep sb F F' w w') => rget_any view a2 _ _ kb ko w' (by rw [← hvn]; omega) (HV.out w' F' h))
  obtain ⟨g1, hg1⟩ : ∃ g, g = (getF view a2).1 := ⟨_, rfl⟩
  obtain ⟨g2, hg2⟩ : ∃ g, g = (getF view a2).2 := ⟨_, rfl⟩
  rw [← hg1, ← hg2] at HGV hr
  have Hr := Lib.hid hr
  have Hd := Lib.hid hwt
  have Hp := Lib.hid hput
  have hw : tx (wordL 26) = ⟨#[114, 101, 97, 100]⟩ := rfl
  clear hm wf hl hwt hr hvn hput hg1 hg2
  go_enter Tryz.func57, Tryz.ntmps57
  go_upto_region 1 with fail
  rw [Hw1.out, ← Hx1.out]
  go_wp2_with fail
  refine HT.out.mono ?_
  rintro e w2 ⟨q2, c2, rfl, hr2, F2, hs2, hm2, hn2⟩
  obtain ⟨h3, h4, g, rfl, hcl⟩ := vals_cells hr2 (by decide) rfl
  unfold maxLen at h4
  have Hgn := Lib.hid (show ¬ (g = sb ∨ Foot3 F2 g) from fun e => by
    rcases e with e | e
    · have h1 := (World.ownsRow.lt hr2 g rfl).1; have h2 := Hsb.out; omega
    · exact hn2 g rfl e)
  have Hgl := Lib.hid (show g < w2.heap.size from (World.ownsRow.lt hr2 g rfl).2)
  have Hs2 := Lib.hid (Hs1.out.trans hs2)
  have Hm2 := Lib.hid hm2
  replace v0 := hs2.chg.cell v0 Hnv.out
  clear hr2 hs2 hm2 hn2 HT
  have d2 := (hcl 0 (by show 0 < 1; decide)).2.2
  change w2.cell? ⟨g, 2, none⟩ = some (.string (tx a2)) at d2
  clear hcl
  go_upto_region 29 with fail
  have hA : w2.cell? ⟨vb, 0, none⟩ = some (.slice vq vn vc) ∧ w2.cell? ⟨g, 2, none⟩ = some (.string (tx a2)) := ⟨v0, d2⟩
  have hB : w2.drew.cell? ⟨vb, 0, none⟩ = some (.slice vq vn vc) ∧ w2.drew.cell? ⟨g, 2, none⟩ = some (.string (tx a2)) := ⟨v0, d2⟩
  have Hs2' := Lib.hid (Hs2.out.trans (RStep.of_chg (Chg.refl NoB w2).drew))
  go_region_held3 (fun w' => w'.cell? ⟨vb, 0, none⟩ = some (.slice vq vn vc) ∧ w'.cell? ⟨g, 2, none⟩ = some (.string (tx a2))) (first | with_reducible exact hA | with_reducible exact hB | with_reducible exact hC) ((go_at_call 45; go_must (refine (HGV.out _ _ Hs2'.out).mono ?_); rintro e w3 ⟨hc3, rfl⟩; have hC : w3.cell? ⟨vb, 0, none⟩ = some (.slice vq vn vc) ∧ w3.cell? ⟨g, 2, none⟩ = some (.string (tx a2)) := ⟨hc3.keep hB.1, hc3.keep hB.2⟩; have Hs3 := Lib.hid (Hs2'.out.trans (RStep.of_chg hc3)); have Hm3 := Lib.hid ((Hm2.out.keep (Chg.refl NoB w2).drew).keep hc3); clear hc3))
  all_goals
    clear hA hB hC v0 d2
    go_wp2_with fail
    refine (rtext_any g1 Hm3.out Hd.out).mono ?_
    rintro e w4 ⟨rfl, F4, hs4, hm4⟩
    have Hs4 := Lib.hid (Hs3.out.trans hs4)
    have Hm4 := Lib.hid hm4
    clear hs4 hm4
    go_wp2_with fail
    refine (rtruth_any g2 Hm4.out (Hp.out _)).mono ?_
    rintro e w5 ⟨rfl, F5, hs5, hm5⟩
    have Hs5 := Lib.hid (Hs4.out.trans hs5)
    have Hm5 := Lib.hid hm5
    clear hs5 hm5
    go_wp2_with fail
    first | go_end0 | refine bodyPost_ret (results_none rfl _ _ _) rfl ?_
    exact ⟨rfl, _, Hs5.out, by rw [Hr.out]; exact Hm5.out⟩
set_option maxHeartbeats 4000000 in
set_option maxRecDepth 20000 in
theorem rtexts28 (view : List FileL) {len : Int} {w : World} {lo sb : Nat} {s : RS} {F : Value × Value × Value} (hm : RefM w lo sb s F) (wf : WfR len s) (vq : Option Addr) (vc : Nat) {kb ko : Nat} (hview : InpS w (fun k => k < lo) (.slice vq view.length vc) view kb ko) (hgv : goodF view = true) : Calls Tryz.prog 57 #[.pointer (some ⟨sb, 0, none⟩), .string (tx (wordL 28)), .agg #[.slice vq view.length vc]] w (ROut lo sb F (textsS view 28 s) w) := by
  have HV := Lib.hid (fun w' (F' : RF) (h : RStep sb F F' w w') => hview.keep h.chg (fun k hk e => by rcases e with e | e; (have := hm.lo; omega); have := (hm.low.1 k e).1; omega))
  have hvl := (good_sizes hgv).1
  have Hgv := Lib.hid hgv
  clear hview hgv
  obtain ⟨r, hr⟩ : ∃ z, z = textsS view 28 s := ⟨_, rfl⟩
  rw [← hr]
  obtain ⟨vn, hvn⟩ : ∃ z, z = view.length := ⟨_, rfl⟩
  rw [← hvn]
  have hal_ := (Chg.refl NoB w).alloc (.cells #[.slice vq vn vc] 25)
  have hb_ := heap_alloc_new w (.cells #[.slice vq vn vc] 25)
  obtain ⟨vb, hxb_⟩ : ∃ b, b = w.heap.size := ⟨_, rfl⟩
  obtain ⟨w1, hw_⟩ : ∃ w_, w.alloc (.cells #[.slice vq vn vc] 25) = w_ := ⟨_, rfl⟩
  have hz_ : w1.heap.size = vb + 1 := by rw [← hw_, hxb_]; exact alloc_size _ _
  rw [hw_] at hal_ hb_
  rw [← hxb_] at hb_
  have Hw1 := Lib.hid hw_
  have Hx1 := Lib.hid hxb_
  have Ha1 := Lib.hid hal_
  have Hb1 := Lib.hid hb_
  have Hz1 := Lib.hid hz_
  clear hal_ hb_ hxb_ hw_ hz_
  have Hnv := Lib.hid (show ¬ (vb = sb ∨ Foot3 F vb) from fun e => by
    have h0 := Hx1.out
    rcases e with e | e
    · have := hm.lo; omega
    · have := (hm.low.1 vb e).2; omega)
  replace hm := hm.keep Ha1.out
  have Hs1 := Lib.hid (RStep.of_chg (sb := sb) (F := F) Ha1.out)
  have Hsb := Lib.hid (show sb < w1.heap.size from hm.lo.1.2)
  rw [← hvn] at HV hvl
  have v0 : w1.cell? ⟨vb, 0, none⟩ = some (.slice vq vn vc) := by have h := cell_of_row w1 vb 0 _ _ (0, 0) Hb1.out; rw [h]; rfl
  have HT := Lib.hid (rtake_any [110] (by decide) (by decide) hm wf.depth)
  obtain ⟨⟨a0, a1, a2⟩, hl⟩ := takeL_one 110 s
  have hwa := takeL_wf wf [110] (a0, a1, a2) (by rw [hl]; simp)
  have hrng : -9223372036854775808 ≤ a1 ∧ a1 ≤ 9223372036854775807 := ⟨hwa.lo, hwa.hi⟩
  have hwt : (takeS [110] s).stack.length ≤ 64 := (take_wfr wf [110]).depth
  have hr : r = putS (boolV (decide (0 ≤ a1 ∧ a1 < (vn : Int)))) (putS (txtV (if 0 ≤ a1 then (match view[a1.toNat]? with | some f => f.1 | none => []) else [])) (takeS [110] s)) := by
    rw [hr, hvn]
    show (let n := ((takeL [110] s).getD 0 (numV 0)).2.1; putS (boolV (decide (0 ≤ n ∧ n < view.length))) (putS (txtV (if 0 ≤ n then (match view[n.toNat]? with | some f => f.1 | none => []) else [])) (takeS [110] s))) = _
    rw [hl]; rfl
  have hput : ∀ v, (putS v (takeS [110] s)).stack.length ≤ 64 := put_depth hwt
  unfold TakeP at HT
  rw [hl] at HT
  generalize takeS [110] s = t at *
  have Hr0 := Lib.hid hr
  have Hd := Lib.hid hwt
  have Hp := Lib.hid hput
  have Hvn := Lib.hid hvn
  have hw : tx (wordL 28) = ⟨#[112, 97, 116, 104]⟩ := rfl
  clear hm wf hl hwa hwt hr hvn hput
  go_enter Tryz.func57, Tryz.ntmps57
  go_upto_region 1 with fail
  rw [Hw1.out, ← Hx1.out]
  go_wp2_with fail
  refine HT.out.mono ?_
  rintro e w2 ⟨q2, c2, rfl, hr2, F2, hs2, hm2, hn2⟩
  obtain ⟨h3, h4, g, rfl, hcl⟩ := vals_cells hr2 (by decide) rfl
  unfold maxLen at h4
  have Hgn := Lib.hid (show ¬ (g = sb ∨ Foot3 F2 g) from fun e => by
    rcases e with e | e
    · have h1 := (World.ownsRow.lt hr2 g rfl).1; have h2 := Hsb.out; omega
    · exact hn2 g rfl e)
  have Hgl := Lib.hid (show g < w2.heap.size from (World.ownsRow.lt hr2 g rfl).2)
  have Hs2 := Lib.hid (Hs1.out.trans hs2)
  have Hm2 := Lib.hid hm2
  replace v0 := hs2.chg.cell v0 Hnv.out
  clear hr2 hs2 hm2 hn2 HT
  have d1 := (hcl 0 (by show 0 < 1; decide)).2.1
  change w2.cell? ⟨g, 1, none⟩ = some (.int .i64 a1) at d1
  clear hcl
  have hz := Hr0.out
  by_cases h0 : 0 ≤ a1
  · obtain ⟨m, rfl⟩ : ∃ m : Nat, a1 = m := ⟨a1.toNat, by omega⟩
    rw [if_pos h0, Int.toNat_natCast] at hz
    by_cases hlt : m < vn
    · have hlt' : m < view.length := by rw [← Hvn.out]; exact hlt
      have hv2 := HV.out _ _ Hs2.out
      rw [Hvn.out] at hv2
      obtain ⟨⟨q', c', e', hnc, hcm, hq⟩, hat⟩ := hv2
      simp only [Value.slice.injEq] at e'
      obtain ⟨rfl, -, rfl⟩ := e'
      obtain ⟨rfl, -⟩ := hq (by intro e; rw [e] at hlt'; simp at hlt')
      obtain ⟨g0, g1⟩ := hat m hlt'
      rw [List.getElem?_eq_getElem hlt'] at hz
      have hd : decide (0 ≤ (m : Int) ∧ (m : Int) < (vn : Int)) = true := by rw [decide_eq_true_eq]; omega
      rw [hd] at hz
      generalize view[m] = f at *
      obtain ⟨p, dd⟩ := f
      simp only at g0 hz
      unfold maxLen at hcm
      have Hr := Lib.hid hz
      rw [← Hvn.out] at hnc
      clear hz hq hat g1 hd hlt'
      go_upto_region 38 with fail
      go_wp2_with fail
      refine (rtext_any p Hm2.out Hd.out).mono ?_
      rintro e w3 ⟨rfl, F3, hs3, hm3⟩
      have Hs3 := Lib.hid (Hs2.out.trans hs3)
      have Hm3 := Lib.hid hm3
      clear hs3 hm3
      clear g0
      go_wp2_with fail
      refine (rtruth_any true Hm3.out (Hp.out _)).mono ?_
      rintro e w4 ⟨rfl, F4, hs4, hm4⟩
      have Hs4 := Lib.hid (Hs3.out.trans hs4)
      have Hm4 := Lib.hid hm4
      clear hs4 hm4
      go_wp2_with fail
      first | go_end0 | refine bodyPost_ret (results_none rfl _ _ _) rfl ?_
      exact ⟨rfl, _, Hs4.out, by rw [Hr.out]; exact Hm4.out⟩
    · have hno : view[m]? = none := List.getElem?_eq_none (by rw [← Hvn.out]; omega)
      rw [hno] at hz
      have hd : decide (0 ≤ (m : Int) ∧ (m : Int) < (vn : Int)) = false := by rw [decide_eq_false_iff_not]; omega
      rw [hd] at hz
      try simp only at hz
      have Hr := Lib.hid hz
      have hlt2 : (vn : Int) ≤ (m : Int) := by omega
      clear hz hd hno
      go_wp2_with fail
      refine (rtext_any [] Hm2.out Hd.out).mono ?_
      rintro e w3 ⟨rfl, F3, hs3, hm3⟩
      have Hs3 := Lib.hid (Hs2.out.trans hs3)
      have Hm3 := Lib.hid hm3
      clear hs3 hm3
      go_wp2_with fail
      refine (rtruth_any false Hm3.out (Hp.out _)).mono ?_
      rintro e w4 ⟨rfl, F4, hs4, hm4⟩
      have Hs4 := Lib.hid (Hs3.out.trans hs4)
      have Hm4 := Lib.hid hm4
      clear hs4 hm4
      go_wp2_with fail
      first | go_end0 | refine bodyPost_ret (results_none rfl _ _ _) rfl ?_
      exact ⟨rfl, _, Hs4.out, by rw [Hr.out]; exact Hm4.out⟩
  · rw [if_neg h0] at hz
    have hd : decide (0 ≤ a1 ∧ a1 < (vn : Int)) = false := by rw [decide_eq_false_iff_not]; omega
    rw [hd] at hz
    have Hr := Lib.hid hz
    clear hz hd
    go_wp2_with fail
    refine (rtext_any [] Hm2.out Hd.out).mono ?_
    rintro e w3 ⟨rfl, F3, hs3, hm3⟩
    have Hs3 := Lib.hid (Hs2.out.trans hs3)
    have Hm3 := Lib.hid hm3
    clear hs3 hm3
    go_wp2_with fail
    refine (rtruth_any false Hm3.out (Hp.out _)).mono ?_
    rintro e w4 ⟨rfl, F4, hs4, hm4⟩
    have Hs4 := Lib.hid (Hs3.out.trans hs4)
    have Hm4 := Lib.hid hm4
    clear hs4 hm4
    go_wp2_with fail
    first | go_end0 | refine bodyPost_ret (results_none rfl _ _ _) rfl ?_
    exact ⟨rfl, _, Hs4.out, by rw [Hr.out]; exact Hm4.out⟩
set_option maxHeartbeats 4000000 in
set_option maxRecDepth 20000 in
theorem rtexts29 (view : List FileL) {len : Int} {w : World} {lo sb : Nat} {s : RS} {F : Value × Value × Value} (hm : RefM w lo sb s F) (wf : WfR len s) (vq : Option Addr) (vc : Nat) (base : Nat) (hlb : Lb base w) (hbase : base ≤ lo) : Calls Tryz.prog 57 #[.pointer (some ⟨sb, 0, none⟩), .string (tx (wordL 29)), .agg #[.slice vq view.length vc]] w (ROut lo sb F (textsS view 29 s) w) := by
  have HLB := Lib.hid (fun w' (F' : RF) (h : RStep sb F F' w w') => hlb.rstep h (Nat.le_trans hbase hm.lo.1.1) (fun k hk => by have := (hm.low.1 k hk).1; have := hm.lo.1; omega))
  clear hlb hbase
  obtain ⟨r, hr⟩ : ∃ z, z = textsS view 29 s := ⟨_, rfl⟩
  rw [← hr]
  obtain ⟨vn, hvn⟩ : ∃ z, z = view.length := ⟨_, rfl⟩
  rw [← hvn]
  have hal_ := (Chg.refl NoB w).alloc (.cells #[.slice vq vn vc] 25)
  have hb_ := heap_alloc_new w (.cells #[.slice vq vn vc] 25)
  obtain ⟨vb, hxb_⟩ : ∃ b, b = w.heap.size := ⟨_, rfl⟩
  obtain ⟨w1, hw_⟩ : ∃ w_, w.alloc (.cells #[.slice vq vn vc] 25) = w_ := ⟨_, rfl⟩
  have hz_ : w1.heap.size = vb + 1 := by rw [← hw_, hxb_]; exact alloc_size _ _
  rw [hw_] at hal_ hb_
  rw [← hxb_] at hb_
  have Hw1 := Lib.hid hw_
  have Hx1 := Lib.hid hxb_
  have Ha1 := Lib.hid hal_
  have Hb1 := Lib.hid hb_
  have Hz1 := Lib.hid hz_
  clear hal_ hb_ hxb_ hw_ hz_
  have Hnv := Lib.hid (show ¬ (vb = sb ∨ Foot3 F vb) from fun e => by
    have h0 := Hx1.out
    rcases e with e | e
    · have := hm.lo; omega
    · have := (hm.low.1 vb e).2; omega)
  replace hm := hm.keep Ha1.out
  have Hs1 := Lib.hid (RStep.of_chg (sb := sb) (F := F) Ha1.out)
  have Hsb := Lib.hid (show sb < w1.heap.size from hm.lo.1.2)
  have v0 : w1.cell? ⟨vb, 0, none⟩ = some (.slice vq vn vc) := by have h := cell_of_row w1 vb 0 _ _ (0, 0) Hb1.out; rw [h]; rfl
  have HT := Lib.hid (rtake_any [116, 116] (by decide) (by decide) hm wf.depth)
  obtain ⟨⟨a0, a1, a2⟩, ⟨b0, b1, b2⟩, hl⟩ := takeL_two 116 116 s
  have hwa : a2.length ≤ 2048 := (takeL_wf wf [116, 116] (a0, a1, a2) (by rw [hl]; simp)).len
  have hwb : b2.length ≤ 2048 := (takeL_wf wf [116, 116] (b0, b1, b2) (by rw [hl]; simp)).len
  have hwt := take_wfr wf [116, 116]
  have hr : r = if (takeS [116, 116] s).fault = 0 then (match putF (takeS [116, 116] s).out (a2, b2) with | .error y => failS y (takeS [116, 116] s) | .ok o => { takeS [116, 116] s with out := o }) else takeS [116, 116] s := by
    rw [hr]
    show (let l := takeL [116, 116] s; let t := takeS [116, 116] s; if t.fault = 0 then (match putF t.out ((l.getD 0 (numV 0)).2.2, (l.getD 1 (numV 0)).2.2) with | .error y => failS y t | .ok o => { t with out := o }) else t) = _
    rw [hl]; rfl
  unfold TakeP at HT
  rw [hl] at HT
  generalize takeS [116, 116] s = t at *
  have Hr0 := Lib.hid hr
  have Hwt := Lib.hid hwt
  have Hwa := Lib.hid (And.intro hwa hwb)
  have hw : tx (wordL 29) = ⟨#[119, 114, 105, 116, 101]⟩ := rfl
  clear hm wf hl hwa hwb hwt hr hvn
  go_enter Tryz.func57, Tryz.ntmps57
  go_upto_region 1 with fail
  rw [Hw1.out, ← Hx1.out]
  go_wp2_with fail
  refine HT.out.mono ?_
  rintro e w2 ⟨q2, c2, rfl, hr2, F2, hs2, hm2, hn2⟩
  obtain ⟨h3, h4, g, rfl, hcl⟩ := vals_cells hr2 (by decide) rfl
  unfold maxLen at h4
  have Hgn := Lib.hid (show ¬ (g = sb ∨ Foot3 F2 g) from fun e => by
    rcases e with e | e
    · have h1 := (World.ownsRow.lt hr2 g rfl).1; have h2 := Hsb.out; omega
    · exact hn2 g rfl e)
  have Hgl := Lib.hid (show g < w2.heap.size from (World.ownsRow.lt hr2 g rfl).2)
  have Hs2 := Lib.hid (Hs1.out.trans hs2)
  have Hm2 := Lib.hid hm2
  replace v0 := hs2.chg.cell v0 Hnv.out
  clear hr2 hs2 hm2 hn2 HT
  clear v0
  have d2 := (hcl 0 (by show 0 < 2; decide)).2.2
  have d5 := (hcl 1 (by show 1 < 2; decide)).2.2
  change w2.cell? ⟨g, 2, none⟩ = some (.string (tx a2)) at d2
  change w2.cell? ⟨g, 5, none⟩ = some (.string (tx b2)) at d5
  have y7 : w2.cell? ⟨sb, 7, none⟩ = some (.int .i64 t.fault) := by obtain ⟨_, _, _, _, _, _, _, _, _, h⟩ := Hm2.out.cells; exact h
  clear hcl
  by_cases hf : t.fault = 0
  case neg =>
    have Hr := Lib.hid (show r = t by rw [Hr0.out, if_neg hf])
    have hf2 : (t.fault != 0) = true := by rw [bne_iff_ne]; exact hf
    clear hf Hr0
    obtain ⟨ft, hft⟩ : ∃ z, z = t.fault := ⟨_, rfl⟩
    rw [← hft] at hf2 y7
    clear hft
    go_wp2_with fail
    first | go_end0 | refine bodyPost_ret (results_none rfl _ _ _) rfl ?_
    exact ⟨rfl, _, Hs2.out, by rw [Hr.out]; exact Hm2.out⟩
  have Hz := Lib.hid (show r = match putF t.out (a2, b2) with | .error y => failS y t | .ok o => { t with out := o } by rw [Hr0.out, if_pos hf])
  rw [hf] at y7
  obtain ⟨oq, oc, ob, oo, hrow, hout⟩ := Hm2.out.row
  have y3 : w2.cell? ⟨sb, 3, none⟩ = some (.slice oq t.out.length oc) := by have h := cell_of_row w2 sb 3 _ _ (0, 0) hrow; rw [h]; rfl
  have hgo := good_sizes Hwt.out.out
  have Hs2' := Lib.hid (Hs2.out.trans (RStep.of_chg (Chg.refl NoB w2).drew))
  have hal := (Chg.refl NoB w2).alloc (.cells #[.slice none 0 0] 25)
  have HPf := Lib.hid (fun w' (hc : Chg NoB w2 w') => rput_any t.out (a2, b2) (by omega) (fun x hx => by have := hgo.2 x hx; omega) (by have := Hwa.out.1; show a2.length ≤ _; omega) (by have := Hwa.out.2; show b2.length ≤ _; omega) _ _ ob oo w' (HLB.out _ _ (Hs2.out.trans (RStep.of_chg hc))).mlx (hout.keep hc fun _ _ => id))
  have HPt := Lib.hid (HPf.out w2.drew (Chg.refl NoB w2).drew)
  have HPu := Lib.hid (HPf.out (w2.alloc (.cells #[.slice none 0 0] 25)).drew hal.drew)
  clear HPf
  obtain ⟨on, hon⟩ : ∃ z, z = t.out.length := ⟨_, rfl⟩
  rw [← hon] at y3 HPt HPu
  obtain ⟨u, hu⟩ : ∃ u, u = putF t.out (a2, b2) := ⟨_, rfl⟩
  have hup : ∀ y, u = .error y → y ≠ 0 := fun y hy => by
    rw [hu] at hy
    unfold putF at hy
    split at hy
    · exact make_err hy
    · cases hy; decide
  rw [← hu] at HPt HPu Hz
  have Hup := Lib.hid hup
  clear hf Hr0 hrow hout hgo hon hu hup
  go_upto_region 45 with fail
  have hA : w2.cell? ⟨sb, 3, none⟩ = some (.slice oq on oc) ∧ w2.cell? ⟨g, 2, none⟩ = some (.string (tx a2)) ∧ w2.cell? ⟨g, 5, none⟩ = some (.string (tx b2)) := ⟨y3, d2, d5⟩
  have hB : w2.drew.cell? ⟨sb, 3, none⟩ = some (.slice oq on oc) ∧ w2.drew.cell? ⟨g, 2, none⟩ = some (.string (tx a2)) ∧ w2.drew.cell? ⟨g, 5, none⟩ = some (.string (tx b2)) := ⟨y3, d2, d5⟩
  have hA2 : (w2.alloc (.cells #[.slice none 0 0] 25)).cell? ⟨sb, 3, none⟩ = some (.slice oq on oc) ∧ (w2.alloc (.cells #[.slice none 0 0] 25)).cell? ⟨g, 2, none⟩ = some (.string (tx a2)) ∧ (w2.alloc (.cells #[.slice none 0 0] 25)).cell? ⟨g, 5, none⟩ = some (.string (tx b2)) := ⟨hal.keep y3, hal.keep d2, hal.keep d5⟩
  have hB2 : (w2.alloc (.cells #[.slice none 0 0] 25)).drew.cell? ⟨sb, 3, none⟩ = some (.slice oq on oc) ∧ (w2.alloc (.cells #[.slice none 0 0] 25)).drew.cell? ⟨g, 2, none⟩ = some (.string (tx a2)) ∧ (w2.alloc (.cells #[.slice none 0 0] 25)).drew.cell? ⟨g, 5, none⟩ = some (.string (tx b2)) := hA2
  have Hne := Lib.hid (show ¬ sb = w2.heap.size ∧ ¬ g = w2.heap.size from ⟨by have := Hm2.out.lo; omega, by have := Hgl.out; omega⟩)
  have zA : (w2.alloc (.cells #[.slice none 0 0] 25)).cell? ⟨w2.heap.size, 0, none⟩ = some (.slice none 0 0) := by have h := cell_of_row (w2.alloc (.cells #[.slice none 0 0] 25)) w2.heap.size 0 _ _ (0, 0) (heap_alloc_new w2 _); rw [h]; rfl
  have zB : (w2.alloc (.cells #[.slice none 0 0] 25)).drew.cell? ⟨w2.heap.size, 0, none⟩ = some (.slice none 0 0) := zA
  have zfB : (w2.alloc (.cells #[.slice none 0 0] 25)).drew.frozen? ⟨w2.heap.size, 0, none⟩ = false := row_free (w := (w2.alloc (.cells #[.slice none 0 0] 25))) (heap_alloc_new w2 _) 0
  go_region_held3 (fun w' => w'.cell? ⟨sb, 3, none⟩ = some (.slice oq on oc) ∧ w'.cell? ⟨g, 2, none⟩ = some (.string (tx a2)) ∧ w'.cell? ⟨g, 5, none⟩ = some (.string (tx b2))) (first | with_reducible exact hA | with_reducible exact hB | with_reducible exact hA2 | with_reducible exact hB2 | with_reducible exact hC | with_reducible exact hD | with_reducible exact hE | with_reducible exact hF | with_reducible exact hG | with_reducible exact hA) (first | (go_at_call 73; refine HPt.out.mono ?_; intro e w4 hmk; obtain ⟨hc4, q4, n4, c4, kb4, ko4, hn4, rfl, hin⟩ := hmk.out; have hC : w4.cell? ⟨sb, 3, none⟩ = some (.slice oq on oc) ∧ w4.cell? ⟨g, 2, none⟩ = some (.string (tx a2)) ∧ w4.cell? ⟨g, 5, none⟩ = some (.string (tx b2)) := ⟨hc4.keep hB.1, hc4.keep hB.2.1, hc4.keep hB.2.2⟩; have hal4 := (Chg.refl NoB w4).alloc (.cells #[.slice q4 n4 c4] 25); have hD : (w4.alloc (.cells #[.slice q4 n4 c4] 25)).cell? ⟨sb, 3, none⟩ = some (.slice oq on oc) ∧ (w4.alloc (.cells #[.slice q4 n4 c4] 25)).cell? ⟨g, 2, none⟩ = some (.string (tx a2)) ∧ (w4.alloc (.cells #[.slice q4 n4 c4] 25)).cell? ⟨g, 5, none⟩ = some (.string (tx b2)) := ⟨hal4.keep hC.1, hal4.keep hC.2.1, hal4.keep hC.2.2⟩; have hal0 := (Chg.refl NoB w4).alloc (.cells #[.slice none 0 0] 25); have hE : (w4.alloc (.cells #[.slice none 0 0] 25)).cell? ⟨sb, 3, none⟩ = some (.slice oq on oc) ∧ (w4.alloc (.cells #[.slice none 0 0] 25)).cell? ⟨g, 2, none⟩ = some (.string (tx a2)) ∧ (w4.alloc (.cells #[.slice none 0 0] 25)).cell? ⟨g, 5, none⟩ = some (.string (tx b2)) := ⟨hal0.keep hC.1, hal0.keep hC.2.1, hal0.keep hC.2.2⟩; have Hc4 := Lib.hid hc4; have Hin := Lib.hid hin; have Hn4 := Lib.hid hn4; clear hmk hc4 hin hn4) | (go_at_call 73; refine HPu.out.mono ?_; intro e w6 hmk; obtain ⟨hc6, q4, n4, c4, kb4, ko4, hn4, rfl, hin⟩ := hmk.out; have hF : w6.cell? ⟨sb, 3, none⟩ = some (.slice oq on oc) ∧ w6.cell? ⟨g, 2, none⟩ = some (.string (tx a2)) ∧ w6.cell? ⟨g, 5, none⟩ = some (.string (tx b2)) := ⟨hc6.keep hB2.1, hc6.keep hB2.2.1, hc6.keep hB2.2.2⟩; have z0 := hc6.keep zB; have zf := hc6.frozen zB id zfB; have hst := (Chg.refl (fun k => k = w2.heap.size) w6).setCell (p := ⟨w2.heap.size, 0, none⟩) (.inl rfl) (.slice q4 n4 c4); have hG : (w6.setCell ⟨w2.heap.size, 0, none⟩ (.slice q4 n4 c4)).cell? ⟨sb, 3, none⟩ = some (.slice oq on oc) ∧ (w6.setCell ⟨w2.heap.size, 0, none⟩ (.slice q4 n4 c4)).cell? ⟨g, 2, none⟩ = some (.string (tx a2)) ∧ (w6.setCell ⟨w2.heap.size, 0, none⟩ (.slice q4 n4 c4)).cell? ⟨g, 5, none⟩ = some (.string (tx b2)) := ⟨hst.cell hF.1 Hne.out.1, hst.cell hF.2.1 Hne.out.2, hst.cell hF.2.2 Hne.out.2⟩; have Hc6 := Lib.hid hc6; have Hin := Lib.hid hin; have Hn4 := Lib.hid hn4; clear hmk hc6 hin hn4))
  · skip
    have hcx : Chg NoB w2 (w4.alloc (.cells #[.slice q4 n4 c4] 25)) := ((Chg.refl NoB w2).drew.trans Hc4.out).alloc _
    have t0 : (w4.alloc (.cells #[.slice q4 n4 c4] 25)).cell? ⟨w4.heap.size, 0, none⟩ = some (.slice q4 n4 c4) := by have h := cell_of_row (w4.alloc (.cells #[.slice q4 n4 c4] 25)) w4.heap.size 0 _ _ (0, 0) (heap_alloc_new w4 _); rw [h]; rfl
    have hin : InpS (w4.alloc (.cells #[.slice q4 n4 c4] 25)) (fun k => w2.heap.size ≤ k) (.slice q4 n4 c4) _ kb4 ko4 := (Hin.out.mono (T := fun k => w2.heap.size ≤ k) fun k hk => hk.1).keep ((Chg.refl NoB w4).alloc _) fun _ _ => id
    have y3x := hcx.keep y3
    clear hC hD hE hal4 hal0 Hin Hc4
    generalize (w4.alloc (.cells #[.slice q4 n4 c4] 25)) = wx at *
    clear hA hB hA2 hB2 zA zB zfB hal Hne y3 d2 d5 y7 HPt HPu HLB
    have Hin := Lib.hid hin
    have Hcx := Lib.hid hcx
    clear hin hcx
    cases u with
    | error y =>
      have hne := Hup.out y rfl
      have hy' : (outE (.error y) : Int) = y := rfl
      rw [hy']
      have hn2 : (y != 0) = true := by rw [bne_iff_ne]; exact hne
      have Hr := Lib.hid (show r = failS y t from Hz.out)
      have Hmx := Lib.hid (Hm2.out.keep Hcx.out)
      have Hsx := Lib.hid (Hs2.out.trans (RStep.of_chg Hcx.out))
      clear hne hy' Hup Hz y3x
      go_wp2_with fail
      refine (rfail_any y Hmx.out).mono ?_
      rintro e w9 ⟨rfl, F9, hs9, hm9⟩
      have Hs9 := Lib.hid (Hsx.out.trans hs9)
      have Hm9 := Lib.hid hm9
      clear hs9 hm9
      go_wp2_with fail
      first | go_end0 | refine bodyPost_ret (results_none rfl _ _ _) rfl ?_
      exact ⟨rfl, _, Hs9.out, by rw [Hr.out]; exact Hm9.out⟩
    | ok d =>
      have hy' : (outE (.ok d) : Int) = 0 := rfl
      rw [hy']
      have Hr := Lib.hid (show r = { t with out := d } from Hz.out)
      have HO := Lib.hid (Hm2.out.outS (o := d) Hcx.out Hn4.out Hin.out)
      have yf3 := (Hm2.out.keep Hcx.out).free 3
      clear hy' Hup Hz
      go_wp2_with fail
      first | go_end0 | refine bodyPost_ret (results_none rfl _ _ _) rfl ?_
      exact ⟨rfl, _, Hs2.out.trans HO.out.2, by rw [Hr.out]; exact HO.out.1⟩
  · skip
    have hs6 : Chg (fun k => k = w2.heap.size) w6 (w6.setCell ⟨w2.heap.size, 0, none⟩ (.slice q4 n4 c4)) := (Chg.refl (fun k => k = w2.heap.size) w6).setCell (p := ⟨w2.heap.size, 0, none⟩) (.inl rfl) _
    have hc26 : Chg NoB w2 w6 := hal.drew.trans Hc6.out
    have hcx : Chg NoB w2 (w6.setCell ⟨w2.heap.size, 0, none⟩ (.slice q4 n4 c4)) := hc26.transR hs6 (fun k hk e => by have e2 : k = w2.heap.size := e; omega)
    have hrow6 := row_kept Hc6.out (show (w2.alloc (.cells #[.slice none 0 0] 25)).drew.heap[w2.heap.size]? = _ from heap_alloc_new w2 _) id
    have t0 : (w6.setCell ⟨w2.heap.size, 0, none⟩ (.slice q4 n4 c4)).cell? ⟨w2.heap.size, 0, none⟩ = some (.slice q4 n4 c4) := by have h := cell_of_row (w6.setCell ⟨w2.heap.size, 0, none⟩ (.slice q4 n4 c4)) w2.heap.size 0 _ _ (0, 0) (heap_set hrow6 (i := 0) _); rw [h]; rfl
    have hsz : (w2.alloc (.cells #[.slice none 0 0] 25)).drew.heap.size = w2.heap.size + 1 := Array.size_push _
    have hin : InpS (w6.setCell ⟨w2.heap.size, 0, none⟩ (.slice q4 n4 c4)) (fun k => w2.heap.size ≤ k) (.slice q4 n4 c4) _ kb4 ko4 := Hin.out.move hs6 fun k hk hs => ⟨fun e => by have h1 := hs.1; have e2 : k = w2.heap.size := e; omega, by have h1 := hs.1; show w2.heap.size ≤ k; omega⟩
    have y3x := hcx.keep y3
    clear hsz hF hG hst z0 zf hrow6 hc26 hs6 Hin Hc6
    generalize (w6.setCell ⟨w2.heap.size, 0, none⟩ (.slice q4 n4 c4)) = wx at *
    obtain ⟨tb, htb⟩ : ∃ z, z = w2.heap.size := ⟨_, rfl⟩
    rw [← htb] at t0 ⊢
    clear htb
    clear hA hB hA2 hB2 zA zB zfB hal Hne y3 d2 d5 y7 HPt HPu HLB
    have Hin := Lib.hid hin
    have Hcx := Lib.hid hcx
    clear hin hcx
    cases u with
    | error y =>
      have hne := Hup.out y rfl
      have hy' : (outE (.error y) : Int) = y := rfl
      rw [hy']
      have hn2 : (y != 0) = true := by rw [bne_iff_ne]; exact hne
      have Hr := Lib.hid (show r = failS y t from Hz.out)
      have Hmx := Lib.hid (Hm2.out.keep Hcx.out)
      have Hsx := Lib.hid (Hs2.out.trans (RStep.of_chg Hcx.out))
      clear hne hy' Hup Hz y3x
      go_wp2_with fail
      refine (rfail_any y Hmx.out).mono ?_
      rintro e w9 ⟨rfl, F9, hs9, hm9⟩
      have Hs9 := Lib.hid (Hsx.out.trans hs9)
      have Hm9 := Lib.hid hm9
      clear hs9 hm9
      go_wp2_with fail
      first | go_end0 | refine bodyPost_ret (results_none rfl _ _ _) rfl ?_
      exact ⟨rfl, _, Hs9.out, by rw [Hr.out]; exact Hm9.out⟩
    | ok d =>
      have hy' : (outE (.ok d) : Int) = 0 := rfl
      rw [hy']
      have Hr := Lib.hid (show r = { t with out := d } from Hz.out)
      have HO := Lib.hid (Hm2.out.outS (o := d) Hcx.out Hn4.out Hin.out)
      have yf3 := (Hm2.out.keep Hcx.out).free 3
      clear hy' Hup Hz
      go_wp2_with fail
      first | go_end0 | refine bodyPost_ret (results_none rfl _ _ _) rfl ?_
      exact ⟨rfl, _, Hs2.out.trans HO.out.2, by rw [Hr.out]; exact HO.out.1⟩
end Go.Proofs.YthehpmffkkogpaaGreatDoor
namespace Go.Proofs.YthehpmffkkogpaaGreatDoor
set_option linter.unusedVariables false
open Go.ChangeShapes Go.WideShapes Go.ChangeAt Go.RowKit
def ticS (s : RS) : RS := { s with at' := s.at' + 1, steps := s.steps + 1 }
def doS (view : List FileL) (x : InsL) (s : RS) : RS :=
  if x.op = 2 then putS (numV x.n) s
  else if x.op = 3 then putS (txtV x.s) s
  else if x.op = 4 then takeS [97] s
  else if x.op = 5 then (let v := (takeL [97] s).getD 0 (numV 0); putS v (putS v (takeS [97] s)))
  else if x.op = 6 then putS ((takeL [97, 97] s).getD 0 (numV 0)) (putS ((takeL [97, 97] s).getD 1 (numV 0)) (takeS [97, 97] s))
  else if x.op = 7 then putS (s.loc.getD x.n.toNat (numV 0)) s
  else if x.op = 8 then (let v := (takeL [97] s).getD 0 (numV 0); let t := takeS [97] s; if t.fault = 0 then { t with loc := t.loc.set x.n.toNat v } else t)
  else if x.op = 14 then
    let a := (takeL [97, 97] s).getD 0 (numV 0)
    let b := (takeL [97, 97] s).getD 1 (numV 0)
    let t := takeS [97, 97] s
    let t := if t.fault = 0 ∧ a.1 ≠ b.1 then failS 41 t else t
    if a.1 = true then putS (boolV (bl a.2.2 b.2.2)) t else putS (boolV (decide (a.2.1 < b.2.1))) t
  else if x.op = 15 then putS (boolV (decide ((takeL [97, 97] s).getD 0 (numV 0) = (takeL [97, 97] s).getD 1 (numV 0)))) (takeS [97, 97] s)
  else if x.op = 16 then putS (boolV (((takeL [110] s).getD 0 (numV 0)).2.1 == 0)) (takeS [110] s)
  else if 9 ≤ x.op ∧ x.op ≤ 13 then reckS x.op s
  else if x.op = 1 ∨ (17 ≤ x.op ∧ x.op ≤ 20) ∨ x.op = 30 then goesS x.op x.n s
  else textsS view x.op s
def stepS (ps : List InsL) (view : List FileL) (s : RS) : RS := match ps[s.at'.toNat]? with
  | some x => doS view x (ticS s)
  | none => s
theorem bl_nil : bl [] [] = false := by rfl
/- the document's machine with what the program's has -/
def emb (m : MSt) (k : Nat) (f : Int) : RS := ⟨m.stack, m.loc, m.calls, m.out, m.next, k, m.done, f⟩
def Sim (k : Nat) (r : VR Unit) (s : RS) : Prop := match r with
  | .ok (_, m) => s = emb m k 0
  | .error (y, _) => s.fault = y ∧ s.steps = k ∧ y ≠ 0
theorem putS_bad {s : RS} (h : s.fault ≠ 0) (v : ValL) : putS v s = s := if_neg h
theorem failS_bad {s : RS} (h : s.fault ≠ 0) (y : Int) : failS y s = s := if_neg h
theorem failS_good {s : RS} (h : s.fault = 0) (y : Int) : failS y s = { s with fault := y } := if_pos h
theorem push_sim {m : MSt} (k : Nat) (v : ValL) (h : m.stack.length ≤ 64) : Sim k (pushR v m) (putS v (emb m k 0)) := by
  unfold pushR putS
  by_cases hc : 64 ≤ m.stack.length
  · have h2 : (emb m k 0).stack.length = 64 := Nat.le_antisymm h hc
    rw [if_pos hc, if_pos (show (emb m k 0).fault = 0 from rfl), if_pos h2, failS_good rfl]
    exact ⟨rfl, rfl, by decide⟩
  · have h2 : ¬ (emb m k 0).stack.length = 64 := fun e => hc (Nat.le_of_eq e.symm)
    rw [if_neg hc, if_pos (show (emb m k 0).fault = 0 from rfl), if_neg h2]
    rfl
theorem Sim.put {k : Nat} {r : VR Unit} {s : RS} (h : Sim k r s) (v : ValL) (hd : ∀ m, r = .ok ((), m) → m.stack.length ≤ 64) : Sim k (r.then fun _ m => pushR v m) (putS v s) := by
  match r, h, hd with
  | .ok ((), m), h, hd =>
    have e : s = emb m k 0 := h
    rw [e]; exact push_sim k v (hd m rfl)
  | .error (y, m), h, hd =>
    obtain ⟨h1, h2, h3⟩ := h
    rw [putS_bad (by rw [h1]; exact h3)]
    exact ⟨h1, h2, h3⟩
theorem Sim.bad {k : Nat} {y : Int} {m : MSt} {s : RS} (h1 : s.fault = y) (h2 : s.steps = k) (h3 : y ≠ 0) : Sim k (.error (y, m)) s := ⟨h1, h2, h3⟩
theorem Sim.bad2 {k : Nat} {y : Int} {m : MSt} {s : RS} (h : Sim k (.error (y, m)) s) : s.fault ≠ 0 := by
  obtain ⟨h1, -, h3⟩ := h
  rw [h1]; exact h3
/- what take takes -/
theorem take_sim (ks : List UInt8) (m : MSt) (k : Nat) :
    (m.stack.length < ks.length ∧ takeS ks (emb m k 0) = emb m k 40) ∨
    (∃ l t, m.stack = l ++ t ∧ t.length = ks.length ∧ takeL ks (emb m k 0) = t ∧ takeS ks (emb m k 0) = emb { m with stack := l } k (if anyBad ks t = true then 41 else 0)) := by
  by_cases h : m.stack.length < ks.length
  · refine .inl ⟨h, ?_⟩
    unfold takeS
    rw [if_pos (show (emb m k 0).stack.length < ks.length from h), failS_good rfl]
    rfl
  · refine .inr ⟨m.stack.take (m.stack.length - ks.length), m.stack.drop (m.stack.length - ks.length), (List.take_append_drop _ _).symm, by rw [List.length_drop]; omega, ?_, ?_⟩
    · unfold takeL
      rw [if_neg (show ¬ (emb m k 0).stack.length < ks.length from h)]
      rfl
    · unfold takeS
      rw [if_neg (show ¬ (emb m k 0).stack.length < ks.length from h)]
      show ({ (if anyBad ks (m.stack.drop (m.stack.length - ks.length)) = true then failS 41 (emb m k 0) else emb m k 0) with stack := m.stack.take (m.stack.length - ks.length) } : RS) = _
      split
      · rw [failS_good rfl]; rfl
      · rfl
theorem need_bad {n : Nat} {m : MSt} (h : m.stack.length < n) : needR n m = .error (40, m) := if_pos h
theorem need_good {n : Nat} {m : MSt} (h : ¬ m.stack.length < n) : needR n m = .ok ((), m) := if_neg h
theorem pop_snoc {m : MSt} {l : List ValL} {a : ValL} (h : m.stack = l ++ [a]) : popR m = .ok (a, { m with stack := l }) := by
  unfold popR lastV offS; rw [h]; simp
theorem num_snoc {m : MSt} {l : List ValL} {a : ValL} (h : m.stack = l ++ [a]) : numR m = if a.1 = true then .error (41, { m with stack := l }) else .ok (a.2.1, { m with stack := l }) := by
  unfold numR lastV offS; rw [h]; simp
theorem txt_snoc {m : MSt} {l : List ValL} {a : ValL} (h : m.stack = l ++ [a]) : txtR m = if a.1 = true then .ok (a.2.2, { m with stack := l }) else .error (41, { m with stack := l }) := by
  unfold txtR lastV offS; rw [h]; simp
theorem bad_n (a : ValL) : badK 110 a = a.1 := by unfold badK; simp
theorem bad_t (a : ValL) : badK 116 a = !a.1 := by unfold badK; simp
theorem bad_a (a : ValL) : badK 97 a = false := by unfold badK; simp
theorem take1 (c : UInt8) (m : MSt) (k : Nat) : (needR 1 m = .error (40, m) ∧ takeS [c] (emb m k 0) = emb m k 40) ∨
    (∃ l a, m.stack = l ++ [a] ∧ needR 1 m = .ok ((), m) ∧ takeL [c] (emb m k 0) = [a] ∧ takeS [c] (emb m k 0) = emb { m with stack := l } k (if badK c a = true then 41 else 0)) := by
  rcases take_sim [c] m k with ⟨h1, h2⟩ | ⟨l, t, h1, h2, h3, h4⟩
  · exact .inl ⟨need_bad h1, h2⟩
  · match t, h2 with
    | [a], _ =>
      refine .inr ⟨l, a, h1, need_good (by rw [h1]; simp), h3, ?_⟩
      rw [h4]; simp [anyBad]
theorem take2 (c d : UInt8) (m : MSt) (k : Nat) : (needR 2 m = .error (40, m) ∧ takeS [c, d] (emb m k 0) = emb m k 40) ∨
    (∃ l a b, m.stack = (l ++ [a]) ++ [b] ∧ needR 2 m = .ok ((), m) ∧ takeL [c, d] (emb m k 0) = [a, b] ∧ takeS [c, d] (emb m k 0) = emb { m with stack := l } k (if badK c a = true ∨ badK d b = true then 41 else 0)) := by
  rcases take_sim [c, d] m k with ⟨h1, h2⟩ | ⟨l, t, h1, h2, h3, h4⟩
  · exact .inl ⟨need_bad h1, h2⟩
  · match t, h2 with
    | [a, b], _ =>
      refine .inr ⟨l, a, b, by rw [h1]; simp, need_good (by rw [h1]; simp), h3, ?_⟩
      rw [h4]; simp [anyBad]
theorem take3 (c d e : UInt8) (m : MSt) (k : Nat) : (needR 3 m = .error (40, m) ∧ takeS [c, d, e] (emb m k 0) = emb m k 40) ∨
    (∃ l a b f, m.stack = ((l ++ [a]) ++ [b]) ++ [f] ∧ needR 3 m = .ok ((), m) ∧ takeL [c, d, e] (emb m k 0) = [a, b, f] ∧ takeS [c, d, e] (emb m k 0) = emb { m with stack := l } k (if badK c a = true ∨ badK d b = true ∨ badK e f = true then 41 else 0)) := by
  rcases take_sim [c, d, e] m k with ⟨h1, h2⟩ | ⟨l, t, h1, h2, h3, h4⟩
  · exact .inl ⟨need_bad h1, h2⟩
  · match t, h2 with
    | [a, b, f], _ =>
      refine .inr ⟨l, a, b, f, by rw [h1]; simp, need_good (by rw [h1]; simp), h3, ?_⟩
      rw [h4]; simp [anyBad]
theorem putS_40 (m : MSt) (k : Nat) (v : ValL) : putS v (emb m k 40) = emb m k 40 := putS_bad (by show (40 : Int) ≠ 0; decide) v
theorem putS_41 (m : MSt) (k : Nat) (v : ValL) : putS v (emb m k 41) = emb m k 41 := putS_bad (by show (41 : Int) ≠ 0; decide) v
theorem failS_40 (m : MSt) (k : Nat) (y : Int) : failS y (emb m k 40) = emb m k 40 := failS_bad (by show (40 : Int) ≠ 0; decide) y
theorem failS_41 (m : MSt) (k : Nat) (y : Int) : failS y (emb m k 41) = emb m k 41 := failS_bad (by show (41 : Int) ≠ 0; decide) y
theorem sim_40 (m m' : MSt) (k : Nat) : Sim k (.error (40, m)) (emb m' k 40) := ⟨rfl, rfl, by decide⟩
theorem sim_41 (m m' : MSt) (k : Nat) : Sim k (.error (41, m)) (emb m' k 41) := ⟨rfl, rfl, by decide⟩
theorem sim_fail (m m' : MSt) (k : Nat) {y : Int} (h : y ≠ 0) : Sim k (.error (y, m)) (failS y (emb m' k 0)) := by rw [failS_good rfl]; exact ⟨rfl, rfl, h⟩
theorem shift_sim (len : Int) {m : MSt} (wf : WfS len m) (k : Nat) (op : Int) (x : InsL) (hop : op = 4 ∨ op = 5 ∨ op = 6) (hx : x.op = op) (view : List FileL) : Sim k (shiftR op m) (doS view x (emb m k 0)) := by
  have hd := wf.depth
  rcases hop with rfl | rfl | rfl
  · have e : doS view x (emb m k 0) = takeS [97] (emb m k 0) := by unfold doS; rw [hx]; rfl
    rw [e]
    show Sim k ((needR 1 m).then fun _ s => (popR s).then fun a s => .ok ((), s)) _
    rcases take1 97 m k with ⟨h1, h2⟩ | ⟨l, a, h1, h2, h3, h4⟩
    · rw [h1, h2]; exact sim_40 _ _ _
    · rw [h2, h4, bad_a, VR.then_ok, pop_snoc h1]; rfl
  · have e : doS view x (emb m k 0) = (let v := (takeL [97] (emb m k 0)).getD 0 (numV 0); putS v (putS v (takeS [97] (emb m k 0)))) := by unfold doS; rw [hx]; rfl
    rw [e]
    show Sim k ((needR 1 m).then fun _ s => (popR s).then fun a s => (pushR a s).then fun _ s => pushR a s) _
    rcases take1 97 m k with ⟨h1, h2⟩ | ⟨l, a, h1, h2, h3, h4⟩
    · rw [h1, h2]; simp only [putS_40]; exact sim_40 _ _ _
    · have hl : l.length + 1 ≤ 64 := by rw [h1] at hd; simpa using hd
      rw [h2, h3, h4, bad_a, VR.then_ok, pop_snoc h1, VR.then_ok]
      refine (push_sim (m := { m with stack := l }) k a (by show l.length ≤ 64; omega)).put a fun m' h => ?_
      unfold pushR at h
      split at h
      · cases h
      · cases h; show (l ++ [a]).length ≤ 64; simpa using hl
  · have e : doS view x (emb m k 0) = putS ((takeL [97, 97] (emb m k 0)).getD 0 (numV 0)) (putS ((takeL [97, 97] (emb m k 0)).getD 1 (numV 0)) (takeS [97, 97] (emb m k 0))) := by unfold doS; rw [hx]; rfl
    rw [e]
    show Sim k ((needR 2 m).then fun _ s => (popR s).then fun b s => (popR s).then fun a s => (pushR b s).then fun _ s => pushR a s) _
    rcases take2 97 97 m k with ⟨h1, h2⟩ | ⟨l, a, b, h1, h2, h3, h4⟩
    · rw [h1, h2]; simp only [putS_40]; exact sim_40 _ _ _
    · have hl : l.length + 2 ≤ 64 := by rw [h1] at hd; simpa using hd
      rw [h2, h3, h4, bad_a, bad_a, VR.then_ok, pop_snoc h1, VR.then_ok, pop_snoc rfl, VR.then_ok]
      simp only [Bool.false_eq_true, or_self, if_false]
      refine (push_sim (m := { m with stack := l }) k b (by show l.length ≤ 64; omega)).put a fun m' h => ?_
      unfold pushR at h
      split at h
      · cases h
      · cases h; show (l ++ [b]).length ≤ 64; simp; omega
theorem reck_sim (len : Int) {m : MSt} (wf : WfS len m) (k : Nat) (op : Int) : Sim k (reckR op m) (reckS op (emb m k 0)) := by
  have hd := wf.depth
  unfold reckR reckS
  rcases take2 110 110 m k with ⟨h1, h2⟩ | ⟨l, a, b, h1, h2, h3, h4⟩
  · rw [h1, h2]; exact sim_40 _ _ _
  · have hl : l.length + 2 ≤ 64 := by rw [h1] at hd; simpa using hd
    rw [h2, h3, h4, bad_n, bad_n, VR.then_ok, num_snoc h1]
    obtain ⟨a1, a2, a3⟩ := a
    obtain ⟨b1, b2, b3⟩ := b
    cases b1 with
    | true => simp; exact sim_41 _ _ _
    | false =>
      rw [if_neg (by simp), VR.then_ok, num_snoc rfl]
      cases a1 with
      | true => simp; exact sim_41 _ _ _
      | false =>
        rw [if_neg (by simp), VR.then_ok]
        simp only [Bool.false_eq_true, or_self, if_false]
        show Sim k _ (match reckF op a2 b2 with | none => _ | some n => _)
        cases reckF op a2 b2 with
        | none => exact sim_fail _ _ _ (by decide)
        | some n => exact push_sim (m := { m with stack := l }) k _ (by show l.length ≤ 64; omega)
theorem ask_sim (len : Int) {m : MSt} (wf : WfS len m) (k : Nat) (op : Int) (x : InsL) (hop : op = 14 ∨ op = 15 ∨ op = 16) (hx : x.op = op) (view : List FileL) : Sim k (askR op m) (doS view x (emb m k 0)) := by
  have hd := wf.depth
  rcases hop with rfl | rfl | rfl
  · have e : doS view x (emb m k 0) = (let a := (takeL [97, 97] (emb m k 0)).getD 0 (numV 0); let b := (takeL [97, 97] (emb m k 0)).getD 1 (numV 0); let t := takeS [97, 97] (emb m k 0); let t := if t.fault = 0 ∧ a.1 ≠ b.1 then failS 41 t else t; if a.1 = true then putS (boolV (bl a.2.2 b.2.2)) t else putS (boolV (decide (a.2.1 < b.2.1))) t) := by unfold doS; rw [hx]; rfl
    rw [e]
    show Sim k ((needR 2 m).then fun _ s => (popR s).then fun b s => (popR s).then fun a s => if a.1 = b.1 then pushR (boolV (decide (a.2.1 < b.2.1) || bl a.2.2 b.2.2)) s else .error (41, s)) _
    rcases take2 97 97 m k with ⟨h1, h2⟩ | ⟨l, a, b, h1, h2, h3, h4⟩
    · rw [h1, h2]
      have h0 : (emb m k 40).fault ≠ 0 := by show (40 : Int) ≠ 0; decide
      simp only [h0, false_and, if_false, putS_40, ite_self]
      exact sim_40 _ _ _
    · have hl : l.length + 2 ≤ 64 := by rw [h1] at hd; simpa using hd
      have hwa : WfV a := wf.stack a (by rw [h1]; simp)
      have hwb : WfV b := wf.stack b (by rw [h1]; simp)
      rw [h2, h3, h4, bad_a, bad_a, VR.then_ok, pop_snoc h1, VR.then_ok, pop_snoc rfl, VR.then_ok]
      simp only [Bool.false_eq_true, or_self, if_false]
      obtain ⟨a1, a2, a3⟩ := a
      obtain ⟨b1, b2, b3⟩ := b
      by_cases hab : a1 = b1
      · subst hab
        rw [if_pos rfl]
        have h0 : ¬ ((emb { m with stack := l } k 0).fault = 0 ∧ (([(a1, a2, a3), (a1, b2, b3)] : List ValL).getD 0 (numV 0)).1 ≠ (([(a1, a2, a3), (a1, b2, b3)] : List ValL).getD 1 (numV 0)).1) := fun h => h.2 rfl
        rw [if_neg h0]
        cases a1 with
        | true =>
          have e1 : a2 = 0 := hwa.txt rfl
          have e2 : b2 = 0 := hwb.txt rfl
          subst e1 e2
          exact push_sim (m := { m with stack := l }) k _ (by show l.length ≤ 64; omega)
        | false =>
          have e1 : a3 = [] := hwa.num rfl
          have e2 : b3 = [] := hwb.num rfl
          subst e1 e2
          show Sim k (pushR (boolV (decide (a2 < b2) || bl [] [])) _) _
          rw [bl_nil, Bool.or_false]
          exact push_sim (m := { m with stack := l }) k _ (by show l.length ≤ 64; omega)
      · rw [if_neg hab]
        have h0 : ((emb { m with stack := l } k 0).fault = 0 ∧ (([(a1, a2, a3), (b1, b2, b3)] : List ValL).getD 0 (numV 0)).1 ≠ (([(a1, a2, a3), (b1, b2, b3)] : List ValL).getD 1 (numV 0)).1) := ⟨rfl, hab⟩
        rw [if_pos h0, failS_good rfl]
        have h41 : ({ emb { m with stack := l } k 0 with fault := 41 } : RS) = emb { m with stack := l } k 41 := rfl
        rw [h41]
        simp only [putS_41, ite_self]
        exact sim_41 _ _ _
  · have e : doS view x (emb m k 0) = putS (boolV (decide ((takeL [97, 97] (emb m k 0)).getD 0 (numV 0) = (takeL [97, 97] (emb m k 0)).getD 1 (numV 0)))) (takeS [97, 97] (emb m k 0)) := by unfold doS; rw [hx]; rfl
    rw [e]
    show Sim k ((needR 2 m).then fun _ s => (popR s).then fun b s => (popR s).then fun a s => pushR (boolV (decide (a = b))) s) _
    rcases take2 97 97 m k with ⟨h1, h2⟩ | ⟨l, a, b, h1, h2, h3, h4⟩
    · rw [h1, h2, putS_40]; exact sim_40 _ _ _
    · have hl : l.length + 2 ≤ 64 := by rw [h1] at hd; simpa using hd
      rw [h2, h3, h4, bad_a, bad_a, VR.then_ok, pop_snoc h1, VR.then_ok, pop_snoc rfl, VR.then_ok]
      simp only [Bool.false_eq_true, or_self, if_false]
      exact push_sim (m := { m with stack := l }) k _ (by show l.length ≤ 64; omega)
  · have e : doS view x (emb m k 0) = putS (boolV (((takeL [110] (emb m k 0)).getD 0 (numV 0)).2.1 == 0)) (takeS [110] (emb m k 0)) := by unfold doS; rw [hx]; rfl
    rw [e]
    show Sim k ((needR 1 m).then fun _ s => (numR s).then fun n s => pushR (boolV (n == 0)) s) _
    rcases take1 110 m k with ⟨h1, h2⟩ | ⟨l, a, h1, h2, h3, h4⟩
    · rw [h1, h2, putS_40]; exact sim_40 _ _ _
    · have hl : l.length + 1 ≤ 64 := by rw [h1] at hd; simpa using hd
      rw [h2, h3, h4, bad_n, VR.then_ok, num_snoc h1]
      obtain ⟨a1, a2, a3⟩ := a
      cases a1 with
      | true => simp [putS_41]; exact sim_41 _ _ _
      | false =>
        rw [if_neg (by simp), VR.then_ok, if_neg (by simp)]
        exact push_sim (m := { m with stack := l }) k _ (by show l.length ≤ 64; omega)
theorem turn_sim (len : Int) {m : MSt} (wf : WfS len m) (k : Nat) (op n : Int) (hop : op = 17 ∨ op = 18 ∨ op = 19 ∨ op = 20) : Sim k (turnR op n m) (goesS op n (emb m k 0)) := by
  have hd := wf.depth
  rcases hop with rfl | rfl | rfl | rfl
  · rfl
  · show Sim k ((needR 1 m).then fun _ s => (numR s).then fun j s => if j = 0 then .ok ((), { s with next := n }) else .ok ((), s)) (if (takeS [110] (emb m k 0)).fault = 0 ∧ ((takeL [110] (emb m k 0)).getD 0 (numV 0)).2.1 = 0 then { takeS [110] (emb m k 0) with at' := n } else takeS [110] (emb m k 0))
    rcases take1 110 m k with ⟨h1, h2⟩ | ⟨l, a, h1, h2, h3, h4⟩
    · rw [h1, h2, if_neg (by rintro ⟨h, -⟩; exact absurd h (by show ¬ (40 : Int) = 0; decide))]; exact sim_40 _ _ _
    · rw [h2, h3, h4, bad_n, VR.then_ok, num_snoc h1]
      obtain ⟨a1, a2, a3⟩ := a
      cases a1 with
      | true =>
        rw [if_pos rfl, if_pos rfl, if_neg (by rintro ⟨h, -⟩; exact absurd h (by show ¬ (41 : Int) = 0; decide))]; exact sim_41 _ _ _
      | false =>
        simp only [Bool.false_eq_true, if_false]
        rw [VR.then_ok]
        by_cases h0 : a2 = 0
        · subst h0; rfl
        · show Sim k (if a2 = 0 then _ else _) (if (0 : Int) = 0 ∧ a2 = 0 then _ else _)
          rw [if_neg h0, if_neg fun h => h0 h.2]; rfl
  · show Sim k (if 16 ≤ m.calls.length then .error (40, m) else .ok ((), { m with calls := m.calls ++ [m.next], next := n })) (if m.calls.length = 16 then failS 40 (emb m k 0) else { emb m k 0 with calls := m.calls ++ [m.next], at' := n })
    have hm := wf.many
    by_cases h : 16 ≤ m.calls.length
    · rw [if_pos h, if_pos (by omega)]; exact sim_fail _ _ _ (by decide)
    · rw [if_neg h, if_neg (by omega)]; rfl
  · show Sim k (if m.calls.length = 0 then .error (40, m) else .ok ((), { m with calls := m.calls.dropLast, next := m.calls.getLastD 0 })) (if m.calls.length = 0 then failS 40 (emb m k 0) else { emb m k 0 with at' := m.calls.getLastD 0, calls := m.calls.dropLast })
    by_cases h : m.calls.length = 0
    · rw [if_pos h, if_pos h]; exact sim_fail _ _ _ (by decide)
    · rw [if_neg h, if_neg h]; rfl
theorem spell_sim (len : Int) {m : MSt} (wf : WfS len m) (k : Nat) (op : Int) (hop : op = 21 ∨ op = 22 ∨ op = 23 ∨ op = 24 ∨ op = 25) (view : List FileL) : Sim k (spellR op m) (textsS view op (emb m k 0)) := by
  have hd := wf.depth
  rcases hop with rfl | rfl | rfl | rfl | rfl
  · show Sim k ((needR 2 m).then fun _ s => (txtR s).then fun t s => (txtR s).then fun u s => if 2048 < u.length + t.length then .error (43, s) else pushR (txtV (u ++ t)) s)
      (let l := takeL [116, 116] (emb m k 0); let t := takeS [116, 116] (emb m k 0); let a := (l.getD 0 (numV 0)).2.2; let b := (l.getD 1 (numV 0)).2.2; putS (txtV (a ++ b)) (if 2048 < a.length + b.length then failS 43 t else t))
    rcases take2 116 116 m k with ⟨h1, h2⟩ | ⟨l, a, b, h1, h2, h3, h4⟩
    · rw [h1, h2]; simp only [failS_40, ite_self, putS_40]; exact sim_40 _ _ _
    · have hl : l.length + 2 ≤ 64 := by rw [h1] at hd; simpa using hd
      rw [h2, h3, h4, bad_t, bad_t, VR.then_ok, txt_snoc h1]
      obtain ⟨a1, a2, a3⟩ := a
      obtain ⟨b1, b2, b3⟩ := b
      cases b1 with
      | false => simp [failS_41, putS_41]; exact sim_41 _ _ _
      | true =>
        rw [if_pos rfl, VR.then_ok, txt_snoc rfl]
        cases a1 with
        | false => simp [failS_41, putS_41]; exact sim_41 _ _ _
        | true =>
          rw [if_pos rfl, VR.then_ok]
          simp only [Bool.not_true, Bool.false_eq_true, or_self, if_false]
          show Sim k (if 2048 < a3.length + b3.length then _ else _) (putS (txtV (a3 ++ b3)) (if 2048 < a3.length + b3.length then _ else _))
          by_cases h : 2048 < a3.length + b3.length
          · rw [if_pos h, if_pos h, failS_good rfl, putS_bad (by show (43 : Int) ≠ 0; decide)]; exact ⟨rfl, rfl, by decide⟩
          · rw [if_neg h, if_neg h]; exact push_sim (m := { m with stack := l }) k _ (by show l.length ≤ 64; omega)
  · show Sim k ((needR 1 m).then fun _ s => (txtR s).then fun t s => pushR (numV t.length) s) (putS (numV (((takeL [116] (emb m k 0)).getD 0 (numV 0)).2.2.length : Nat)) (takeS [116] (emb m k 0)))
    rcases take1 116 m k with ⟨h1, h2⟩ | ⟨l, a, h1, h2, h3, h4⟩
    · rw [h1, h2, putS_40]; exact sim_40 _ _ _
    · have hl : l.length + 1 ≤ 64 := by rw [h1] at hd; simpa using hd
      rw [h2, h3, h4, bad_t, VR.then_ok, txt_snoc h1]
      obtain ⟨a1, a2, a3⟩ := a
      cases a1 with
      | false => simp [putS_41]; exact sim_41 _ _ _
      | true =>
        rw [if_pos rfl, VR.then_ok, if_neg (by simp)]
        exact push_sim (m := { m with stack := l }) k _ (by show l.length ≤ 64; omega)
  · show Sim k ((needR 3 m).then fun _ s => (numR s).then fun b s => (numR s).then fun a s => (txtR s).then fun t s => if a < 0 ∨ b < a ∨ (t.length : Int) < b then .error (43, s) else pushR (txtV (cutT t a b)) s)
      (let l := takeL [116, 110, 110] (emb m k 0); let t := takeS [116, 110, 110] (emb m k 0); let x := (l.getD 0 (numV 0)).2.2; let a := (l.getD 1 (numV 0)).2.1; let b := (l.getD 2 (numV 0)).2.1; if t.fault = 0 then (if a < 0 ∨ b < a ∨ (x.length : Int) < b then failS 43 t else putS (txtV (cutT x a b)) t) else t)
    rcases take3 116 110 110 m k with ⟨h1, h2⟩ | ⟨l, a, b, f, h1, h2, h3, h4⟩
    · rw [h1, h2]; exact sim_40 _ _ _
    · have hl : l.length + 3 ≤ 64 := by rw [h1] at hd; simpa using hd
      rw [h2, h3, h4, bad_t, bad_n, bad_n, VR.then_ok, num_snoc h1]
      obtain ⟨a1, a2, a3⟩ := a
      obtain ⟨b1, b2, b3⟩ := b
      obtain ⟨f1, f2, f3⟩ := f
      cases f1 with
      | true => simp; exact sim_41 _ _ _
      | false =>
        rw [if_neg (by simp), VR.then_ok, num_snoc rfl]
        cases b1 with
        | true => simp; exact sim_41 _ _ _
        | false =>
          rw [if_neg (by simp), VR.then_ok, txt_snoc rfl]
          cases a1 with
          | false => simp; exact sim_41 _ _ _
          | true =>
            rw [if_pos rfl, VR.then_ok]
            simp only [Bool.not_true, Bool.false_eq_true, or_self, if_false]
            show Sim k (if b2 < 0 ∨ f2 < b2 ∨ (a3.length : Int) < f2 then _ else _) (if b2 < 0 ∨ f2 < b2 ∨ (a3.length : Int) < f2 then _ else _)
            by_cases h : b2 < 0 ∨ f2 < b2 ∨ (a3.length : Int) < f2
            · rw [if_pos h, if_pos h]; exact sim_fail _ _ _ (by decide)
            · rw [if_neg h, if_neg h]; exact push_sim (m := { m with stack := l }) k _ (by show l.length ≤ 64; omega)
  · show Sim k ((needR 1 m).then fun _ s => (numR s).then fun n s => pushR (txtV (itoaL n)) s) (putS (txtV (itoaL ((takeL [110] (emb m k 0)).getD 0 (numV 0)).2.1)) (takeS [110] (emb m k 0)))
    rcases take1 110 m k with ⟨h1, h2⟩ | ⟨l, a, h1, h2, h3, h4⟩
    · rw [h1, h2, putS_40]; exact sim_40 _ _ _
    · have hl : l.length + 1 ≤ 64 := by rw [h1] at hd; simpa using hd
      rw [h2, h3, h4, bad_n, VR.then_ok, num_snoc h1]
      obtain ⟨a1, a2, a3⟩ := a
      cases a1 with
      | true => simp [putS_41]; exact sim_41 _ _ _
      | false =>
        rw [if_neg (by simp), VR.then_ok, if_neg (by simp)]
        exact push_sim (m := { m with stack := l }) k _ (by show l.length ≤ 64; omega)
  · show Sim k ((needR 1 m).then fun _ s => (txtR s).then fun t s => (pushR (numV (match digP t with | some n => n | none => 0)) s).then fun _ s => pushR (boolV (digP t).isSome) s)
      (let x := ((takeL [116] (emb m k 0)).getD 0 (numV 0)).2.2; putS (boolV (digP x).isSome) (putS (numV (match digP x with | some n => n | none => 0)) (takeS [116] (emb m k 0))))
    rcases take1 116 m k with ⟨h1, h2⟩ | ⟨l, a, h1, h2, h3, h4⟩
    · rw [h1, h2]; simp only [putS_40]; exact sim_40 _ _ _
    · have hl : l.length + 1 ≤ 64 := by rw [h1] at hd; simpa using hd
      rw [h2, h3, h4, bad_t, VR.then_ok, txt_snoc h1]
      obtain ⟨a1, a2, a3⟩ := a
      cases a1 with
      | false => simp [putS_41]; exact sim_41 _ _ _
      | true =>
        rw [if_pos rfl, VR.then_ok, if_neg (by simp)]
        exact (push_sim (m := { m with stack := l }) k _ (by show l.length ≤ 64; omega)).put _ fun m' h => by
          unfold pushR at h
          split at h
          · cases h
          · cases h; show (l ++ [_]).length ≤ 64; simp; omega
theorem file_sim (len : Int) {m : MSt} (wf : WfS len m) (k : Nat) (op : Int) (hop : op = 26 ∨ op = 27 ∨ op = 28 ∨ op = 29) (view : List FileL) : Sim k (fileR view op m) (textsS view op (emb m k 0)) := by
  have hd := wf.depth
  rcases hop with rfl | rfl | rfl | rfl
  · show Sim k ((needR 1 m).then fun _ s => (txtR s).then fun t s => (pushR (txtV (getF view t).1) s).then fun _ s => pushR (boolV (getF view t).2) s)
      (let x := ((takeL [116] (emb m k 0)).getD 0 (numV 0)).2.2; putS (boolV (getF view x).2) (putS (txtV (getF view x).1) (takeS [116] (emb m k 0))))
    rcases take1 116 m k with ⟨h1, h2⟩ | ⟨l, a, h1, h2, h3, h4⟩
    · rw [h1, h2]; simp only [putS_40]; exact sim_40 _ _ _
    · have hl : l.length + 1 ≤ 64 := by rw [h1] at hd; simpa using hd
      rw [h2, h3, h4, bad_t, VR.then_ok, txt_snoc h1]
      obtain ⟨a1, a2, a3⟩ := a
      cases a1 with
      | false => simp [putS_41]; exact sim_41 _ _ _
      | true =>
        rw [if_pos rfl, VR.then_ok, if_neg (by simp)]
        exact (push_sim (m := { m with stack := l }) k _ (by show l.length ≤ 64; omega)).put _ fun m' h => by
          unfold pushR at h
          split at h
          · cases h
          · cases h; show (l ++ [_]).length ≤ 64; simp; omega
  · exact push_sim k _ hd
  · show Sim k ((needR 1 m).then fun _ s => (numR s).then fun n s => (pushR (txtV (if 0 ≤ n then (match view[n.toNat]? with | some f => f.1 | none => []) else [])) s).then fun _ s => pushR (boolV (decide (0 ≤ n ∧ n < view.length))) s)
      (let n := ((takeL [110] (emb m k 0)).getD 0 (numV 0)).2.1; putS (boolV (decide (0 ≤ n ∧ n < view.length))) (putS (txtV (if 0 ≤ n then (match view[n.toNat]? with | some f => f.1 | none => []) else [])) (takeS [110] (emb m k 0))))
    rcases take1 110 m k with ⟨h1, h2⟩ | ⟨l, a, h1, h2, h3, h4⟩
    · rw [h1, h2]; simp only [putS_40]; exact sim_40 _ _ _
    · have hl : l.length + 1 ≤ 64 := by rw [h1] at hd; simpa using hd
      rw [h2, h3, h4, bad_n, VR.then_ok, num_snoc h1]
      obtain ⟨a1, a2, a3⟩ := a
      cases a1 with
      | true => simp [putS_41]; exact sim_41 _ _ _
      | false =>
        simp only [Bool.false_eq_true, if_false, VR.then_ok]
        exact (push_sim (m := { m with stack := l }) k _ (by show l.length ≤ 64; omega)).put _ fun m' h => by
          unfold pushR at h
          split at h
          · cases h
          · cases h; show (l ++ [_]).length ≤ 64; simp; omega
  · show Sim k ((needR 2 m).then fun _ s => (txtR s).then fun d s => (txtR s).then fun p s => match putF s.out (p, d) with | .error y => .error (y, s) | .ok o => .ok ((), { s with out := o }))
      (let l := takeL [116, 116] (emb m k 0); let t := takeS [116, 116] (emb m k 0); if t.fault = 0 then (match putF t.out ((l.getD 0 (numV 0)).2.2, (l.getD 1 (numV 0)).2.2) with | .error y => failS y t | .ok o => { t with out := o }) else t)
    rcases take2 116 116 m k with ⟨h1, h2⟩ | ⟨l, a, b, h1, h2, h3, h4⟩
    · rw [h1, h2]; exact sim_40 _ _ _
    · rw [h2, h3, h4, bad_t, bad_t, VR.then_ok, txt_snoc h1]
      obtain ⟨a1, a2, a3⟩ := a
      obtain ⟨b1, b2, b3⟩ := b
      cases b1 with
      | false => simp; exact sim_41 _ _ _
      | true =>
        rw [if_pos rfl, VR.then_ok, txt_snoc rfl]
        cases a1 with
        | false => simp; exact sim_41 _ _ _
        | true =>
          rw [if_pos rfl, VR.then_ok]
          simp only [Bool.not_true, Bool.false_eq_true, or_self, if_false]
          show Sim k (match putF m.out (a3, b3) with | .error y => _ | .ok o => _) (match putF m.out (a3, b3) with | .error y => _ | .ok o => _)
          cases hp : putF m.out (a3, b3) with
          | error y => exact sim_fail _ _ _ (put_codes hp).1
          | ok o => rfl
theorem do_sim {len : Int} {m : MSt} (wf : WfS len m) {x : InsL} (hx : WfI len x) (k : Nat) (view : List FileL) : Sim k (doR view x m) (doS view x (emb m k 0)) := by
  have hop := hx.op
  have hd := wf.depth
  obtain ⟨op, n, s⟩ := x
  simp only at hop
  by_cases c1 : op = 1
  · subst c1; rfl
  by_cases c2 : op = 2
  · subst c2; exact push_sim k _ hd
  by_cases c3 : op = 3
  · subst c3; exact push_sim k _ hd
  by_cases c7 : op = 7
  · subst c7; exact push_sim k _ hd
  by_cases c8 : op = 8
  · subst c8
    show Sim k ((needR 1 m).then fun _ s => (popR s).then fun v s => .ok ((), { s with loc := s.loc.set n.toNat v }))
      (let v := (takeL [97] (emb m k 0)).getD 0 (numV 0); let t := takeS [97] (emb m k 0); if t.fault = 0 then { t with loc := t.loc.set n.toNat v } else t)
    rcases take1 97 m k with ⟨h1, h2⟩ | ⟨l, a, h1, h2, h3, h4⟩
    · rw [h1, h2]; exact sim_40 _ _ _
    · rw [h2, h3, h4, bad_a, VR.then_ok, pop_snoc h1, VR.then_ok]
      rfl
  by_cases c4 : op = 4 ∨ op = 5 ∨ op = 6
  · have e : doR view ⟨op, n, s⟩ m = shiftR op m := by unfold doR; simp only; rw [if_neg c1, if_neg c2, if_neg c3, if_neg c7, if_neg c8, if_pos c4]
    rw [e]; exact shift_sim len wf k op _ c4 rfl view
  by_cases c9 : 9 ≤ op ∧ op ≤ 13
  · have e : doR view ⟨op, n, s⟩ m = reckR op m := by unfold doR; simp only; rw [if_neg c1, if_neg c2, if_neg c3, if_neg c7, if_neg c8, if_neg c4, if_pos c9]
    have e2 : doS view ⟨op, n, s⟩ (emb m k 0) = reckS op (emb m k 0) := by unfold doS; simp only; rw [if_neg c2, if_neg c3, if_neg (by omega), if_neg (by omega), if_neg (by omega), if_neg c7, if_neg c8, if_neg (by omega), if_neg (by omega), if_neg (by omega), if_pos c9]
    rw [e, e2]; exact reck_sim len wf k op
  by_cases c14 : 14 ≤ op ∧ op ≤ 16
  · have e : doR view ⟨op, n, s⟩ m = askR op m := by unfold doR; simp only; rw [if_neg c1, if_neg c2, if_neg c3, if_neg c7, if_neg c8, if_neg c4, if_neg c9, if_pos c14]
    rw [e]; exact ask_sim len wf k op _ (by omega) rfl view
  by_cases c17 : 17 ≤ op ∧ op ≤ 20
  · have e : doR view ⟨op, n, s⟩ m = turnR op n m := by unfold doR; simp only; rw [if_neg c1, if_neg c2, if_neg c3, if_neg c7, if_neg c8, if_neg c4, if_neg c9, if_neg c14, if_pos c17]
    have e2 : doS view ⟨op, n, s⟩ (emb m k 0) = goesS op n (emb m k 0) := by unfold doS; simp only; rw [if_neg c2, if_neg c3, if_neg (by omega), if_neg (by omega), if_neg (by omega), if_neg c7, if_neg c8, if_neg (by omega), if_neg (by omega), if_neg (by omega), if_neg c9, if_pos (.inr (.inl c17))]
    rw [e, e2]; exact turn_sim len wf k op n (by omega)
  by_cases c30 : op = 30
  · subst c30; exact sim_fail m m k (by decide)
  have e2 : doS view ⟨op, n, s⟩ (emb m k 0) = textsS view op (emb m k 0) := by unfold doS; simp only; rw [if_neg c2, if_neg c3, if_neg (by omega), if_neg (by omega), if_neg (by omega), if_neg c7, if_neg c8, if_neg (by omega), if_neg (by omega), if_neg (by omega), if_neg c9, if_neg (by omega)]
  by_cases c21 : 21 ≤ op ∧ op ≤ 25
  · have e : doR view ⟨op, n, s⟩ m = spellR op m := by unfold doR; simp only; rw [if_neg c1, if_neg c2, if_neg c3, if_neg c7, if_neg c8, if_neg c4, if_neg c9, if_neg c14, if_neg c17, if_pos c21]
    rw [e, e2]; exact spell_sim len wf k op (by omega) view
  have c26 : 26 ≤ op ∧ op ≤ 29 := by omega
  have e : doR view ⟨op, n, s⟩ m = fileR view op m := by unfold doR; simp only; rw [if_neg c1, if_neg c2, if_neg c3, if_neg c7, if_neg c8, if_neg c4, if_neg c9, if_neg c14, if_neg c17, if_neg c21, if_pos c26]
  rw [e, e2]; exact file_sim len wf k op (by omega) view
/- the loop of the document's Run goes on -/
def condS (len : Nat) (s : RS) : Prop := s.steps < 4096 ∧ s.halted = false ∧ s.fault = 0 ∧ s.at' < len
/- the error with which it ends -/
def endY (len : Nat) (s : RS) : Int := if s.fault = 0 ∧ s.halted = false ∧ s.at' < len then 45 else s.fault
structure RelS (len : Nat) (m : MM) (s : RS) : Prop where
  steps : s.steps = m.steps
  on : m.s.done = false → s = emb m.s m.steps 0 ∧ m.s.next < len ∧ m.steps < 4096
  off : m.s.done = true → ¬ condS len s ∧ m.fault = endY len s ∧ (m.fault = 0 → m.s.out = s.out)
theorem RelS.cond {len : Nat} {m : MM} {s : RS} (h : RelS len m s) (hc : condS len s) : m.s.done = false := by
  cases hd : m.s.done with
  | false => rfl
  | true => exact absurd hc (h.off hd).1
theorem RelS.uncond {len : Nat} {m : MM} {s : RS} (h : RelS len m s) (hc : ¬ condS len s) : m.s.done = true := by
  cases hd : m.s.done with
  | true => rfl
  | false =>
    obtain ⟨e, h1, h2⟩ := h.on hd
    exact absurd (by rw [e]; exact ⟨h2, hd, rfl, h1⟩) hc
theorem tic_emb (m : MSt) (k : Nat) : ticS (emb m k 0) = emb { m with next := m.next + 1 } (k + 1) 0 := rfl
theorem rel_step {ps : List InsL} {view : List FileL} {m : MM} {s : RS} (hwf : WfM ps.length m) (hpw : ∀ x ∈ ps, WfI ps.length x) (hwf2 : WfM ps.length (stepF ps view m)) (h : RelS ps.length m s) (hd : m.s.done = false) : RelS ps.length (stepF ps view m) (stepS ps view s) := by
  obtain ⟨he, hin, hst⟩ := h.on hd
  have hn := hwf.s.next
  have hlt : m.s.next.toNat < ps.length := by omega
  have hg : ps.getD m.s.next.toNat ins0 = ps[m.s.next.toNat] := by rw [List.getD_eq_getElem?_getD, List.getElem?_eq_getElem hlt]; rfl
  have hxw := hpw _ (List.getElem_mem hlt)
  have e2 : stepS ps view s = doS view ps[m.s.next.toNat] (emb { m.s with next := m.s.next + 1 } (m.steps + 1) 0) := by
    unfold stepS
    rw [he]
    show (match ps[m.s.next.toNat]? with | some x => doS view x (ticS (emb m.s m.steps 0)) | none => _) = _
    rw [List.getElem?_eq_getElem hlt, tic_emb]
  have hw1 : WfS ps.length { m.s with next := m.s.next + 1 } := ⟨hwf.s.stack, hwf.s.depth, hwf.s.loc, hwf.s.size, hwf.s.calls, hwf.s.many, hwf.s.out, by show 0 ≤ m.s.next + 1 ∧ m.s.next + 1 ≤ (ps.length : Int); omega⟩
  have hsim := do_sim hw1 hxw (m.steps + 1) view
  rw [← e2] at hsim
  have e1 : stepF ps view m = (let r := attF view ps[m.s.next.toNat] m.s; let d := r.1.done || decide (r.2 ≠ 0) || decide (r.1.next = ps.length); if d = false ∧ m.steps + 1 = 4096 then ⟨{ r.1 with done := true }, m.steps + 1, 45⟩ else ⟨{ r.1 with done := d }, m.steps + 1, r.2⟩) := by unfold stepF; rw [hg]
  unfold attF at e1
  generalize stepS ps view s = s' at *
  generalize stepF ps view m = m' at *
  generalize doR view ps[m.s.next.toNat] { m.s with next := m.s.next + 1 } = r at *
  match r, hsim, e1 with
  | .error (y, n), ⟨h1, h2, h3⟩, e1 =>
    have e3 : m' = ⟨{ n with done := true }, m.steps + 1, y⟩ := by
      rw [e1]; simp [endOf, h3]
    subst e3
    refine ⟨h2, (fun h => by cases h), fun _ => ⟨fun hc => h3 (h1 ▸ hc.2.2.1), ?_, fun h0 => absurd h0 h3⟩⟩
    unfold endY
    rw [if_neg fun hc => h3 (h1 ▸ hc.1)]
    exact h1.symm
  | .ok ((), n), hs, e1 =>
    have hs : s' = emb n (m.steps + 1) 0 := hs
    subst hs
    by_cases hc : (n.done || decide (n.next = (ps.length : Int))) = false ∧ m.steps + 1 = 4096
    · have e3 : m' = ⟨{ n with done := true }, m.steps + 1, 45⟩ := by
        rw [e1]
        exact if_pos ⟨by show (n.done || false || decide (n.next = (ps.length : Int))) = false; rw [Bool.or_false]; exact hc.1, hc.2⟩
      clear e1
      subst e3
      obtain ⟨hc1, hc2⟩ := hc
      rw [Bool.or_eq_false_iff] at hc1
      have h4 := of_decide_eq_false hc1.2
      have h5 : n.next ≤ ps.length := hwf2.s.next.2
      refine ⟨rfl, (fun h => by cases h), fun _ => ⟨fun hc => ?_, ?_, fun h0 => absurd h0 (show ¬ (45 : Int) = 0 by decide)⟩⟩
      · have h6 : m.steps + 1 < 4096 := hc.1
        omega
      · unfold endY
        rw [if_pos ⟨rfl, hc1.1, by show n.next < (ps.length : Int); omega⟩]
    · have e3 : m' = ⟨{ n with done := n.done || false || decide (n.next = (ps.length : Int)) }, m.steps + 1, 0⟩ := by
        rw [e1]
        exact if_neg fun h => hc ⟨by have h1 : (n.done || false || decide (n.next = (ps.length : Int))) = false := h.1; rw [Bool.or_false] at h1; exact h1, h.2⟩
      rw [Bool.or_false] at e3
      clear e1
      subst e3
      refine ⟨rfl, fun hd2 => ?_, fun hd2 => ?_⟩
      · have hd3 : (n.done || decide (n.next = (ps.length : Int))) = false := hd2
        have h5 : n.next ≤ ps.length := hwf2.s.next.2
        have h7 : n.next < ps.length := hwf2.in' hd2
        have h8 := hd3
        rw [Bool.or_eq_false_iff] at h8
        refine ⟨?_, h7, ?_⟩
        · show emb n (m.steps + 1) 0 = emb { n with done := n.done || decide (n.next = (ps.length : Int)) } (m.steps + 1) 0
          rw [hd3]
          unfold emb
          simp [h8.1]
        · show m.steps + 1 < 4096
          have : ¬ m.steps + 1 = 4096 := fun e => hc ⟨hd3, e⟩
          omega
      · have hd3 : (n.done || decide (n.next = (ps.length : Int))) = true := hd2
        have hno : ¬ (n.done = false ∧ n.next < ps.length) := by
          rintro ⟨h1, h2⟩
          rw [h1, Bool.false_or] at hd3
          have := of_decide_eq_true hd3
          omega
        refine ⟨fun hc => hno ⟨hc.2.1, hc.2.2.2⟩, ?_, fun _ => rfl⟩
        unfold endY
        rw [if_neg fun hc => hno ⟨hc.2.1, hc.2.2⟩]
        rfl
def rs0 : RS := ⟨[], List.replicate 16 (numV 0), [], [], 0, 0, false, 0⟩
theorem rel0 {len : Nat} (h : 0 < len) : RelS len mm0 rs0 := ⟨rfl, fun _ => ⟨rfl, by show (0 : Int) < len; omega, by decide⟩, fun h => by cases h⟩
theorem emb_wf {len : Int} {m : MSt} (h : WfS len m) (k : Nat) (y : Int) : WfR len (emb m k y) := ⟨h.stack, h.depth, h.loc, h.size, h.calls, h.many, h.out, h.next⟩
/- what the document's Run answers, in lists -/
theorem ref_end {ps : List InsL} {view : List FileL} (hr : Ran ps view) (h : newF ps view = 0) {k : Nat} (hk : k ≤ 4096) {s : RS} (hs : RelS ps.length (goF ps view k mm0) s) (hc : ¬ condS ps.length s) :
    runL ps view = (if endY ps.length s = 0 then s.out else []) ∧ runN ps view = s.steps ∧ runE ps view = endY ps.length s := by
  have hd := hs.uncond hc
  have e : goF ps view k mm0 = runM ps view := by
    have e1 : 4096 = k + (4096 - k) := by omega
    unfold runM
    rw [e1, go_add, go_done hd]
  rw [e] at hs hd
  obtain ⟨-, h2, h3⟩ := hs.off hd
  unfold runL runN runE
  rw [if_pos h, if_pos h, if_pos h]
  unfold resF
  rw [if_pos hd, ← h2]
  by_cases h0 : (runM ps view).fault = 0
  · rw [if_pos h0, if_pos h0]
    exact ⟨h3 h0, hs.steps.symm, h0.symm⟩
  · rw [if_neg h0, if_neg h0]
    exact ⟨rfl, hs.steps.symm, rfl⟩
end Go.Proofs.YthehpmffkkogpaaGreatDoor
