/- The contract of the statements' own guard. Condition: the library's variables. -/
import Derived.Test.YtodcbagjmbdafaaDoorSxList
namespace Go.Proofs.YtodcbagjmbdafaaDoor
set_option linter.unusedVariables false
open Go.ChangeShapes Go.WideShapes Go.ChangeAt Go.RowKit
def aNode : Nd := .mk false ⟨#[]⟩ [.mk true ⟨#[104, 105]⟩ [], .mk true ⟨#[]⟩ []]
theorem aNode_enc : putN aNode 0 [] = .ok [40, 50, 58, 104, 105, 48, 58, 41] := by kernel_rfl
theorem aDec : decR [48, 50, 58, 104, 105] = .error 5 := by kernel_rfl
theorem Lb.top {base : Nat} {w : World} (h : Lb base w) : Lb w.heap.size w := h.up h.le (Nat.le_refl _)
theorem nds_two (w : World) (a b : ByteArray) (ha : a.size ≤ maxLen) (hb : b.size ≤ maxLen) : NdS (w.alloc (.cells #[.bool true, .string a, .slice none 0 0, .bool true, .string b, .slice none 0 0] 24)) (fun x => x = w.heap.size) (.slice (some ⟨w.heap.size, 0, none⟩) 2 2) [.mk true a [], .mk true b []] w.heap.size 0 := by
  have c := fun i => cell_of_row (w.alloc (.cells #[.bool true, .string a, .slice none 0 0, .bool true, .string b, .slice none 0 0] 24)) w.heap.size i _ _ (0, 0) (heap_alloc_new w _)
  refine ⟨⟨_, 2, rfl, Nat.le_refl _, by decide, fun _ => rfl⟩, fun i hi => ?_⟩
  match i, hi with
  | 0, _ => exact NdC.of rfl ha (by rw [c]; rfl) (by rw [c]; rfl) (by rw [c]; rfl) (NdS.nil _ _)
  | 1, _ => exact NdC.of rfl hb (by rw [c]; rfl) (by rw [c]; rfl) (by rw [c]; rfl) (NdS.nil _ _)
theorem func_ne (w1 : World) (b : Nat) : (Sem.run Tryd.prog (binOp BinOp.eql 46 (Value.func (Fn.func 32) #[] #[Value.pointer (some { block := b, off := 0 })]) Value.nilFunc) w1) = .ok (.bool false) w1 := by
  unfold binOp Op.equal
  obtain ⟨d, hd⟩ : ∃ d, Op.maxDepth = d + 1 := ⟨_, rfl⟩
  rw [hd]
  clear hd
  simp only [Op.equalIn, Sem.run_bind, run_underlying Tryd.underlying46, Result.andThen_ok, Sem.run_pure]
set_option maxHeartbeats 2000000 in
set_option maxRecDepth 20000 in
theorem alive_any (base : Nat) (w : World) (hl : Lb base w) : Calls Tryd.prog 11 #[] w fun e w' => e = .returned (.bool true) ∧ Chg NoB w w' := by
  have Hl := Lib.hid hl
  clear hl
  go_enter Tryd.func11, Tryd.ntmps11
  go_wp2_with fail
  refine (leaves_new (.mk false ⟨#[]⟩ []) (by decide) NoB _ w ⟨Nat.zero_le _, _, 0, 0, rfl, NdS.nil _ _⟩).mono ?_
  rintro e w1 ⟨hc1, b, s', kb', ko', rfl, _, _, _⟩
  have Hc1 := Lib.hid hc1
  have hcmp := func_ne w1 b
  clear hc1
  go_wp2_with fail
  refine (new_any ⟨#[104, 105]⟩ w1).mono ?_
  rintro e w2 ⟨rfl, hc2⟩
  have Hc2 := Lib.hid (Hc1.out.trans hc2)
  clear hc2
  go_wp2_with fail
  refine (new_any ⟨#[]⟩ w2).mono ?_
  rintro e w3 ⟨rfl, hc3⟩
  have Hc3 := Lib.hid (Hc2.out.trans hc3)
  clear hc3
  go_wp2_with fail
  have hn := nds_two w3 ⟨#[104, 105]⟩ ⟨#[]⟩ (by decide) (by decide)
  have Hc4 := Lib.hid (Hc3.out.trans ((Chg.refl NoB w3).alloc (.cells #[.bool true, .string ⟨#[104, 105]⟩, .slice none 0 0, .bool true, .string ⟨#[]⟩, .slice none 0 0] 24)))
  refine (list_new [.mk true ⟨#[104, 105]⟩ [], .mk true ⟨#[]⟩ []] (by decide) _ _ _ _ _ hn).mono ?_
  rintro e w5 ⟨hc5, v5, rfl, hv5⟩
  have Hc5 := Lib.hid (Hc4.out.trans hc5)
  have henc := Lib.hid (enc_any aNode (by decide) _ v5 w5 hv5 (fun k hk => hk.2) (Hl.out.keep (Hc4.out.trans hc5)).top)
  rw [aNode_enc] at henc
  clear hc5 hn hv5
  go_wp2_with fail
  refine henc.out.mono ?_
  rintro e w6 ⟨hc6, rfl⟩
  have Hc6 := Lib.hid (Hc5.out.trans hc6)
  have hdec := Lib.hid (dec_any [48, 50, 58, 104, 105] w6 (Hl.out.keep (Hc5.out.trans hc6)).top (by decide))
  rw [aDec] at hdec
  have hx1 : (tx [40, 50, 58, 104, 105, 48, 58, 41]) = ⟨#[40, 50, 58, 104, 105, 48, 58, 41]⟩ := rfl
  clear hc6
  go_wp2_with fail
  refine hdec.out.mono ?_
  rintro e w7 ⟨hc7, rfl⟩
  have Hc7 := Lib.hid (Hc6.out.trans hc7)
  clear hc7
  unfold nodeZ
  go_wp2_with fail
  go_ret
  exact ⟨rfl, Hc7.out.trans ((Chg.refl NoB w7).alloc _)⟩
end Go.Proofs.YtodcbagjmbdafaaDoor
