/- The contract of this layer's statements' own guard. Condition: the lists of words and of powers read as the program's text lays them. -/
import Derived.Test.YtdeikcmkfmnjmaaDoorCdEnc
namespace Go.Proofs.YtdeikcmkfmnjmaaDoor
set_option linter.unusedVariables false
open Go.ChangeShapes Go.WideShapes Go.ChangeAt Go.RowKit
def aProg : List InsL := [⟨2, -2, []⟩, ⟨1, 0, []⟩]
def bProg : List InsL := [⟨17, 1, []⟩]
theorem aProg_enc : encF aProg = (tx [40, 40, 52, 58, 112, 117, 115, 104, 50, 58, 45, 50, 41, 40, 52, 58, 104, 97, 108, 116, 41, 41], 0) := by kernel_rfl
theorem bProg_check : checkF bProg = (0, 30) := by kernel_rfl
theorem ins_two (w : World) (o1 n1 o2 n2 : Int) (h : InsL.wf ⟨o1, n1, []⟩) (h' : InsL.wf ⟨o2, n2, []⟩) :
    InsS (w.alloc (.cells #[.int .i64 o1, .int .i64 n1, .string ⟨#[]⟩, .int .i64 o2, .int .i64 n2, .string ⟨#[]⟩] 39)) (fun x => x = w.heap.size) (.slice (some ⟨w.heap.size, 0, none⟩) 2 2) [⟨o1, n1, []⟩, ⟨o2, n2, []⟩] w.heap.size 0 := by
  have c := fun i => cell_of_row (w.alloc (.cells #[.int .i64 o1, .int .i64 n1, .string ⟨#[]⟩, .int .i64 o2, .int .i64 n2, .string ⟨#[]⟩] 39)) w.heap.size i _ _ (0, 0) (heap_alloc_new w _)
  refine ⟨⟨_, 2, rfl, Nat.le_refl _, by decide, fun _ => ⟨rfl, rfl⟩⟩, fun i hi => ?_⟩
  match i, hi with
  | 0, _ => exact ⟨h, by rw [c]; rfl, by rw [c]; rfl, by rw [c]; rfl⟩
  | 1, _ => exact ⟨h', by rw [c]; rfl, by rw [c]; rfl, by rw [c]; rfl⟩
theorem ins_one (w : World) (o1 n1 : Int) (h : InsL.wf ⟨o1, n1, []⟩) :
    InsS (w.alloc (.cells #[.int .i64 o1, .int .i64 n1, .string ⟨#[]⟩] 39)) (fun x => x = w.heap.size) (.slice (some ⟨w.heap.size, 0, none⟩) 1 1) [⟨o1, n1, []⟩] w.heap.size 0 := by
  have c := fun i => cell_of_row (w.alloc (.cells #[.int .i64 o1, .int .i64 n1, .string ⟨#[]⟩] 39)) w.heap.size i _ _ (0, 0) (heap_alloc_new w _)
  refine ⟨⟨_, 1, rfl, Nat.le_refl _, by decide, fun _ => ⟨rfl, rfl⟩⟩, fun i hi => ?_⟩
  match i, hi with
  | 0, _ => exact ⟨h, by rw [c]; rfl, by rw [c]; rfl, by rw [c]; rfl⟩
set_option maxHeartbeats 1000000 in
set_option maxRecDepth 20000 in
theorem alive_any (base : Nat) (w : World) (h : Ev base w) : Calls Tryd.prog 8 #[] w fun e w' => e = .returned (.bool true) ∧ Chg NoB w w' := by
  have hal := (Chg.refl NoB w).alloc (.cells #[.int .i64 2, .int .i64 (-2), .string ⟨#[]⟩, .int .i64 1, .int .i64 0, .string ⟨#[]⟩] 39)
  have henc := encode_any aProg _ _ _ _ base _ (h.keep hal) (by decide) (ins_two w 2 (-2) 1 0 ⟨by decide, by decide, Nat.zero_le _⟩ ⟨by decide, by decide, Nat.zero_le _⟩)
  rw [aProg_enc] at henc
  have Henc := Lib.hid henc
  have Hal := Lib.hid hal
  have Hev := Lib.hid h
  clear hal h henc
  go_enter Tryd.func8, Tryd.ntmps8
  go_wp2_with fail
  refine Henc.out.mono ?_
  rintro e w2 ⟨hc2, rfl⟩
  have Hc2 := Lib.hid (Hal.out.trans hc2)
  have hal3 := (Chg.refl NoB w2).alloc (.cells #[.int .i64 17, .int .i64 1, .string ⟨#[]⟩] 39)
  have hck := check_any bProg _ _ _ _ base _ (Hev.out.wd.keep (Hc2.out.trans hal3)) (by decide) (ins_one w2 17 1 ⟨by decide, by decide, Nat.zero_le _⟩)
  rw [bProg_check] at hck
  have Hck := Lib.hid hck
  have Hal3 := Lib.hid (Hc2.out.trans hal3)
  clear hal3 hck hc2 Henc
  go_wp2_with fail
  refine Hck.out.mono ?_
  rintro e w4 ⟨rfl, hc4⟩
  unfold tx
  go_wp2_with fail
  go_ret
  exact ⟨rfl, Hal3.out.trans hc4⟩
end Go.Proofs.YtdeikcmkfmnjmaaDoor
