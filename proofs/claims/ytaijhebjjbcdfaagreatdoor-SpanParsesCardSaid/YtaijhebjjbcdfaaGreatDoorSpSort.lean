/- Gaps sorted by where they begin: the contract of the sort. No condition. -/
import Derived.Test.YtaijhebjjbcdfaaGreatDoorSpMem
import Derived.Test.YtaijhebjjbcdfaaGreatDoorShelf
import Derived.Test.YtaijhebjjbcdfaaGreatDoorShelf2
import Derived.Sort.Grow
import Derived.LoopN
import Derived.Shelf.SlSortCmp.WholeK

namespace Go.Proofs.YtaijhebjjbcdfaaGreatDoor
set_option linter.unusedVariables false
open Go.ChangeShapes Go.WideShapes Go.ChangeAt Go.RowKit Go.Sort
theorem encG_len (x : GapL) : (encG x).length = 2 := rfl
theorem encG_one (x : GapL) : ∀ v ∈ encG x, v.oneCell' = true := fun v hv => by
  rcases List.mem_cons.1 hv with rfl | hv
  · rfl
  · rw [List.mem_singleton.1 hv]; rfl
theorem flatK_flatG (l : List GapL) : flatK encG 2 l.toArray = (flatG l).toArray := by
  apply Array.ext
  · simp [flatG_len]
  · intro t h1 h2
    have ht : t < l.length * 2 := by simpa using h1
    have hd : t / 2 < l.length := by omega
    have hg := get_flatK encG 2 l.toArray t (by simpa using ht)
    rw [getElem!_pos (flatK encG 2 l.toArray) t h1] at hg
    rw [hg]
    have e1 : l.toArray[t / 2]! = l[t / 2] := by rw [getElem!_pos l.toArray (t / 2) (by simpa using hd)]; simp
    rw [e1]
    obtain ⟨g0, g1⟩ := flatG_at l (t / 2) hd
    have hlt : t < (flatG l).length := by rw [flatG_len]; exact ht
    have e3 : (flatG l).toArray[t] = (flatG l)[t] := by simp
    rw [e3]
    rcases Nat.mod_two_eq_zero_or_one t with hm | hm
    · have e2 : t / 2 * 2 = t := by omega
      rw [e2, List.getElem?_eq_getElem hlt] at g0
      rw [hm, Option.some.inj g0]
      rfl
    · have e2 : t / 2 * 2 + 1 = t := by omega
      rw [e2, List.getElem?_eq_getElem hlt] at g1
      rw [hm, Option.some.inj g1]
      rfl
/- a row of cells, sorted where it stands -/
theorem heap_putV {w : World} {g n : Nat} {os : Array Obj} {cur : Array Value} {e : TypeId} {fr : Nat × Nat} (F : Array Value) (hb : w.heap[g]? = some (.cells cur e fr)) :
    (grow (putRow id (Sort.ahead w n) g 0 F) os).heap[g]? = some (.cells (putCells id 0 F cur) e fr) := by
  have hg : g < w.heap.size := (Array.getElem?_eq_some_iff.1 hb).1
  rw [heap_grow_old _ _ (by simpa using hg)]
  simp [putRow, mapBlock, Sort.ahead, Array.getElem?_modify, hb, onCells]
theorem chg_putV {w : World} {g n : Nat} {os : Array Obj} (F : Array Value) : Chg (fun k => k = g) w (grow (putRow id (Sort.ahead w n) g 0 F) os) := by
  refine ⟨rfl, rfl, rfl, by simp, fun k hk hne => ?_⟩
  rw [heap_grow_old _ _ (by simpa using hk)]
  have : g ≠ k := fun e => hne e.symm
  simp [putRow, mapBlock, Sort.ahead, Array.getElem?_modify, this]
theorem take_putV (cur : Array Value) (ts : List Value) (h : ts.length ≤ cur.size) : (putCells id 0 ts.toArray cur).toList.take ts.length = ts := by
  apply List.ext_getElem?
  intro j
  by_cases hj : j < ts.length
  · rw [List.getElem?_take_of_lt hj, Array.getElem?_toList]
    simp [putCells, hj, show j < cur.size by omega]
  · rw [List.getElem?_take_eq_none (by omega), List.getElem?_eq_none (by omega)]
theorem holds_row {w : World} {g : Nat} {cur : Array Value} {e : TypeId} {xs : List Value} (hb : w.heap[g]? = some (.cells cur e (0, 0))) (ht : cur.toList.take xs.length = xs) : Holds id w g 0 xs.toArray := by
  intro j hj
  have hj' : j < xs.length := by simpa using hj
  refine ⟨?_, by simp [World.frozen?, hb]⟩
  have h1 : (cur.toList.take xs.length)[j]? = xs[j]? := by rw [ht]
  rw [List.getElem?_take_of_lt hj'] at h1
  simp only [World.cell?, hb, Nat.zero_add]
  simp only [Option.isSome_none, Bool.false_eq_true, if_false]
  rw [← Array.getElem?_toList, h1]
  simp [hj']
def ltG (x y : GapL) : Bool := decide (x.1 < y.1)
theorem swo_G : SWO ltG := ⟨fun x => decide_eq_false (by omega), fun x y z h1 h2 => by unfold ltG at *; rw [decide_eq_true_iff] at *; omega, fun x y z h1 h2 => by unfold ltG at *; rw [decide_eq_false_iff_not] at *; omega⟩
def cmpG (x y : GapL) : Int := Lib.compareInt x.1 y.1
theorem lt_cmpG : ltOf cmpG = ltG := by
  funext x y
  unfold ltOf ltG cmpG Lib.compareInt
  by_cases h : x.1 < y.1
  · rw [if_pos h]; simp [h]
  · rw [if_neg h]
    by_cases h2 : x.1 > y.1
    · rw [if_pos h2]; simp [h]
    · rw [if_neg h2]; simp [h]
set_option maxHeartbeats 1000000 in
theorem cmpc_any (x y : GapL) (w : World) : Calls Tryz.prog 47 #[.agg (encG x).toArray, .agg (encG y).toArray] w fun e w' => e = .returned (.int .i64 (cmpG x y)) ∧ w' = grow w #[.cells #[.int .i64 x.1, .int .i64 x.2] 37, .cells #[.int .i64 y.1, .int .i64 y.2] 37] := by
  obtain ⟨x1, x2⟩ := x
  obtain ⟨y1, y2⟩ := y
  have hc := fun w' => Tryz.cmp_Compare_int x1 y1 w'
  have hb1 := heap_alloc_new w (.cells #[.int .i64 x1, .int .i64 x2] 37)
  have hs1 := aSize w (.cells #[.int .i64 x1, .int .i64 x2] 37)
  have hg : (w.alloc (.cells #[.int .i64 x1, .int .i64 x2] 37)).alloc (.cells #[.int .i64 y1, .int .i64 y2] 37) = grow w #[.cells #[.int .i64 x1, .int .i64 x2] 37, .cells #[.int .i64 y1, .int .i64 y2] 37] := by
    unfold grow World.alloc
    congr 1
  obtain ⟨w1, hw1⟩ : ∃ w1, w.alloc (.cells #[.int .i64 x1, .int .i64 x2] 37) = w1 := ⟨_, rfl⟩
  rw [hw1] at hb1 hs1 hg
  have hb2 := heap_alloc_new w1 (.cells #[.int .i64 y1, .int .i64 y2] 37)
  have hal2 := (Chg.refl NoB w1).alloc (.cells #[.int .i64 y1, .int .i64 y2] 37)
  rw [hs1] at hb2
  have hk1 := row_kept hal2 hb1 id
  rw [hg] at hb2 hk1
  have Hw1 := Lib.hid hw1
  have Hg := Lib.hid hg
  have Hs1 := Lib.hid hs1
  unfold encG cmpG
  obtain ⟨r, hr⟩ : ∃ r, r = Lib.compareInt x1 y1 := ⟨_, rfl⟩
  rw [← hr] at hc
  have Hc := Lib.hid hc
  show Calls _ _ _ _ fun e w' => e = .returned (.int .i64 (Lib.compareInt x1 y1)) ∧ _
  rw [← hr]
  clear hb1 hs1 hg hw1 hal2 hr hc
  go_enter Tryz.func47, Tryz.ntmps47
  go_upto_region 1 with fail
  rw [Hw1.out, Hg.out]
  obtain ⟨f0, f1⟩ := var2 hk1
  obtain ⟨g0, g1⟩ := var2 hb2
  clear hk1 hb2
  go_wp2_with fail
  refine (Hc.out _).mono ?_
  rintro e w' ⟨rfl, rfl⟩
  go_wp2_with fail
  go_ret
  exact ⟨rfl, rfl⟩
theorem isAggF (w : World) : (isAgg 37).run Tryz.prog w = .ok true w := by kernel_rfl
theorem sizeF (w : World) : (Go.sizeOf 37).run Tryz.prog w = .ok 2 w := by kernel_rfl
/- nothing to sort -/
theorem insNone (p : Option Addr) (cap : Nat) (fv : Value) (w : World) : Calls Tryz.prog 80 #[.slice p 0 cap, .int .i64 0, .int .i64 0, fv] w fun e w' => e = .returned (.tuple #[]) ∧ w' = w := by
  go_enter Tryz.func80, Tryz.ntmps80
  go_wp2
  refine wp_loop_rounds 1 ?_
  rw [rounds_succ]
  go_wp2
  go_end0
  exact ⟨rfl, rfl⟩
theorem pdqNone (p : Option Addr) (cap : Nat) (lim : Int) (fv : Value) (w : World) : Calls Tryz.prog 66 #[.slice p 0 cap, .int .i64 0, .int .i64 0, .int .i64 lim, fv] w fun e w' => e = .returned (.tuple #[]) ∧ w' = w := by
  have hi := fun W => insNone p cap fv W
  go_enter Tryz.func66, Tryz.ntmps66
  go_wp2
  refine wp_loop_rounds 1 ?_
  rw [rounds_succ]
  go_wp2_with (go_at_call 80; refine (hi _).mono ?_; rintro e w' ⟨rfl, rfl⟩)
  (try simp only [Exit.inBlock, Exit.then])
  refine bodyPost_ret (results_none rfl _ _ _) rfl ?_
  exact ⟨rfl, rfl⟩
theorem sortNone (p : Option Addr) (cap : Nat) (fv : Value) (w : World) : Calls Tryz.prog 46 #[.slice p 0 cap, fv] w fun e w' => e = .returned (.tuple #[]) ∧ w' = w := by
  have hp := fun lim W => pdqNone p cap lim fv W
  have hl : ∀ W, Calls Tryz.prog 67 #[.int .u64 0] W fun e w' => e = .returned (.int .i64 (Lib.bitLen 0 : Nat)) ∧ w' = W := fun W => by
    have h := Tryz.bits_Len 0 W (by omega) (by omega)
    exact h
  go_enter Tryz.func46, Tryz.ntmps46
  go_wp2_with (first | (go_at_call 67; refine (hl _).mono ?_; rintro e w' ⟨rfl, rfl⟩) | (go_at_call 66; refine (hp _ _).mono ?_; rintro e w' ⟨rfl, rfl⟩))
  go_end0
  exact ⟨rfl, rfl⟩
def SortP (l : List GapL) (base : Nat) (v : Value) (w : World) (e : Ending) (w' : World) : Prop := e = .returned (.tuple #[]) ∧ ∃ d : List GapL, d.Perm l ∧ Rises d ∧ w'.ownsRow base 37 2 v l.length (flatG d) ∧ Chg (fun k => v.ownBlock = some k) w w'
theorem up_of {l : List GapL} {d : Array GapL} (hs : SortedIn (ltOf cmpG) 0 d.size d) : Rises d.toList := by
  unfold Rises
  rw [List.pairwise_iff_getElem]
  intro i j h1 h2 hij
  rw [lt_cmpG] at hs
  have h2' : j < d.size := by simpa using h2
  have := hs i j (Nat.zero_le _) hij h2'
  rw [getElem!_pos d j h2', getElem!_pos d i (by omega)] at this
  unfold ltG at this
  have h3 := of_decide_eq_false this
  simp only [Array.getElem_toList]
  omega
theorem sort_any (l : List GapL) (base : Nat) (v : Value) (w : World) (hrow : w.ownsRow base 37 2 v l.length (flatG l)) (hl : l.length ≤ 1048576) :
    Calls Tryz.prog 46 #[v, .func (.func 47) #[] #[]] w (SortP l base v w) := by
  rcases hrow.2 with ⟨rfl, h0⟩ | ⟨g, cap, cur, rfl, hbase, hb, h1, h2, h3, h4⟩
  · obtain rfl := List.eq_nil_of_length_eq_zero h0
    refine (sortNone none 0 _ w).mono ?_
    rintro e w' ⟨rfl, rfl⟩
    exact ⟨rfl, [], List.Perm.refl _, List.Pairwise.nil, hrow, Chg.refl _ _⟩
  · have h4' : cur.toList.take (flatG l).length = flatG l := by rw [flatG_len]; exact h4
    have hH : HoldsK encG 2 w g 0 l.toArray := by
      unfold HoldsK
      rw [flatK_flatG]
      exact holds_row hb h4'
    have hcmp : CmpLays Tryz.prog 47 #[] encG 2 cmpG g 0 l.toArray.size w := fun m os dk hs x y =>
      (cmpc_any x y _).mono fun e w' ⟨he, hw⟩ => ⟨he, 0, _, hw⟩
    have h := Tryz.slices_SortFunc 2 isAggF sizeF encG encG_len encG_one cmpG (by rw [lt_cmpG]; exact swo_G) 47 #[] g 0 cap l.toArray w (enters_of Tryz.func47 (by kernel_rfl) rfl) hcmp hH (Array.getElem?_eq_some_iff.1 hb).1 (by simp; omega)
    have e1 : l.toArray.size = l.length := by simp
    rw [e1] at h
    refine h.mono ?_
    rintro e w' ⟨rfl, d, n, os, hp, hs, rfl⟩
    have hsz : d.size = l.length := by rw [hp.1, e1]
    have hpl : d.toList.Perm l := by
      have := hp.2.2
      rw [show d.extract 0 l.length = d by rw [← hsz]; simp, show l.toArray.extract 0 l.length = l.toArray by rw [← e1]; simp] at this
      simpa using this
    have hdl : (flatG d.toList).length ≤ cur.size := by rw [flatG_len, h3, hpl.length_eq]; omega
    unfold sortWorldK putRowK
    have hfk : flatK encG 2 d = (flatG d.toList).toArray := by rw [← flatK_flatG]
    rw [hfk]
    refine ⟨rfl, d.toList, hpl, up_of (l := l) (by rw [hsz]; exact hs), ⟨by rw [flatG_len, hpl.length_eq], .inr ⟨g, cap, _, rfl, hbase, heap_putV _ hb, h1, h2, ?_, ?_⟩⟩, ?_⟩
    · simp [putCells, h3]
    · have := take_putV cur (flatG d.toList) hdl
      rw [flatG_len, hpl.length_eq] at this
      exact this
    · exact (chg_putV _).mono fun k _ hk => by subst hk; rfl
end Go.Proofs.YtaijhebjjbcdfaaGreatDoor
