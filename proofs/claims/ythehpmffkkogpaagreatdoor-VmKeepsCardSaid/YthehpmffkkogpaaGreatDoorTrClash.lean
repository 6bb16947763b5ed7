/- Files sorted by their paths: the contract of the sort, and of the copy. No condition. -/
import Derived.Test.YthehpmffkkogpaaGreatDoorTrMem
import Derived.Test.YthehpmffkkogpaaGreatDoorShelf2
import Derived.Sort.Grow
import Derived.LoopN
import Derived.Shelf.SlSortCmp.WholeK
import Derived.Test.YthehpmffkkogpaaGreatDoorNdLib
namespace Go.Proofs.YthehpmffkkogpaaGreatDoor
set_option linter.unusedVariables false
open Go.ChangeShapes Go.WideShapes Go.ChangeAt Go.RowKit Go.Sort
def encF (x : FileL) : List Value := [.string (tx x.1), .string (tx x.2)]
theorem encF_len (x : FileL) : (encF x).length = 2 := rfl
theorem encF_one (x : FileL) : ∀ v ∈ encF x, v.oneCell' = true := one2 _ _
theorem flatP_len (l : List FileL) : (flatP l).length = l.length * 2 := by
  induction l with
  | nil => rfl
  | cons x r ih => rw [flatP, List.length_cons, List.length_cons, ih, List.length_cons]; omega
theorem flatP_one (l : List FileL) : ∀ v ∈ flatP l, v.oneCell' = true := by
  induction l with
  | nil => intro v h; cases h
  | cons x r ih =>
    intro v h
    rw [flatP] at h
    rcases List.mem_cons.1 h with rfl | h
    · rfl
    · rcases List.mem_cons.1 h with rfl | h
      · rfl
      · exact ih v h
theorem flatK_flatP (l : List FileL) : flatK encF 2 l.toArray = (flatP l).toArray := by
  apply Array.ext
  · simp [flatP_len]
  · intro t h1 h2
    have ht : t < l.length * 2 := by simpa using h1
    have hd : t / 2 < l.length := by omega
    have hg := get_flatK encF 2 l.toArray t (by simpa using ht)
    rw [getElem!_pos (flatK encF 2 l.toArray) t h1] at hg
    rw [hg]
    have e1 : l.toArray[t / 2]! = l[t / 2] := by rw [getElem!_pos l.toArray (t / 2) (by simpa using hd)]; simp
    rw [e1]
    obtain ⟨g0, g1⟩ := flatP_at l (t / 2) hd
    have hlt : t < (flatP l).length := by rw [flatP_len]; exact ht
    have e3 : (flatP l).toArray[t] = (flatP l)[t] := by simp
    rw [e3]
    rcases Nat.mod_two_eq_zero_or_one t with hm | hm
    · have e2 : t / 2 * 2 = t := by omega
      rw [e2, List.getElem?_eq_getElem hlt] at g0
      rw [hm, Option.some.inj g0]
      rfl
    · have e2 : t / 2 * 2 + 1 = t := by omega
      rw [e2, List.getElem?_eq_getElem hlt] at g1
      rw [hm, Option.some.inj g1]
      rfl
/- a row of cells, sorted where it stands -/
theorem heap_putV {w : World} {g n : Nat} {os : Array Obj} {cur : Array Value} {e : TypeId} {fr : Nat × Nat} (F : Array Value) (hb : w.heap[g]? = some (.cells cur e fr)) :
    (grow (putRow id (Sort.ahead w n) g 0 F) os).heap[g]? = some (.cells (putCells id 0 F cur) e fr) := by
  have hg : g < w.heap.size := (Array.getElem?_eq_some_iff.1 hb).1
  rw [heap_grow_old _ _ (by simpa using hg)]
  simp [putRow, mapBlock, Sort.ahead, Array.getElem?_modify, hb, onCells]
theorem chg_putV {w : World} {g n : Nat} {os : Array Obj} (F : Array Value) : Chg (fun k => k = g) w (grow (putRow id (Sort.ahead w n) g 0 F) os) := by
  refine ⟨rfl, rfl, rfl, by simp, fun k hk hne => ?_⟩
  rw [heap_grow_old _ _ (by simpa using hk)]
  have : g ≠ k := fun e => hne e.symm
  simp [putRow, mapBlock, Sort.ahead, Array.getElem?_modify, this]
theorem take_putV (cur : Array Value) (ts : List Value) (h : ts.length ≤ cur.size) : (putCells id 0 ts.toArray cur).toList.take ts.length = ts := by
  apply List.ext_getElem?
  intro j
  by_cases hj : j < ts.length
  · rw [List.getElem?_take_of_lt hj, Array.getElem?_toList]
    simp [putCells, hj, show j < cur.size by omega]
  · rw [List.getElem?_take_eq_none (by omega), List.getElem?_eq_none (by omega)]
theorem holds_row {w : World} {g : Nat} {cur : Array Value} {e : TypeId} {xs : List Value} (hb : w.heap[g]? = some (.cells cur e (0, 0))) (ht : cur.toList.take xs.length = xs) : Holds id w g 0 xs.toArray := by
  intro j hj
  have hj' : j < xs.length := by simpa using hj
  refine ⟨?_, by simp [World.frozen?, hb]⟩
  have h1 : (cur.toList.take xs.length)[j]? = xs[j]? := by rw [ht]
  rw [List.getElem?_take_of_lt hj'] at h1
  simp only [World.cell?, hb, Nat.zero_add]
  simp only [Option.isSome_none, Bool.false_eq_true, if_false]
  rw [← Array.getElem?_toList, h1]
  simp [hj']
theorem swo_bl : SWO (fun x y : FileL => bl x.1 y.1) := ⟨fun x => bl_irr _, fun x y z => bl_trans, fun x y z => bl_ntrans⟩
def cmpF (x y : FileL) : Int := Lib.compareBytes x.1 y.1
theorem lt_cmpF : ltOf cmpF = fun x y => bl x.1 y.1 := by
  funext x y
  exact cmp_bl x.1 y.1
theorem strCompare_any (a b : List UInt8) (w : World) : Calls Tryz.prog 63 #[.string (tx a), .string (tx b)] w fun e w' => e = .returned (.int .i64 (Lib.compareBytes a b)) ∧ w' = w := by
  have h := Tryz.strings_Compare (tx a) (tx b) w
  rw [tx_list, tx_list] at h
  exact h
theorem cmpc_any (x y : FileL) (w : World) : Calls Tryz.prog 62 #[.agg (encF x).toArray, .agg (encF y).toArray] w fun e w' => e = .returned (.int .i64 (cmpF x y)) ∧ w' = grow w #[.cells #[.string (tx x.1), .string (tx x.2)] 43, .cells #[.string (tx y.1), .string (tx y.2)] 43] := by
  obtain ⟨x1, x2⟩ := x
  obtain ⟨y1, y2⟩ := y
  have hc := fun w' => strCompare_any x1 y1 w'
  have hb1 := heap_alloc_new w (.cells #[.string (tx x1), .string (tx x2)] 43)
  have hal1 := (Chg.refl NoB w).alloc (.cells #[.string (tx x1), .string (tx x2)] 43)
  have hs1 := aSize w (.cells #[.string (tx x1), .string (tx x2)] 43)
  have hg : (w.alloc (.cells #[.string (tx x1), .string (tx x2)] 43)).alloc (.cells #[.string (tx y1), .string (tx y2)] 43) = grow w #[.cells #[.string (tx x1), .string (tx x2)] 43, .cells #[.string (tx y1), .string (tx y2)] 43] := by
    unfold grow World.alloc
    congr 1
  obtain ⟨w1, hw1⟩ : ∃ w1, w.alloc (.cells #[.string (tx x1), .string (tx x2)] 43) = w1 := ⟨_, rfl⟩
  rw [hw1] at hb1 hal1 hs1 hg
  have hb2 := heap_alloc_new w1 (.cells #[.string (tx y1), .string (tx y2)] 43)
  have hal2 := (Chg.refl NoB w1).alloc (.cells #[.string (tx y1), .string (tx y2)] 43)
  rw [hs1] at hb2
  have hk1 := row_kept hal2 hb1 id
  rw [hg] at hb2 hk1
  have Hw1 := Lib.hid hw1
  have Hg := Lib.hid hg
  have Hs1 := Lib.hid hs1
  unfold encF cmpF
  obtain ⟨r, hr⟩ : ∃ r, r = Lib.compareBytes x1 y1 := ⟨_, rfl⟩
  rw [← hr] at hc
  have Hc := Lib.hid hc
  show Calls _ _ _ _ fun e w' => e = .returned (.int .i64 (Lib.compareBytes x1 y1)) ∧ _
  rw [← hr]
  clear hb1 hal1 hs1 hg hw1 hal2 hr hc
  go_enter Tryz.func62, Tryz.ntmps62
  go_upto_region 1 with fail
  rw [Hw1.out, Hg.out]
  obtain ⟨f0, f1⟩ := var2 hk1
  obtain ⟨g0, g1⟩ := var2 hb2
  clear hk1 hb2
  go_wp2_with fail
  refine (Hc.out _).mono ?_
  rintro e w' ⟨rfl, rfl⟩
  go_wp2_with fail
  go_ret
  exact ⟨rfl, rfl⟩
theorem isAggF (w : World) : (isAgg 43).run Tryz.prog w = .ok true w := by kernel_rfl
theorem sizeF (w : World) : (Go.sizeOf 43).run Tryz.prog w = .ok 2 w := by kernel_rfl
/- nothing to sort -/
theorem insNone (p : Option Addr) (cap : Nat) (fv : Value) (w : World) : Calls Tryz.prog 110 #[.slice p 0 cap, .int .i64 0, .int .i64 0, fv] w fun e w' => e = .returned (.tuple #[]) ∧ w' = w := by
  go_enter Tryz.func110, Tryz.ntmps110
  go_wp2
  refine wp_loop_rounds 1 ?_
  rw [rounds_succ]
  go_wp2
  go_end0
  exact ⟨rfl, rfl⟩
theorem pdqNone (p : Option Addr) (cap : Nat) (lim : Int) (fv : Value) (w : World) : Calls Tryz.prog 77 #[.slice p 0 cap, .int .i64 0, .int .i64 0, .int .i64 lim, fv] w fun e w' => e = .returned (.tuple #[]) ∧ w' = w := by
  have hi := fun W => insNone p cap fv W
  go_enter Tryz.func77, Tryz.ntmps77
  go_wp2
  refine wp_loop_rounds 1 ?_
  rw [rounds_succ]
  go_wp2_with (go_at_call 110; refine (hi _).mono ?_; rintro e w' ⟨rfl, rfl⟩)
  (try simp only [Exit.inBlock, Exit.then])
  refine bodyPost_ret (results_none rfl _ _ _) rfl ?_
  exact ⟨rfl, rfl⟩
theorem sortNone (p : Option Addr) (cap : Nat) (fv : Value) (w : World) : Calls Tryz.prog 61 #[.slice p 0 cap, fv] w fun e w' => e = .returned (.tuple #[]) ∧ w' = w := by
  have hp := fun lim W => pdqNone p cap lim fv W
  have hl : ∀ W, Calls Tryz.prog 78 #[.int .u64 0] W fun e w' => e = .returned (.int .i64 (Lib.bitLen 0 : Nat)) ∧ w' = W := fun W => by
    have h := Tryz.bits_Len 0 W (by omega) (by omega)
    exact h
  go_enter Tryz.func61, Tryz.ntmps61
  go_wp2_with (first | (go_at_call 78; refine (hl _).mono ?_; rintro e w' ⟨rfl, rfl⟩) | (go_at_call 77; refine (hp _ _).mono ?_; rintro e w' ⟨rfl, rfl⟩))
  go_end0
  exact ⟨rfl, rfl⟩
def SortP (l : List FileL) (base : Nat) (v : Value) (w : World) (e : Ending) (w' : World) : Prop := e = .returned (.tuple #[]) ∧ ∃ d : List FileL, d.Perm l ∧ Up d ∧ w'.ownsRow base 43 2 v l.length (flatP d) ∧ Chg (fun k => v.ownBlock = some k) w w'
theorem up_of {l : List FileL} {d : Array FileL} (hs : SortedIn (ltOf cmpF) 0 d.size d) : Up d.toList := by
  intro i j h1 h2
  rw [lt_cmpF] at hs
  have h2' : j < d.size := by simpa using h2
  have := hs i j (Nat.zero_le _) h1 h2'
  rw [getElem!_pos d j h2', getElem!_pos d i (by omega)] at this
  simpa using this
theorem sort_any (l : List FileL) (base : Nat) (v : Value) (w : World) (hrow : w.ownsRow base 43 2 v l.length (flatP l)) (hl : l.length ≤ 1048576) :
    Calls Tryz.prog 61 #[v, .func (.func 62) #[] #[]] w (SortP l base v w) := by
  rcases hrow.2 with ⟨rfl, h0⟩ | ⟨g, cap, cur, rfl, hbase, hb, h1, h2, h3, h4⟩
  · obtain rfl := List.eq_nil_of_length_eq_zero h0
    refine (sortNone none 0 _ w).mono ?_
    rintro e w' ⟨rfl, rfl⟩
    exact ⟨rfl, [], List.Perm.refl _, fun i j h1 h2 => by simp at h2, hrow, Chg.refl _ _⟩
  · have h4' : cur.toList.take (flatP l).length = flatP l := by rw [flatP_len]; exact h4
    have hH : HoldsK encF 2 w g 0 l.toArray := by
      unfold HoldsK
      rw [flatK_flatP]
      exact holds_row hb h4'
    have hcmp : CmpLays Tryz.prog 62 #[] encF 2 cmpF g 0 l.toArray.size w := fun m os dk hs x y =>
      (cmpc_any x y _).mono fun e w' ⟨he, hw⟩ => ⟨he, 0, _, hw⟩
    have h := Tryz.slices_SortFunc 2 isAggF sizeF encF encF_len encF_one cmpF (by rw [lt_cmpF]; exact swo_bl) 62 #[] g 0 cap l.toArray w (enters_of Tryz.func62 (by kernel_rfl) rfl) hcmp hH (Array.getElem?_eq_some_iff.1 hb).1 (by simp; omega)
    have e1 : l.toArray.size = l.length := by simp
    rw [e1] at h
    refine h.mono ?_
    rintro e w' ⟨rfl, d, n, os, hp, hs, rfl⟩
    have hsz : d.size = l.length := by rw [hp.1, e1]
    have hpl : d.toList.Perm l := by
      have := hp.2.2
      rw [show d.extract 0 l.length = d by rw [← hsz]; simp, show l.toArray.extract 0 l.length = l.toArray by rw [← e1]; simp] at this
      simpa using this
    have hdl : (flatP d.toList).length ≤ cur.size := by rw [flatP_len, h3, hpl.length_eq]; omega
    unfold sortWorldK putRowK
    have hfk : flatK encF 2 d = (flatP d.toList).toArray := by rw [← flatK_flatP]
    rw [hfk]
    refine ⟨rfl, d.toList, hpl, up_of (l := l) (by rw [hsz]; exact hs), ⟨by rw [flatP_len, hpl.length_eq], .inr ⟨g, cap, _, rfl, hbase, heap_putV _ hb, h1, h2, ?_, ?_⟩⟩, ?_⟩
    · simp [putCells, h3]
    · have := take_putV cur (flatP d.toList) hdl
      rw [flatP_len, hpl.length_eq] at this
      exact this
    · exact (chg_putV _).mono fun k _ hk => by subst hk; rfl
end Go.Proofs.YthehpmffkkogpaaGreatDoor
namespace Go.Proofs.YthehpmffkkogpaaGreatDoor
set_option linter.unusedVariables false
open Go.ChangeShapes Go.WideShapes Go.ChangeAt Go.RowKit
abbrev FB := {f : FileL // f.1.length ≤ 1048576}
instance : Inhabited FB := ⟨⟨([], []), Nat.zero_le _⟩⟩
def encB (x : FB) : List Value := encF x.1
theorem encB_len (x : FB) : (encB x).length = 2 := rfl
theorem isAggB (w : World) : (isAgg 43).run Tryz.prog w = .ok true w := by kernel_rfl
theorem indexNone (q : Option Addr) (c : Nat) (fv : Value) (w : World) : Calls Tryz.prog 84 #[.slice q 0 c, fv] w fun e w' => e = .returned (.int .i64 (-1)) ∧ w' = w := by
  go_enter Tryz.func84, Tryz.ntmps84
  go_wp2
  refine wp_loop_rounds 1 ?_
  rw [rounds_succ]
  go_wp2
  go_ret
  exact ⟨rfl, rfl⟩
theorem containsNone (q : Option Addr) (c : Nat) (fv : Value) (w : World) : Calls Tryz.prog 80 #[.slice q 0 c, fv] w fun e w' => e = .returned (.bool false) ∧ w' = w := by
  have hi := fun W => indexNone q c fv W
  go_enter Tryz.func80, Tryz.ntmps80
  go_wp2_with fail
  refine (hi _).mono ?_
  rintro e w' ⟨rfl, rfl⟩
  go_wp2_with fail
  go_ret
  exact ⟨rfl, rfl⟩
theorem containsF_any (g : Nat) (lb : Array Value) (eg : ∀ args w, (callFunc g args).run Tryz.prog w = .ok (.enter g args) w) (p : FileL → Bool) (xs : List FileL) (S : Nat → Prop) (v : Value) (kb ko : Nat) (w : World) (hl : xs.length ≤ 1048576) (hw : ∀ x ∈ xs, x.1.length ≤ 1048576) (hs : InpS w S v xs kb ko)
    (hp : ∀ (W : World) (x : FileL), x.1.length ≤ 1048576 → Below w.heap.size w W → Calls Tryz.prog g (#[.agg #[.string (tx x.1), .string (tx x.2)]] ++ lb) W fun e w' => e = .returned (.bool (p x)) ∧ Below w.heap.size w w') :
    Calls Tryz.prog 80 #[v, .func (.func g) #[] lb] w (SayB (xs.any p) w) := by
  obtain ⟨⟨q, c, rfl, h1, h2, h3⟩, hat⟩ := hs
  by_cases hn : xs = []
  · subst hn
    refine (containsNone q c _ w).mono ?_
    rintro e w' ⟨rfl, rfl⟩
    exact ⟨rfl, Chg.refl _ _⟩
  · obtain ⟨rfl, -⟩ := h3 hn
    obtain ⟨zs, hzs⟩ : ∃ zs : List FB, zs.map (·.1) = xs := ⟨xs.pmap (fun x h => (⟨x, h⟩ : FB)) hw, by rw [List.map_pmap]; simp⟩
    have hzl : zs.length = xs.length := by rw [← hzs]; simp
    have hzi : ∀ j (hj : j < zs.length), zs[j].1 = xs[j]'(by omega) := fun j hj => by simp [← hzs]
    have hpos : 0 < xs.length := List.length_pos_iff.2 hn
    have hkb : kb < w.heap.size := World.block_lt_of_cell? w _ (hat 0 hpos).1
    have h := Tryz.slices_ContainsFunc 2 isAggB sizeF encB encB_len (fun x => p x.1) g lb eg kb ko xs.length c zs w
      (fun W x hb => hp W x.1 x.2 hb) (by omega) (by omega) hkb (fun j hj i u hu => by
        rw [getElem!_pos zs j hj] at hu
        unfold encB encF at hu
        rw [hzi j hj] at hu
        obtain ⟨c0, c1⟩ := hat j (by omega)
        match i, hu with
        | 0, hu => cases hu; simpa using c0
        | 1, hu => cases hu; exact c1)
    refine h.mono ?_
    rintro e w' ⟨rfl, hb⟩
    refine ⟨?_, chg_of_below hb⟩
    rw [List.take_of_length_le (by omega), ← hzs, List.any_map]
    rfl
theorem hasPre_any (l m : List UInt8) (w : World) : Calls Tryz.prog 83 #[.string (tx l), .string (tx m)] w fun e w' => e = .returned (.bool (m.isPrefixOf l)) ∧ w' = w := by
  have h := Tryz.strings_HasPrefix (tx l) (tx m) w
  rw [tx_list, tx_list] at h
  exact h
theorem tx_dir (l : List UInt8) : tx l ++ (⟨#[47]⟩ : ByteArray) = tx (dirL l) := by
  rw [← mk_bytes (tx l ++ (⟨#[47]⟩ : ByteArray)), ByteArray.data_append, Array.toList_append, tx_list]
  rfl
theorem clash2_any (g : FileL) (d : List UInt8) (db : Nat) (w : World) (hd : w.cell? ⟨db, 0, none⟩ = some (.string (tx d))) : Calls Tryz.prog 82 #[.agg #[.string (tx g.1), .string (tx g.2)], .pointer (some ⟨db, 0, none⟩)] w (SayB (d.isPrefixOf g.1) w) := by
  obtain ⟨g1, g2⟩ := g
  have hal := (Chg.refl NoB w).alloc (.cells #[.string (tx g1), .string (tx g2)] 43)
  have hb := heap_alloc_new w (.cells #[.string (tx g1), .string (tx g2)] 43)
  have hd2 := hal.keep hd
  obtain ⟨r, hr⟩ : ∃ r, r = d.isPrefixOf g1 := ⟨_, rfl⟩
  have hp := fun w' => hasPre_any g1 d w'
  rw [← hr] at hp
  show Calls _ _ _ _ (SayB (d.isPrefixOf g1) w)
  rw [← hr]
  have Hp := Lib.hid hp
  have Hal := Lib.hid hal
  obtain ⟨f0, f1⟩ := var2 hb
  clear hr hp hb hal hd
  go_enter Tryz.func82, Tryz.ntmps82
  go_wp2_with fail
  refine (Hp.out _).mono ?_
  rintro e w' ⟨rfl, rfl⟩
  go_wp2_with fail
  go_ret
  exact ⟨rfl, Hal.out⟩
def clashAt (xs : List FileL) (f : FileL) : Bool := xs.any fun g => aheadL f.1 g.1
set_option maxHeartbeats 1000000 in
theorem clash1_any (f : FileL) (hf : f.1.length ≤ 1048576) (xs : List FileL) (S : Nat → Prop) (v : Value) (kb ko fb : Nat) (w : World) (hl : xs.length ≤ 1048576) (hw : ∀ x ∈ xs, x.1.length ≤ 1048576) (hs : InpS w S v xs kb ko) (hfb : w.cell? ⟨fb, 0, none⟩ = some v) :
    Calls Tryz.prog 81 #[.agg #[.string (tx f.1), .string (tx f.2)], .pointer (some ⟨fb, 0, none⟩)] w (SayB (clashAt xs f) w) := by
  obtain ⟨f1, f2⟩ := f
  change f1.length ≤ 1048576 at hf
  obtain ⟨r, hr⟩ : ∃ r, r = clashAt xs (f1, f2) := ⟨_, rfl⟩
  have hal := (Chg.refl NoB w).alloc (.cells #[.string (tx f1), .string (tx f2)] 43)
  have hb := heap_alloc_new w (.cells #[.string (tx f1), .string (tx f2)] 43)
  have hs1 := aSize w (.cells #[.string (tx f1), .string (tx f2)] 43)
  obtain ⟨w1, hw1⟩ : ∃ w1, w.alloc (.cells #[.string (tx f1), .string (tx f2)] 43) = w1 := ⟨_, rfl⟩
  obtain ⟨xb, hxb⟩ : ∃ b, b = w.heap.size := ⟨_, rfl⟩
  rw [hw1] at hal hb hs1
  rw [← hxb] at hb hs1
  have hal2 := (Chg.refl NoB w1).alloc (.cells #[.string (tx (dirL f1))] 9)
  have hb2 := heap_alloc_new w1 (.cells #[.string (tx (dirL f1))] 9)
  rw [hs1] at hb2
  have htx := tx_dir f1
  have hlt : (tx f1).size ≤ 1048576 := by rw [tx_size]; exact hf
  have hal3 := hal.trans hal2
  obtain ⟨w2, hw2⟩ : ∃ w2, w1.alloc (.cells #[.string (tx (dirL f1))] 9) = w2 := ⟨_, rfl⟩
  rw [hw2] at hal2 hb2 hal3
  have hc : ∀ w', Chg NoB w2 w' → Calls Tryz.prog 80 #[v, .func (.func 82) #[] #[.pointer (some ⟨xb + 1, 0, none⟩)]] w' (SayB r w') := fun w' h => by
    have hd := (var1 (row_kept h hb2 id))
    rw [hr]
    exact containsF_any 82 #[.pointer (some ⟨xb + 1, 0, none⟩)] (enters_of Tryz.func82 (by kernel_rfl) rfl) (fun g => aheadL f1 g.1) xs S v kb ko w' hl hw (hs.keep (hal3.trans h) fun _ _ => id)
      (fun W x hx hB => (clash2_any x (dirL f1) (xb + 1) W ((chg_of_below hB).keep hd)).mono fun e w'' ⟨he, hcg⟩ => ⟨he, (((chg_of_below hB).trans hcg)).below⟩)
  have hfb2 := hal3.keep hfb
  have hk := row_kept hal2 hb id
  have Hw1 := Lib.hid hw1
  have Hw2 := Lib.hid hw2
  have Hxb := Lib.hid hxb
  have Hs1 := Lib.hid hs1
  have Hc := Lib.hid hc
  have Hal := Lib.hid hal3
  have Hb := Lib.hid hb
  have Hfb := Lib.hid hfb2
  have Htx := Lib.hid htx
  rw [← hr]
  clear hw1 hw2 hxb hc hal3 hb2 hal hal2 hs1 hr hs hfb hfb2 hk hb htx hl hw
  go_enter Tryz.func81, Tryz.ntmps81
  go_upto_region 1 with fail
  rw [Hw1.out, ← Hxb.out]
  obtain ⟨f0, f1'⟩ := var2 Hb.out
  go_upto_region 2 with fail
  rw [Htx.out, Hw2.out, Hs1.out]
  have g0 := Hfb.out
  clear f0 f1'
  go_wp2_with fail
  refine (Hc.out w2 (Chg.refl _ _)).mono ?_
  rintro e w' ⟨rfl, hcg⟩
  go_wp2_with fail
  go_ret
  exact ⟨rfl, Hal.out.trans hcg⟩
theorem clash_any (xs : List FileL) (S : Nat → Prop) (v : Value) (kb ko : Nat) (w : World) (hl : xs.length ≤ 1048576) (hw : ∀ x ∈ xs, x.1.length ≤ 1048576) (hs : InpS w S v xs kb ko) :
    Calls Tryz.prog 65 #[v] w (SayB (clashF xs) w) := by
  have hal := (Chg.refl NoB w).alloc (.cells #[v] 23)
  have hb := heap_alloc_new w (.cells #[v] 23)
  obtain ⟨fb, hfb⟩ : ∃ b, b = w.heap.size := ⟨_, rfl⟩
  obtain ⟨w1, hw1⟩ : ∃ w1, w.alloc (.cells #[v] 23) = w1 := ⟨_, rfl⟩
  rw [hw1] at hal hb
  rw [← hfb] at hb
  obtain ⟨r, hr⟩ : ∃ r, r = clashF xs := ⟨_, rfl⟩
  have hc : Calls Tryz.prog 80 #[v, .func (.func 81) #[] #[.pointer (some ⟨fb, 0, none⟩)]] w1 (SayB r w1) := by
    rw [hr]
    exact containsF_any 81 #[.pointer (some ⟨fb, 0, none⟩)] (enters_of Tryz.func81 (by kernel_rfl) rfl) (clashAt xs) xs S v kb ko w1 hl hw (hs.keep hal fun _ _ => id)
      (fun W x hx hB => (clash1_any x hx xs S v kb ko fb W hl hw (hs.keep (hal.trans (chg_of_below hB)) fun _ _ => id) ((chg_of_below hB).keep (var1 hb))).mono fun e w'' ⟨he, hcg⟩ => ⟨he, ((chg_of_below hB).trans hcg).below⟩)
  obtain ⟨⟨q, c, rfl, -, -, -⟩, -⟩ := hs
  rw [← hr]
  have Hw1 := Lib.hid hw1
  have Hfb := Lib.hid hfb
  have Hc := Lib.hid hc
  have Hal := Lib.hid hal
  have g0 := var1 hb
  obtain ⟨n, hn⟩ : ∃ n, n = xs.length := ⟨_, rfl⟩
  rw [← hn] at Hc g0 Hw1 ⊢
  clear hw1 hfb hc hal hb hr hl hw hn
  go_enter Tryz.func65, Tryz.ntmps65
  go_upto_region 1 with fail
  rw [Hw1.out, ← Hfb.out]
  go_wp2_with fail
  refine Hc.out.mono ?_
  rintro e w' ⟨rfl, hcg⟩
  go_wp2_with fail
  go_ret
  exact ⟨rfl, Hal.out.trans hcg⟩
end Go.Proofs.YthehpmffkkogpaaGreatDoor
