/- Whether a file's path stands ahead of a stroke in another one's: the contract of clash, and of a search of files. No condition but on lengths. -/
import Derived.Test.YtilkcjcmcnlfnaaGreatDoorTrSort
import Derived.Test.YtilkcjcmcnlfnaaGreatDoorNdLib
namespace Go.Proofs.YtilkcjcmcnlfnaaGreatDoor
set_option linter.unusedVariables false
open Go.ChangeShapes Go.WideShapes Go.ChangeAt Go.RowKit
abbrev FB := {f : FileL // f.1.length ≤ 1048576}
instance : Inhabited FB := ⟨⟨([], []), Nat.zero_le _⟩⟩
def encB (x : FB) : List Value := encF x.1
theorem encB_len (x : FB) : (encB x).length = 2 := rfl
theorem isAggB (w : World) : (isAgg 33).run Tryz.prog w = .ok true w := by kernel_rfl
theorem indexNone (q : Option Addr) (c : Nat) (fv : Value) (w : World) : Calls Tryz.prog 51 #[.slice q 0 c, fv] w fun e w' => e = .returned (.int .i64 (-1)) ∧ w' = w := by
  go_enter Tryz.func51, Tryz.ntmps51
  go_wp2
  refine wp_loop_rounds 1 ?_
  rw [rounds_succ]
  go_wp2
  go_ret
  exact ⟨rfl, rfl⟩
theorem containsNone (q : Option Addr) (c : Nat) (fv : Value) (w : World) : Calls Tryz.prog 70 #[.slice q 0 c, fv] w fun e w' => e = .returned (.bool false) ∧ w' = w := by
  have hi := fun W => indexNone q c fv W
  go_enter Tryz.func70, Tryz.ntmps70
  go_wp2_with fail
  refine (hi _).mono ?_
  rintro e w' ⟨rfl, rfl⟩
  go_wp2_with fail
  go_ret
  exact ⟨rfl, rfl⟩
theorem containsF_any (g : Nat) (lb : Array Value) (eg : ∀ args w, (callFunc g args).run Tryz.prog w = .ok (.enter g args) w) (p : FileL → Bool) (xs : List FileL) (S : Nat → Prop) (v : Value) (kb ko : Nat) (w : World) (hl : xs.length ≤ 1048576) (hw : ∀ x ∈ xs, x.1.length ≤ 1048576) (hs : InpS w S v xs kb ko)
    (hp : ∀ (W : World) (x : FileL), x.1.length ≤ 1048576 → Below w.heap.size w W → Calls Tryz.prog g (#[.agg #[.string (tx x.1), .string (tx x.2)]] ++ lb) W fun e w' => e = .returned (.bool (p x)) ∧ Below w.heap.size w w') :
    Calls Tryz.prog 70 #[v, .func (.func g) #[] lb] w (SayB (xs.any p) w) := by
  obtain ⟨⟨q, c, rfl, h1, h2, h3⟩, hat⟩ := hs
  by_cases hn : xs = []
  · subst hn
    refine (containsNone q c _ w).mono ?_
    rintro e w' ⟨rfl, rfl⟩
    exact ⟨rfl, Chg.refl _ _⟩
  · obtain ⟨rfl, -⟩ := h3 hn
    obtain ⟨zs, hzs⟩ : ∃ zs : List FB, zs.map (·.1) = xs := ⟨xs.pmap (fun x h => (⟨x, h⟩ : FB)) hw, by rw [List.map_pmap]; simp⟩
    have hzl : zs.length = xs.length := by rw [← hzs]; simp
    have hzi : ∀ j (hj : j < zs.length), zs[j].1 = xs[j]'(by omega) := fun j hj => by simp [← hzs]
    have hpos : 0 < xs.length := List.length_pos_iff.2 hn
    have hkb : kb < w.heap.size := World.block_lt_of_cell? w _ (hat 0 hpos).1
    have h := Tryz.slices_ContainsFunc 2 isAggB sizeF encB encB_len (fun x => p x.1) g lb eg kb ko xs.length c zs w
      (fun W x hb => hp W x.1 x.2 hb) (by omega) (by omega) hkb (fun j hj i u hu => by
        rw [getElem!_pos zs j hj] at hu
        unfold encB encF at hu
        rw [hzi j hj] at hu
        obtain ⟨c0, c1⟩ := hat j (by omega)
        match i, hu with
        | 0, hu => cases hu; simpa using c0
        | 1, hu => cases hu; exact c1)
    refine h.mono ?_
    rintro e w' ⟨rfl, hb⟩
    refine ⟨?_, chg_of_below hb⟩
    rw [List.take_of_length_le (by omega), ← hzs, List.any_map]
    rfl
theorem hasPre_any (l m : List UInt8) (w : World) : Calls Tryz.prog 73 #[.string (tx l), .string (tx m)] w fun e w' => e = .returned (.bool (m.isPrefixOf l)) ∧ w' = w := by
  have h := Tryz.strings_HasPrefix (tx l) (tx m) w
  rw [tx_list, tx_list] at h
  exact h
theorem tx_dir (l : List UInt8) : tx l ++ (⟨#[47]⟩ : ByteArray) = tx (dirL l) := by
  rw [← mk_bytes (tx l ++ (⟨#[47]⟩ : ByteArray)), ByteArray.data_append, Array.toList_append, tx_list]
  rfl
theorem clash2_any (g : FileL) (d : List UInt8) (db : Nat) (w : World) (hd : w.cell? ⟨db, 0, none⟩ = some (.string (tx d))) : Calls Tryz.prog 72 #[.agg #[.string (tx g.1), .string (tx g.2)], .pointer (some ⟨db, 0, none⟩)] w (SayB (d.isPrefixOf g.1) w) := by
  obtain ⟨g1, g2⟩ := g
  have hal := (Chg.refl NoB w).alloc (.cells #[.string (tx g1), .string (tx g2)] 33)
  have hb := heap_alloc_new w (.cells #[.string (tx g1), .string (tx g2)] 33)
  have hd2 := hal.keep hd
  obtain ⟨r, hr⟩ : ∃ r, r = d.isPrefixOf g1 := ⟨_, rfl⟩
  have hp := fun w' => hasPre_any g1 d w'
  rw [← hr] at hp
  show Calls _ _ _ _ (SayB (d.isPrefixOf g1) w)
  rw [← hr]
  have Hp := Lib.hid hp
  have Hal := Lib.hid hal
  obtain ⟨f0, f1⟩ := var2 hb
  clear hr hp hb hal hd
  go_enter Tryz.func72, Tryz.ntmps72
  go_wp2_with fail
  refine (Hp.out _).mono ?_
  rintro e w' ⟨rfl, rfl⟩
  go_wp2_with fail
  go_ret
  exact ⟨rfl, Hal.out⟩
def clashAt (xs : List FileL) (f : FileL) : Bool := xs.any fun g => aheadL f.1 g.1
set_option maxHeartbeats 1000000 in
theorem clash1_any (f : FileL) (hf : f.1.length ≤ 1048576) (xs : List FileL) (S : Nat → Prop) (v : Value) (kb ko fb : Nat) (w : World) (hl : xs.length ≤ 1048576) (hw : ∀ x ∈ xs, x.1.length ≤ 1048576) (hs : InpS w S v xs kb ko) (hfb : w.cell? ⟨fb, 0, none⟩ = some v) :
    Calls Tryz.prog 71 #[.agg #[.string (tx f.1), .string (tx f.2)], .pointer (some ⟨fb, 0, none⟩)] w (SayB (clashAt xs f) w) := by
  obtain ⟨f1, f2⟩ := f
  change f1.length ≤ 1048576 at hf
  obtain ⟨r, hr⟩ : ∃ r, r = clashAt xs (f1, f2) := ⟨_, rfl⟩
  have hal := (Chg.refl NoB w).alloc (.cells #[.string (tx f1), .string (tx f2)] 33)
  have hb := heap_alloc_new w (.cells #[.string (tx f1), .string (tx f2)] 33)
  have hs1 := aSize w (.cells #[.string (tx f1), .string (tx f2)] 33)
  obtain ⟨w1, hw1⟩ : ∃ w1, w.alloc (.cells #[.string (tx f1), .string (tx f2)] 33) = w1 := ⟨_, rfl⟩
  obtain ⟨xb, hxb⟩ : ∃ b, b = w.heap.size := ⟨_, rfl⟩
  rw [hw1] at hal hb hs1
  rw [← hxb] at hb hs1
  have hal2 := (Chg.refl NoB w1).alloc (.cells #[.string (tx (dirL f1))] 9)
  have hb2 := heap_alloc_new w1 (.cells #[.string (tx (dirL f1))] 9)
  rw [hs1] at hb2
  have htx := tx_dir f1
  have hlt : (tx f1).size ≤ 1048576 := by rw [tx_size]; exact hf
  have hal3 := hal.trans hal2
  obtain ⟨w2, hw2⟩ : ∃ w2, w1.alloc (.cells #[.string (tx (dirL f1))] 9) = w2 := ⟨_, rfl⟩
  rw [hw2] at hal2 hb2 hal3
  have hc : ∀ w', Chg NoB w2 w' → Calls Tryz.prog 70 #[v, .func (.func 72) #[] #[.pointer (some ⟨xb + 1, 0, none⟩)]] w' (SayB r w') := fun w' h => by
    have hd := (var1 (row_kept h hb2 id))
    rw [hr]
    exact containsF_any 72 #[.pointer (some ⟨xb + 1, 0, none⟩)] (enters_of Tryz.func72 (by kernel_rfl) rfl) (fun g => aheadL f1 g.1) xs S v kb ko w' hl hw (hs.keep (hal3.trans h) fun _ _ => id)
      (fun W x hx hB => (clash2_any x (dirL f1) (xb + 1) W ((chg_of_below hB).keep hd)).mono fun e w'' ⟨he, hcg⟩ => ⟨he, (((chg_of_below hB).trans hcg)).below⟩)
  have hfb2 := hal3.keep hfb
  have hk := row_kept hal2 hb id
  have Hw1 := Lib.hid hw1
  have Hw2 := Lib.hid hw2
  have Hxb := Lib.hid hxb
  have Hs1 := Lib.hid hs1
  have Hc := Lib.hid hc
  have Hal := Lib.hid hal3
  have Hb := Lib.hid hb
  have Hfb := Lib.hid hfb2
  have Htx := Lib.hid htx
  rw [← hr]
  clear hw1 hw2 hxb hc hal3 hb2 hal hal2 hs1 hr hs hfb hfb2 hk hb htx hl hw
  go_enter Tryz.func71, Tryz.ntmps71
  go_upto_region 1 with fail
  rw [Hw1.out, ← Hxb.out]
  obtain ⟨f0, f1'⟩ := var2 Hb.out
  go_upto_region 2 with fail
  rw [Htx.out, Hw2.out, Hs1.out]
  have g0 := Hfb.out
  clear f0 f1'
  go_wp2_with fail
  refine (Hc.out w2 (Chg.refl _ _)).mono ?_
  rintro e w' ⟨rfl, hcg⟩
  go_wp2_with fail
  go_ret
  exact ⟨rfl, Hal.out.trans hcg⟩
theorem clash_any (xs : List FileL) (S : Nat → Prop) (v : Value) (kb ko : Nat) (w : World) (hl : xs.length ≤ 1048576) (hw : ∀ x ∈ xs, x.1.length ≤ 1048576) (hs : InpS w S v xs kb ko) :
    Calls Tryz.prog 38 #[v] w (SayB (clashF xs) w) := by
  have hal := (Chg.refl NoB w).alloc (.cells #[v] 22)
  have hb := heap_alloc_new w (.cells #[v] 22)
  obtain ⟨fb, hfb⟩ : ∃ b, b = w.heap.size := ⟨_, rfl⟩
  obtain ⟨w1, hw1⟩ : ∃ w1, w.alloc (.cells #[v] 22) = w1 := ⟨_, rfl⟩
  rw [hw1] at hal hb
  rw [← hfb] at hb
  obtain ⟨r, hr⟩ : ∃ r, r = clashF xs := ⟨_, rfl⟩
  have hc : Calls Tryz.prog 70 #[v, .func (.func 71) #[] #[.pointer (some ⟨fb, 0, none⟩)]] w1 (SayB r w1) := by
    rw [hr]
    exact containsF_any 71 #[.pointer (some ⟨fb, 0, none⟩)] (enters_of Tryz.func71 (by kernel_rfl) rfl) (clashAt xs) xs S v kb ko w1 hl hw (hs.keep hal fun _ _ => id)
      (fun W x hx hB => (clash1_any x hx xs S v kb ko fb W hl hw (hs.keep (hal.trans (chg_of_below hB)) fun _ _ => id) ((chg_of_below hB).keep (var1 hb))).mono fun e w'' ⟨he, hcg⟩ => ⟨he, ((chg_of_below hB).trans hcg).below⟩)
  obtain ⟨⟨q, c, rfl, -, -, -⟩, -⟩ := hs
  rw [← hr]
  have Hw1 := Lib.hid hw1
  have Hfb := Lib.hid hfb
  have Hc := Lib.hid hc
  have Hal := Lib.hid hal
  have g0 := var1 hb
  obtain ⟨n, hn⟩ : ∃ n, n = xs.length := ⟨_, rfl⟩
  rw [← hn] at Hc g0 Hw1 ⊢
  clear hw1 hfb hc hal hb hr hl hw hn
  go_enter Tryz.func38, Tryz.ntmps38
  go_upto_region 1 with fail
  rw [Hw1.out, ← Hfb.out]
  go_wp2_with fail
  refine Hc.out.mono ?_
  rintro e w' ⟨rfl, hcg⟩
  go_wp2_with fail
  go_ret
  exact ⟨rfl, Hal.out.trans hcg⟩
end Go.Proofs.YtilkcjcmcnlfnaaGreatDoor
