/- How much files weigh, of the statements; a tree as a node; the contract of the program's Encode. Conditions: at most 2^20 files, texts of at most 2^17 bytes; the list of powers reads as the program's text lays it; the library's own variable holds some number. -/
import Derived.Test.YtilkcjcmcnlfnaaGreatDoorTrEq
import Derived.Test.YtilkcjcmcnlfnaaGreatDoorKbRow
import Derived.Test.YtilkcjcmcnlfnaaGreatDoorSxListN
import Derived.Test.YtilkcjcmcnlfnaaGreatDoorApp
import Derived.Test.YtilkcjcmcnlfnaaGreatDoorDvEnc
import Derived.Test.YtilkcjcmcnlfnaaGreatDoorCdBackP
import Derived.Deep.RegionHeld3
import Derived.Deep.RegionLaw
namespace Go.Proofs.YtilkcjcmcnlfnaaGreatDoor
set_option linter.unusedVariables false
open Go.ChangeShapes Go.WideShapes Go.ChangeAt Go.RowKit
def sumI : List InL → Nat
  | [] => 0
  | x :: r => x.1.length + x.2.length + sumI r
theorem sumI_app (a b : List InL) : sumI (a ++ b) = sumI a + sumI b := by
  induction a with
  | nil => rw [sumI]; simp
  | cons k r ih => rw [List.cons_append, sumI, sumI, ih]; omega
theorem sumI_take (ps : List InL) (k : Nat) (h : k < ps.length) : sumI (ps.take (k + 1)) = sumI (ps.take k) + (ps[k].1.length + ps[k].2.length) := by
  rw [List.take_add_one, List.getElem?_eq_getElem h, sumI_app]
  simp [sumI]
theorem sumI_sub (ps : List InL) (k : Nat) : sumI (ps.take k) ≤ sumI ps := by
  have : sumI ps = sumI (ps.take k) + sumI (ps.drop k) := by rw [← sumI_app, List.take_append_drop]
  omega
theorem sumI_at (ps : List InL) (i : Nat) (hi : i < ps.length) : ps[i].1.length + ps[i].2.length ≤ sumI ps := by
  have h1 := sumI_take ps i hi
  have h2 := sumI_sub ps (i + 1)
  omega
def greatF (xs : List FileL) : Bool := decide (131072 < sumI xs) || decide (200 < xs.length)
theorem great_no {xs : List FileL} (h : greatF xs = false) : xs.length ≤ 200 ∧ ∀ x ∈ xs, x.1.length ≤ 131072 ∧ x.2.length ≤ 131072 := by
  unfold greatF at h
  simp only [Bool.or_eq_false_iff, decide_eq_false_iff_not] at h
  refine ⟨by omega, fun x hx => ?_⟩
  obtain ⟨i, hi, rfl⟩ := List.getElem_of_mem hx
  have := sumI_at xs i hi
  omega
set_option maxHeartbeats 2000000 in
set_option maxRecDepth 20000 in
theorem tgreat_any (xs : List FileL) (hwl : xs.length ≤ 140737488351232) (hwi : ∀ i (hi : i < xs.length), xs[i].1.length ≤ 140737488351232 ∧ xs[i].2.length ≤ 140737488351232) (S : Nat → Prop) (v : Value) (kb ko : Nat) (w : World) (hs : InpS w S v xs kb ko) :
    Calls Tryz.prog 10 #[v] w (SayB (greatF xs) w) := by
  obtain ⟨⟨q, c, rfl, h1, h2, h3⟩, hat⟩ := hs
  have H3 := Lib.hid h3
  have Hat := Lib.hid hat
  obtain ⟨r, hr⟩ : ∃ r, r = greatF xs := ⟨_, rfl⟩
  rw [← hr]
  unfold greatF at hr
  obtain ⟨len, hlen⟩ : ∃ l, l = xs.length := ⟨_, rfl⟩
  rw [← hlen] at h1 hwl hr ⊢
  have Hr := Lib.hid hr
  have Hlen := Lib.hid hlen
  have Hwi := Lib.hid hwi
  unfold maxLen at h2
  clear hr h3 hat hlen hwi
  go_enter Tryz.func10, Tryz.ntmps10
  go_wp2_with fail
  go_loopw [3, 8] (fun sv i wr => ∃ k m : Nat, k ≤ len ∧ m = sumI (xs.take k) ∧ m ≤ 131072 ∧ sv = .int .i64 m ∧ i = .int .i64 k ∧ Chg NoB w wr) (fun _ i _ => len - (intOf i).toNat)
  case atStart => exact ⟨0, 0, Nat.zero_le _, rfl, Nat.zero_le _, rfl, rfl, Chg.refl _ _⟩
  case round =>
    obtain ⟨k, m, hk, hm, hmc, rfl, rfl, hch⟩ := hrel
    have Hm := Lib.hid hm
    have Hch := Lib.hid hch
    clear hm hch
    by_cases hlt : k < len
    · have hlt' : k < xs.length := by rw [← Hlen.out]; exact hlt
      obtain ⟨rfl, -⟩ := H3.out (by intro e; rw [e] at hlt'; simp at hlt')
      obtain ⟨c0, c1⟩ := Hat.out k hlt'
      have c0 := Hch.out.keep c0
      have c1 := Hch.out.keep c1
      obtain ⟨hx1, hx2⟩ := Hwi.out k hlt'
      have htk := sumI_take xs k hlt'
      have hsub := sumI_sub xs (k + 1)
      generalize xs[k] = x at *
      obtain ⟨x, y⟩ := x
      simp only at c0 c1 hx1 hx2 htk
      obtain ⟨xl, hxl⟩ : ∃ n, n = x.length := ⟨_, rfl⟩
      obtain ⟨yl, hyl⟩ : ∃ n, n = y.length := ⟨_, rfl⟩
      have hsx : (tx x).size = xl := by rw [tx_size, hxl]
      have hsy : (tx y).size = yl := by rw [tx_size, hyl]
      rw [← hxl, ← hyl] at htk
      rw [← hxl] at hx1
      rw [← hyl] at hx2
      have htk2 : m + (xl + yl) = sumI (xs.take (k + 1)) := by rw [htk, Hm.out]
      have Htk := Lib.hid htk2
      have Hsub := Lib.hid hsub
      have hal := (Chg.refl NoB wr).alloc (.cells #[.string (tx x), .string (tx y)] 33)
      obtain ⟨g0, g1⟩ := var2 (heap_alloc_new wr (.cells #[.string (tx x), .string (tx y)] 33))
      have Hal2 := Lib.hid (Hch.out.trans hal)
      clear htk htk2 hsub hxl hyl hal
      by_cases hbig : 131072 < m + (xl + yl)
      · go_wp2_with fail
        go_ret
        refine ⟨congrArg (fun b => Ending.returned (Value.bool b)) ?_, Hal2.out⟩
        rw [Hr.out]
        rw [decide_eq_true (show 131072 < sumI xs by have := Htk.out; have := Hsub.out; omega)]
        rfl
      · go_wp2_with fail
        go_roundw
        case rel => exact ⟨k + 1, m + (xl + yl), by omega, Htk.out, by omega, by go_num, by go_num, Hal2.out⟩
        case measure => simp [intOf]; omega
    · obtain rfl : k = len := by omega
      have hrf : r = decide (200 < k) := by
        have h2 := Hm.out
        rw [Hlen.out, List.take_length] at h2
        rw [Hr.out, decide_eq_false (show ¬ 131072 < sumI xs by omega)]
        rfl
      have Hrf := Lib.hid hrf
      clear hrf
      go_wp2_with fail
      go_ret
      refine ⟨congrArg (fun b => Ending.returned (Value.bool b)) ?_, Hch.out⟩
      rw [Hrf.out]
      exact decide_eq_decide.2 (by omega)
def atomF (l : List UInt8) : Nd := .mk true (tx l) []
def atL (n : Nd) : List UInt8 := n.atom.data.toList
theorem atL_atomF (l : List UInt8) : atL (atomF l) = l := by
  show (tx l).data.toList = l
  simp [tx]
def inputF (x : List UInt8 × List UInt8) : Nd := .mk false ⟨#[]⟩ [atomF x.1, atomF x.2]
theorem step_append_at {P : Program} {ops : Array Oper} {o : Oper} {a : Act} {K : Act → World → Prop} {Q : Exit → Act → World → Prop} {E : Prop} (hgd : o.guard = none) (w : World) (s x : Operand) (t : TypeId)
    (ho : o.op = .call { callee := .builtin .append, args := #[s, x], argTypes := #[t, t] })
    (base : Nat) (e : TypeId) (i : TypeInfo) (z : Value) (size bytes : Nat) (ht : P.underlying t = some (.slice e)) (hi : P.info? e = some i) (hz : i.zero = some z)
    (hsize : i.size = size) (hby : i.bytes = bytes) (hzs : z.cells.size = size) (hsz : 0 < size)
    (v : Value) (n : Nat) (xs : List Value) (hs : a.eval s = v) (hown : w.ownsRow base e size v n xs)
    (ad : Addr) (m c : Nat) (news : List Value) (hx : a.eval x = .slice (some ad) m c) (hl : news.length = m * size) (hnews : ∀ j u, news[j]? = some u → w.cell? (ad.add j) = some u) (h1 : ∀ u ∈ news, u.oneCell' = true)
    (h63 : n + m ≤ maxLen) (hbytes : (n + m) * bytes ≤ 140737488355328) (hbase : base ≤ w.heap.size)
    (h : ∀ v' w', w'.ownsRow base e size v' (n + m) (xs ++ news) → w.grownBy w' v.ownBlock → (v'.ownBlock = v.ownBlock ∨ v'.ownBlock = some w.heap.size) → K (a.put o.dst v') w') :
    if Region.wanted o (yielded ops a.tmps) = true then Oper.wp P o a w K Q else E := by
  have hw : Region.wanted o (yielded ops a.tmps) = true := by simp [Region.wanted, hgd]
  rw [if_pos hw]
  obtain ⟨v', w', hr, h2, h3, h4⟩ := run_append_own (P := P) w base t o.type e i z size bytes ht hi hz hsize hby hzs hsz v n xs hown ad m c news hl hnews h1 h63 hbytes hbase
  have h5 := append_place w base t o.type e i z size bytes ht hi hz hsize hby hzs hsz v n xs hown ad m c news hl hnews h1 h63 hbytes hr
  unfold Oper.wp execOp
  simp only [ho, resolve, invoke, builtin, Sem.run_bind, Sem.run_pure, Result.andThen_ok, List.map_toArray, List.map_cons, List.map_nil, hs, hx, hr]
  exact h v' w' h2 h3 h5
theorem nds_two (w : World) (a b : ByteArray) (ha : a.size ≤ maxLen) (hb : b.size ≤ maxLen) : NdS (w.alloc (.cells #[.bool true, .string a, .slice none 0 0, .bool true, .string b, .slice none 0 0] 71)) (fun x => x = w.heap.size) (.slice (some ⟨w.heap.size, 0, none⟩) 2 2) [.mk true a [], .mk true b []] w.heap.size 0 := by
  have c := fun i => cell_of_row (w.alloc (.cells #[.bool true, .string a, .slice none 0 0, .bool true, .string b, .slice none 0 0] 71)) w.heap.size i _ _ (0, 0) (heap_alloc_new w _)
  refine ⟨⟨_, 2, rfl, Nat.le_refl _, by decide, fun _ => rfl⟩, fun i hi => ?_⟩
  match i, hi with
  | 0, _ => exact NdC.of rfl ha (by rw [c]; rfl) (by rw [c]; rfl) (by rw [c]; rfl) (NdS.nil _ _)
  | 1, _ => exact NdC.of rfl hb (by rw [c]; rfl) (by rw [c]; rfl) (by rw [c]; rfl) (NdS.nil _ _)
theorem atom_cnt (l : List UInt8) : (atomF l).count = 1 + l.length := by
  unfold atomF
  rw [Nd.count, Nd.counts, tx_size]
  omega
def treeN (l : List FileL) : Nd := .mk false ⟨#[]⟩ (l.map inputF)
def encT (l : List FileL) : ByteArray × Int := if goodF l = true then encO (putN (treeN l) 0 []) else (⟨#[]⟩, 1)
theorem good_ok {l : List FileL} (h : goodF l = true) : makeF l = .ok l := by
  unfold goodF at h
  split at h
  · rename_i m hm
    rw [hm, of_decide_eq_true h]
  · cases h
theorem good_iff {l : List FileL} : goodF l = true ↔ makeF l = .ok l := ⟨good_ok, fun h => by unfold goodF; rw [h]; simp⟩
theorem make_parts {l d : List FileL} (h : makeF l = .ok d) : l.length ≤ 32 ∧ (∀ x ∈ l, Pth.goodL x.1 = true ∧ x.2.length ≤ 2048) ∧ (keysL l).Nodup ∧ clashF l = false ∧ d = sortF l := by
  unfold makeF at h
  split at h
  · cases h
  · rename_i h32
    split at h
    · cases h
    · rename_i hb
      split at h
      · rename_i hk
        split at h
        · cases h
        · rename_i hc
          cases h
          exact ⟨by omega, badF_none.1 hb, hk, by simpa using hc, rfl⟩
      · cases h
theorem inp_cnt {x : FileL} (h1 : x.1.length ≤ 128) (h2 : x.2.length ≤ 2048) : (inputF x).count ≤ 2200 := by
  unfold inputF
  rw [Nd.count, Nd.counts, Nd.counts, Nd.counts, atom_cnt, atom_cnt]
  have h0 : (⟨#[]⟩ : ByteArray).size = 0 := rfl
  omega
theorem inps_cnt : ∀ (l : List FileL), (∀ x ∈ l, x.1.length ≤ 128 ∧ x.2.length ≤ 2048) → Nd.counts (l.map inputF) ≤ 2200 * l.length
  | [], _ => by simp [Nd.counts]
  | x :: r, h => by
    have h1 := inp_cnt (h x (by simp)).1 (h x (by simp)).2
    have h2 := inps_cnt r fun y hy => h y (by simp [hy])
    rw [List.map_cons, Nd.counts, List.length_cons]
    omega
theorem good_sizes {l : List FileL} (h : goodF l = true) : l.length ≤ 32 ∧ ∀ x ∈ l, x.1.length ≤ 128 ∧ x.2.length ≤ 2048 := by
  obtain ⟨h1, h2, -⟩ := make_parts (good_ok h)
  exact ⟨h1, fun x hx => ⟨(Pth.goodL_iff.1 (h2 x hx).1).1, (h2 x hx).2⟩⟩
theorem tree_cnt {l : List FileL} (h : goodF l = true) : Nd.counts (l.map inputF) ≤ 70400 ∧ (treeN l).count ≤ 70401 := by
  obtain ⟨h1, h2⟩ := good_sizes h
  have h3 := inps_cnt l h2
  have h4 : Nd.counts (l.map inputF) ≤ 70400 := by omega
  refine ⟨h4, ?_⟩
  unfold treeN
  rw [Nd.count]
  have h0 : (⟨#[]⟩ : ByteArray).size = 0 := rfl
  omega
set_option maxHeartbeats 8000000 in
set_option maxRecDepth 20000 in
theorem tencode_any (l : List FileL) (hl : l.length ≤ 1048576) (hw : ∀ x ∈ l, x.1.length ≤ 131072 ∧ x.2.length ≤ 131072) (S : Nat → Prop) (v : Value) (kb ko : Nat) (base : Nat) (w : World) (hlw : Lw base w) (hm : Pth.Ml w) (hs : InpS w S v l kb ko) :
    Calls Tryz.prog 28 #[.agg #[v]] w fun e w' => Chg NoB w w' ∧ e = .returned (.tuple #[.string (encT l).1, .int .i64 (encT l).2]) := by
  have hs0 := hs
  obtain ⟨⟨q, c, rfl, h1, h2, h3⟩, hat⟩ := hs
  obtain ⟨ec, hec⟩ : ∃ x, x = encT l := ⟨_, rfl⟩
  rw [← hec]
  have Hec := Lib.hid hec
  have HG := Lib.hid (fun w' (h : Chg NoB w w') => tgood_any l hl (fun x hx => by have := hw x hx; omega) S _ kb ko w' (ml_keep hm h) (hs0.keep h fun _ _ => id))
  have Hs := Lib.hid hs0
  have Hl := Lib.hid hlw
  have Hw := Lib.hid hw
  have Hat := Lib.hid hat
  have H3 := Lib.hid h3
  obtain ⟨gd, hgd⟩ : ∃ b, b = goodF l := ⟨_, rfl⟩
  rw [← hgd] at HG
  have Hgd := Lib.hid hgd
  obtain ⟨len, hle⟩ : ∃ n, n = l.length := ⟨_, rfl⟩
  rw [← hle] at h1 HG Hs hl ⊢
  have Hlen := Lib.hid hle
  unfold maxLen at h2
  have hal := (Chg.refl NoB w).alloc (.cells #[.slice q len c] 26)
  have hb := heap_alloc_new w (.cells #[.slice q len c] 26)
  obtain ⟨vb, hvb⟩ : ∃ b, b = w.heap.size := ⟨_, rfl⟩
  rw [← hvb] at hb
  have Hvb := Lib.hid hvb
  obtain ⟨w1, hw1⟩ : ∃ w1, w.alloc (.cells #[.slice q len c] 26) = w1 := ⟨_, rfl⟩
  rw [hw1] at hal hb
  have Hw1 := Lib.hid hw1
  have Hal := Lib.hid hal
  have Hb := Lib.hid hb
  have f0 := var1 hb
  clear hec hgd hs0 hlw hw hat h3 hle hal hb hvb hw1 hm
  go_enter Tryz.func28, Tryz.ntmps28
  go_upto_region 1 with fail
  rw [Hw1.out, ← Hvb.out]
  go_wp2_with fail
  refine (HG.out _ Hal.out).mono ?_
  rintro e w2 ⟨rfl, hc2⟩
  have Hc2 := Lib.hid (Hal.out.trans hc2)
  have hb2 := row_kept hc2 Hb.out id
  have Hb2 := Lib.hid hb2
  clear f0 hc2
  have f0 := var1 hb2
  clear hb2
  cases gd with
  | false =>
    have he : ec = (⟨#[]⟩, 1) := by rw [Hec.out]; unfold encT; rw [← Hgd.out]; rfl
    subst he
    go_wp2_with fail
    go_ret2
    exact ⟨Hc2.out, rfl⟩
  | true =>
    have hcnt := tree_cnt Hgd.out.symm
    have Hcnt := Lib.hid hcnt
    have hl40 : len ≤ 32 := by rw [Hlen.out]; exact (good_sizes Hgd.out.symm).1
    have hkb0 : Kb w2 w2.heap.size (.slice none 0 0) ((l.map inputF).take 0) := Kb.nil _ _ (Nat.le_refl _)
    obtain ⟨lo, hlo⟩ : ∃ lo, lo = w2.heap.size := ⟨_, rfl⟩
    rw [← hlo] at hkb0
    have Hlo := Lib.hid hlo
    have Hkb0 := Lib.hid hkb0
    obtain ⟨i0, hi, hz0, hz1, hz2⟩ := info_parts nodeInfo
    have Hi := Lib.hid hi
    have Hz0 := Lib.hid hz0
    have Hz1 := Lib.hid hz1
    have Hz2 := Lib.hid hz2
    clear hkb0 hlo hcnt hi hz0 hz1 hz2
    go_wp2_with fail
    clear f0
    go_loopw [4, 13] (fun lv i wr => ∃ k : Nat, k ≤ len ∧ i = .int .i64 k ∧ Kb wr lo lv ((l.map inputF).take k) ∧ Chg NoB w2 wr) (fun _ i _ => len - (intOf i).toNat)
    case atStart => exact ⟨0, Nat.zero_le _, rfl, Hkb0.out, Chg.refl _ _⟩
    case round =>
      obtain ⟨k, hk, rfl, hkd, hch⟩ := hrel
      have Hkd := Lib.hid hkd
      have Hch := Lib.hid hch
      clear hkd hch Hkb0
      by_cases hlt : k < len
      · have hlt' : k < l.length := by rw [← Hlen.out]; exact hlt
        obtain ⟨rfl, -⟩ := H3.out (by intro e; rw [e] at hlt'; simp at hlt')
        obtain ⟨c0, c1⟩ := Hat.out k hlt'
        have hcw := Hc2.out.trans Hch.out
        have c0 := hcw.keep c0
        have c1 := hcw.keep c1
        have Htk : Hid ((l.map inputF).take (k + 1) = (l.map inputF).take k ++ [inputF l[k]]) := Lib.hid (by
          rw [List.take_add_one, List.getElem?_eq_getElem (by rw [List.length_map]; exact hlt'), List.getElem_map]; rfl)
        have Hwx := Lib.hid (Hw.out l[k] (List.getElem_mem hlt'))
        clear hcw
        generalize l[k] = x at *
        obtain ⟨x, y⟩ := x
        simp only at c0 c1 Hwx
        have hal6 := (Chg.refl NoB wr).alloc (.cells #[.string (tx x), .string (tx y)] 33)
        have hb6 := heap_alloc_new wr (.cells #[.string (tx x), .string (tx y)] 33)
        obtain ⟨ib, hib⟩ : ∃ b, b = wr.heap.size := ⟨_, rfl⟩
        obtain ⟨w6, hw6⟩ : ∃ w6, wr.alloc (.cells #[.string (tx x), .string (tx y)] 33) = w6 := ⟨_, rfl⟩
        rw [hw6] at hal6 hb6
        rw [← hib] at hb6
        have Hw6 := Lib.hid hw6
        have Hib := Lib.hid hib
        obtain ⟨a0, a1⟩ := var2 hb6
        obtain ⟨acc, hacc⟩ : ∃ acc, acc = (l.map inputF).take k := ⟨_, rfl⟩
        rw [← hacc] at Hkd Htk
        have hna : acc.length = k := by rw [hacc, List.length_take, List.length_map, ← Hlen.out]; omega
        have Hna := Lib.hid hna
        have Hal6 := Lib.hid hal6
        have Hch6 := Lib.hid (Hch.out.trans hal6)
        have hkd6 := Hkd.out.keep (T := NoB) hal6 fun _ _ _ => id
        obtain ⟨hlo6, xs, hown, hrow⟩ := hkd6
        obtain ⟨q0, n0, cap0, hu6⟩ : ∃ q n cap, u4 = Value.slice q n cap := Hkd.out.shape2
        subst hu6
        have Hown := Lib.hid hown
        have Hrow := Lib.hid hrow
        have Hlo6 := Lib.hid hlo6
        have HNi := Lib.hid (show some ib ≠ (Value.slice q0 n0 cap0).ownBlock from fun e => by have h1 := (Hkd.out.2.choose_spec.1.lt ib e.symm).2; omega)
        have HN := Lib.hid (show ∀ j, (Value.slice q0 n0 cap0).ownBlock = some j → j < w6.heap.size from fun j hj => (hown.lt j hj).2)
        have hcount : Nd.counts [atomF x, atomF y] ≤ 1048576 := by
          rw [Nd.counts, Nd.counts, Nd.counts, atom_cnt, atom_cnt]
          have := Hwx.out
          omega
        have htx : (tx x).size ≤ maxLen := by rw [tx_size]; unfold maxLen; have := Hwx.out; omega
        have hty : (tx y).size ≤ maxLen := by rw [tx_size]; unfold maxLen; have := Hwx.out; omega
        have Hcount := Lib.hid hcount
        have Htx := Lib.hid htx
        have Hty := Lib.hid hty
        have M1 := Lib.hid (show k + 1 ≤ maxLen by unfold maxLen; omega)
        have M2 := Lib.hid (show (k + 1) * 48 ≤ 140737488355328 by omega)
        have hownK : ∀ w', Chg NoB w6 w' → Hid (w'.ownsRow lo 71 3 (.slice q0 n0 cap0) k xs) := fun w' h => Lib.hid (by have := ownsRow_chg Hown.out h fun _ _ => id; rwa [Hna.out] at this)
        have HownK := Lib.hid hownK
        clear hal6 hb6 hib hw6 hacc hna hown hrow hlo6 hcount htx hty hownK Hkd
        go_upto_region 7 with fail
        rw [Hw6.out, ← Hib.out]
        have hdr : Chg NoB w6 w6.drew := (Chg.refl NoB w6).drew
        have hA := And.intro a0 a1
        have hA2 := And.intro (hdr.keep a0) (hdr.keep a1)
        clear c0 c1
        go_region_held3 (fun w' => w'.cell? ⟨ib, 0, none⟩ = some (.string (tx x)) ∧ w'.cell? ⟨ib, 1, none⟩ = some (.string (tx y)))
          (first | exact hA | exact hA2 | exact hB | exact hC | exact hD | exact hE | exact hF | exact hG)
          (first
            | (go_at_call 59; refine (new_any (tx x) w6.drew).mono ?_; rintro e w7 ⟨rfl, hc7'⟩; have hc7 : Chg NoB w6 w7 := hdr.trans hc7'; have hB := And.intro (hc7.keep a0) (hc7.keep a1))
            | (go_at_call 59; refine (new_any (tx y) w7).mono ?_; rintro e w8 ⟨rfl, hc8'⟩; have hc8 := hc7.trans hc8'; have hC := And.intro (hc8.keep a0) (hc8.keep a1); have hc8r := hc8.alloc (.cells #[.bool true, .string (tx x), .slice none 0 0, .bool true, .string (tx y), .slice none 0 0] 71); have hD := And.intro (hc8r.keep a0) (hc8r.keep a1))
            | (go_at_call 58; refine (list_new [atomF x, atomF y] Hcount.out _ _ _ _ _ (nds_two w8 (tx x) (tx y) Htx.out Hty.out)).mono ?_; rintro e w9 ⟨hc9', v9, rfl, hv9⟩; obtain ⟨-, sl9, kb9, ko9, rfl, hs9⟩ := hv9; obtain ⟨q9, c9, e9, -, -, -⟩ := hs9.sh; replace e9 : sl9 = .slice q9 2 c9 := e9; subst e9; simp only [Nd.leaf, Nd.atom, Nd.kids] at *; have hc9 := hc8r.trans hc9'; have hE := And.intro (hc9.keep a0) (hc9.keep a1); have hc10 := hc9.alloc (.cells #[.bool false, .string ⟨#[]⟩, .slice q9 2 c9] 71); have hF := And.intro (hc10.keep a0) (hc10.keep a1); have Hs9 := Lib.hid hs9; have Hc9 := Lib.hid hc9; have Hc10 := Lib.hid hc10; have Hown10 := HownK.out _ hc10)
            | (refine step_append_at (by rfl) _ (.tmp 17) (.tmp 26) 69 (by rfl) lo 71 i0 (.agg #[.bool false, .string ⟨#[]⟩, .slice none 0 0]) 3 48 Tryz.underlying69 Hi.out Hz0.out Hz1.out Hz2.out rfl (by decide) _ k _ (by rfl) Hown10.out ⟨w9.heap.size, 0, none⟩ 1 1 [.bool false, .string ⟨#[]⟩, .slice q9 2 c9] (by rfl) rfl (lit3 w9 _ _ _ _) (one3 _ _ _ _ _) M1.out M2.out (Nat.le_trans Hlo6.out Hc10.out.size) ?_; intro v11 w11 hown11 hgr11 hpl11; have Hown11 := Lib.hid hown11; have Hgr11 := Lib.hid hgr11; have Hpl11 := Lib.hid hpl11; have hG : w11.cell? ⟨ib, 0, none⟩ = some (.string (tx x)) ∧ w11.cell? ⟨ib, 1, none⟩ = some (.string (tx y)) := ⟨hgr11.cell hF.1 HNi.out, hgr11.cell hF.2 HNi.out⟩; clear hown11 hgr11 hpl11))
        all_goals
          clear hA hA2 hB hC hD hE hF hG a0 a1 hdr
          try clear hHeld
          have hz68 : w6.heap.size ≤ w8.heap.size := hc8.size
          have hz8r := hc8r.size
          have hrow9 := Hrow.out.keep (S' := KbS lo (.slice q0 n0 cap0) w9) Hc9.out (fun _ _ => id) fun j hj => ⟨⟨hj.1.1, Nat.lt_of_lt_of_le hj.1.2 Hc9.out.size⟩, hj.2⟩
          have hs9' := Hs9.out.mono (T := fun j => w6.heap.size ≤ j ∧ j < w9.heap.size) fun j hj => ⟨Nat.le_trans hz8r hj.1, hj.2⟩
          have hal10 := (Chg.refl NoB w9).alloc (.cells #[.bool false, .string ⟨#[]⟩, .slice q9 2 c9] 71)
          have hkd11 : Kb w11 lo v11 (acc ++ [inputF (x, y)]) := Kb.push (n := inputF (x, y)) HN.out Hlo6.out Hc9.out.size hrow9 (Nat.zero_le _) hs9' hal10 (by rw [Hna.out]; exact Hown11.out) Hgr11.out Hpl11.out
          rw [← Htk.out] at hkd11
          have hgc11 : Chg (fun j => (Value.slice q0 n0 cap0).ownBlock = some j) _ w11 := (Chg.refl _ _).grown Hgr11.out fun j hj => .inl hj
          have h611 : Chg (fun j => (Value.slice q0 n0 cap0).ownBlock = some j) w6 w11 := (Hc10.out.mono fun _ _ x => x.elim).trans hgc11
          have hch11 : Chg NoB w2 w11 := Chg.above Hch6.out h611 fun j hj => by have := (Hown.out.lt j hj).1; have := Hlo.out; omega
          have Hkd11 := Lib.hid hkd11
          have Hch11 := Lib.hid hch11
          clear hc7 hc8 hc8r hz68 hz8r hrow9 hs9' hal10 hkd11 hgc11 h611 hch11
          go_wp2_with fail
          go_roundw
          case rel => exact ⟨k + 1, by omega, by go_num, Hkd11.out, Hch11.out⟩
          case measure => simp [intOf]; omega
      · obtain rfl : k = len := by omega
        have htk : (l.map inputF).take k = l.map inputF := by rw [Hlen.out]; exact List.take_of_length_le (by rw [List.length_map]; exact Nat.le_refl _)
        rw [htk] at Hkd
        obtain ⟨nb, no, hnds⟩ := Hkd.out.nds
        obtain ⟨q0, n0, cap0, hu6⟩ : ∃ q n cap, u4 = Value.slice q n cap := Hkd.out.shape2
        subst hu6
        have Hcr := Lib.hid (Hc2.out.trans Hch.out)
        have Hln := Lib.hid (list_new (l.map inputF) (by have := Hcnt.out.1; omega) _ _ nb no wr hnds)
        have Hcnt3 := Lib.hid (show (treeN l).count ≤ 1048576 by have := Hcnt.out.2; omega)
        clear hnds htk hlt
        go_wp2_with fail
        refine Hln.out.mono ?_
        rintro e w13 ⟨hc13, v13, rfl, hv13⟩
        have Hc13 := Lib.hid (Hcr.out.trans hc13)
        have Henc := Lib.hid ((enc_any (treeN l) Hcnt3.out (fun j => j < w13.heap.size) v13 w13 (hv13.mono fun j hj => hj.2) (fun j hj => hj) ((Hl.out.keep Hc13.out).top)).mono fun e w' h => h.val)
        have he : ec = encO (putN (treeN l) 0 []) := by rw [Hec.out]; unfold encT; rw [if_pos Hgd.out.symm]
        have He := Lib.hid he
        obtain ⟨v14, hv14⟩ : ∃ v, v = v13 := ⟨_, rfl⟩
        clear hc13 hv13 he
        go_wp2_with fail
        refine Henc.out.mono ?_
        rintro e w15 ⟨hc15, rfl⟩
        have Hc15 := Lib.hid (Hc13.out.trans hc15)
        clear hc15
        go_wp2_with fail
        go_ret2
        refine ⟨Hc15.out, ?_⟩
        rw [He.out]
        rfl
end Go.Proofs.YtilkcjcmcnlfnaaGreatDoor
