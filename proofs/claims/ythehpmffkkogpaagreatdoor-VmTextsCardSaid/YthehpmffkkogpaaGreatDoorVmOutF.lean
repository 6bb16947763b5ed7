/- The statements' own helpers: out, wrote. Conditions as for Run. -/
import Derived.Test.YthehpmffkkogpaaGreatDoorVqH
import Derived.Test.YthehpmffkkogpaaGreatDoorVqB
import Derived.Test.YthehpmffkkogpaaGreatDoorVqG
import Derived.Test.YthehpmffkkogpaaGreatDoorTrRput

namespace Go.Proofs.YthehpmffkkogpaaGreatDoor
set_option linter.unusedVariables false
open Go.ChangeShapes Go.WideShapes Go.ChangeAt Go.RowKit
theorem flatI_C : ∀ l : List InsL, flatI l = insC l
  | [] => rfl
  | x :: r => by rw [flatI, insC, flatI_C r]
/- one row grown: it is the old one or a new one -/
structure GrowI (lo : Nat) (v : Value) (ps : List InsL) (v' : Value) (w w' : World) : Prop where
  row : w'.ownsRow lo 46 3 v' ps.length (flatI ps)
  chg : Chg (fun k => v.ownBlock = some k) w w'
  blk : v'.ownBlock = v.ownBlock ∨ ∃ k, v'.ownBlock = some k ∧ w.heap.size ≤ k
theorem GrowI.trans {lo : Nat} {v v1 v2 : Value} {p q : List InsL} {a b c : World} (h : GrowI lo v p v1 a b) (g : GrowI lo v1 q v2 b c) : GrowI lo v q v2 a c := by
  refine ⟨g.row, h.chg.transR g.chg fun k hk e => ?_, ?_⟩
  · rcases h.blk with e1 | ⟨j, e1, hj⟩
    · rw [← e1]; exact e
    · rw [e1] at e; cases e; omega
  · rcases g.blk with e1 | ⟨j, e1, hj⟩
    · rcases h.blk with e2 | ⟨j, e2, hj⟩
      · exact .inl (e1.trans e2)
      · exact .inr ⟨j, e1.trans e2, hj⟩
    · exact .inr ⟨j, e1, Nat.le_trans h.chg.size hj⟩
def OutI (lo : Nat) (v : Value) (ps : List InsL) (w : World) (e : Ending) (w' : World) : Prop := ∃ v', e = .returned v' ∧ GrowI lo v ps v' w w'
set_option maxHeartbeats 2000000 in
set_option maxRecDepth 20000 in
theorem out_any (ps : List InsL) (num : Bool) (lo : Nat) (v : Value) (w : World) (hlo : lo ≤ w.heap.size) (hl : ps.length ≤ 1000) (hrow : w.ownsRow lo 46 3 v ps.length (flatI ps)) :
    Calls Tryz.prog 30 #[v, .bool num] w (OutI lo v (ps ++ (if num = true then [strI] else []) ++ tailI) w) := by
  obtain ⟨n, hn⟩ : ∃ n, n = ps.length := ⟨_, rfl⟩
  rw [← hn] at hrow hl
  obtain ⟨i0, hi, hz0, hz1, hz2⟩ := info_parts insInfo
  have Hi := Lib.hid hi
  have Zi0 := Lib.hid hz0
  have Zi1 := Lib.hid hz1
  have Zi2 := Lib.hid hz2
  have Hrow := Lib.hid hrow
  have Hn := Lib.hid hn
  have Hlo := Lib.hid hlo
  have hmx : maxLen = 9223372036854775807 := rfl
  clear hi hz0 hz1 hz2 hrow hn
  cases num with
  | false =>
    rw [if_neg (by decide), List.append_nil]
    have hal_ := (Chg.refl NoB w).alloc (.cells #[.int .i64 8, .int .i64 0, .string ⟨#[]⟩, .int .i64 3, .int .i64 0, .string ⟨#[97]⟩, .int .i64 7, .int .i64 0, .string ⟨#[]⟩, .int .i64 29, .int .i64 0, .string ⟨#[]⟩] 46)
    have hb_ := heap_alloc_new w (.cells #[.int .i64 8, .int .i64 0, .string ⟨#[]⟩, .int .i64 3, .int .i64 0, .string ⟨#[97]⟩, .int .i64 7, .int .i64 0, .string ⟨#[]⟩, .int .i64 29, .int .i64 0, .string ⟨#[]⟩] 46)
    obtain ⟨b1, hxb_⟩ : ∃ b, b = w.heap.size := ⟨_, rfl⟩
    obtain ⟨w1, hw_⟩ : ∃ w_, w.alloc (.cells #[.int .i64 8, .int .i64 0, .string ⟨#[]⟩, .int .i64 3, .int .i64 0, .string ⟨#[97]⟩, .int .i64 7, .int .i64 0, .string ⟨#[]⟩, .int .i64 29, .int .i64 0, .string ⟨#[]⟩] 46) = w_ := ⟨_, rfl⟩
    have hz_ : w1.heap.size = b1 + 1 := by rw [← hw_, hxb_]; exact alloc_size _ _
    rw [hw_] at hal_ hb_
    rw [← hxb_] at hb_
    have Hw1 := Lib.hid hw_
    have Hx1 := Lib.hid hxb_
    have Ha1 := Lib.hid hal_
    have Hb1 := Lib.hid hb_
    have Hz1 := Lib.hid hz_
    clear hal_ hb_ hxb_ hw_ hz_
    have Hr1 := Lib.hid (ownsRow_chg Hrow.out Ha1.out fun _ _ => id)
    have Hnew := Lib.hid (show ∀ j u, (flatI tailI)[j]? = some u → w1.cell? ((⟨b1, 0, none⟩ : Addr).add j) = some u from fun j u hj => by rw [add_zero_off, cell_of_row w1 b1 j _ _ (0, 0) Hb1.out]; first | (show (flatI tailI).toArray[j]? = some u; rw [List.getElem?_toArray]; exact hj) | (show (flatI [strI]).toArray[j]? = some u; rw [List.getElem?_toArray]; exact hj))
    go_enter Tryz.func30, Tryz.ntmps30
    go_upto_region 3 with fail
    go_wp2_with (at_builtin; go_must (rw [← Hx1.out, Hw1.out]); go_must (refine wpList_append_at _ rfl _ _ 22 rfl lo 46 i0 (.agg #[.int .i64 0, .int .i64 0, .string ⟨#[]⟩]) 3 32 Tryz.underlying22 Hi.out Zi0.out Zi1.out Zi2.out rfl (by decide) v n (flatI ps) rfl Hr1.out ⟨b1, 0, none⟩ 4 4 (flatI tailI) rfl rfl Hnew.out (flatI_one tailI) (by omega) (by omega) (by have := Ha1.out.size; omega) ?_); intro v2 w2 hown2 hgr2 hpl2)
    go_ret
    refine ⟨v2, rfl, ?_, ?_, ?_⟩
    · rw [flatI_app, List.length_append, ← Hn.out]; exact hown2
    · exact (Ha1.out.mono fun _ _ h => h.elim : Chg _ w w1).grown hgr2 fun k hk => .inl hk
    · rcases hpl2 with h | h
      · exact .inl h
      · exact .inr ⟨_, h, Ha1.out.size⟩
  | true =>
    rw [if_pos rfl]
    have hal_ := (Chg.refl NoB w).alloc (.cells #[.int .i64 24, .int .i64 0, .string ⟨#[]⟩] 46)
    have hb_ := heap_alloc_new w (.cells #[.int .i64 24, .int .i64 0, .string ⟨#[]⟩] 46)
    obtain ⟨b1, hxb_⟩ : ∃ b, b = w.heap.size := ⟨_, rfl⟩
    obtain ⟨w1, hw_⟩ : ∃ w_, w.alloc (.cells #[.int .i64 24, .int .i64 0, .string ⟨#[]⟩] 46) = w_ := ⟨_, rfl⟩
    have hz_ : w1.heap.size = b1 + 1 := by rw [← hw_, hxb_]; exact alloc_size _ _
    rw [hw_] at hal_ hb_
    rw [← hxb_] at hb_
    have Hw1 := Lib.hid hw_
    have Hx1 := Lib.hid hxb_
    have Ha1 := Lib.hid hal_
    have Hb1 := Lib.hid hb_
    have Hz1 := Lib.hid hz_
    clear hal_ hb_ hxb_ hw_ hz_
    have Hr1 := Lib.hid (ownsRow_chg Hrow.out Ha1.out fun _ _ => id)
    have Hnew := Lib.hid (show ∀ j u, (flatI [strI])[j]? = some u → w1.cell? ((⟨b1, 0, none⟩ : Addr).add j) = some u from fun j u hj => by rw [add_zero_off, cell_of_row w1 b1 j _ _ (0, 0) Hb1.out]; first | (show (flatI tailI).toArray[j]? = some u; rw [List.getElem?_toArray]; exact hj) | (show (flatI [strI]).toArray[j]? = some u; rw [List.getElem?_toArray]; exact hj))
    go_enter Tryz.func30, Tryz.ntmps30
    go_upto_region 3 with (at_builtin; go_must (rw [← Hx1.out, Hw1.out]); go_must (refine wpList_append_at _ rfl _ _ 22 rfl lo 46 i0 (.agg #[.int .i64 0, .int .i64 0, .string ⟨#[]⟩]) 3 32 Tryz.underlying22 Hi.out Zi0.out Zi1.out Zi2.out rfl (by decide) v n (flatI ps) rfl Hr1.out ⟨b1, 0, none⟩ 1 1 (flatI [strI]) rfl rfl Hnew.out (flatI_one [strI]) (by omega) (by omega) (by have := Ha1.out.size; have := Hlo.out; omega) ?_); intro v2 w2 hown2 hgr2 hpl2)
    have hr2 : w2.ownsRow lo 46 3 v2 (n + 1) (flatI (ps ++ [strI])) := by rw [flatI_app]; exact hown2
    have Hr2 := Lib.hid hr2
    have G1 : Hid (GrowI lo v (ps ++ [strI]) v2 w w2) := Lib.hid ⟨by rw [List.length_append, ← Hn.out]; exact hr2, (Ha1.out.mono fun _ _ h => h.elim : Chg _ w w1).grown hgr2 fun k hk => .inl hk, by
      rcases hpl2 with h | h
      · exact .inl h
      · exact .inr ⟨_, h, Ha1.out.size⟩⟩
    clear hown2 hgr2 hpl2 hr2
    have hal_ := (Chg.refl NoB w2).alloc (.cells #[.int .i64 8, .int .i64 0, .string ⟨#[]⟩, .int .i64 3, .int .i64 0, .string ⟨#[97]⟩, .int .i64 7, .int .i64 0, .string ⟨#[]⟩, .int .i64 29, .int .i64 0, .string ⟨#[]⟩] 46)
    have hb_ := heap_alloc_new w2 (.cells #[.int .i64 8, .int .i64 0, .string ⟨#[]⟩, .int .i64 3, .int .i64 0, .string ⟨#[97]⟩, .int .i64 7, .int .i64 0, .string ⟨#[]⟩, .int .i64 29, .int .i64 0, .string ⟨#[]⟩] 46)
    obtain ⟨b3, hxb_⟩ : ∃ b, b = w2.heap.size := ⟨_, rfl⟩
    obtain ⟨w3, hw_⟩ : ∃ w_, w2.alloc (.cells #[.int .i64 8, .int .i64 0, .string ⟨#[]⟩, .int .i64 3, .int .i64 0, .string ⟨#[97]⟩, .int .i64 7, .int .i64 0, .string ⟨#[]⟩, .int .i64 29, .int .i64 0, .string ⟨#[]⟩] 46) = w_ := ⟨_, rfl⟩
    have hz_ : w3.heap.size = b3 + 1 := by rw [← hw_, hxb_]; exact alloc_size _ _
    rw [hw_] at hal_ hb_
    rw [← hxb_] at hb_
    have Hw3 := Lib.hid hw_
    have Hx3 := Lib.hid hxb_
    have Ha3 := Lib.hid hal_
    have Hb3 := Lib.hid hb_
    have Hz3 := Lib.hid hz_
    clear hal_ hb_ hxb_ hw_ hz_
    have Hr3 := Lib.hid (ownsRow_chg Hr2.out Ha3.out fun _ _ => id)
    have Hnew3 := Lib.hid (show ∀ j u, (flatI tailI)[j]? = some u → w3.cell? ((⟨b3, 0, none⟩ : Addr).add j) = some u from fun j u hj => by rw [add_zero_off, cell_of_row w3 b3 j _ _ (0, 0) Hb3.out]; show (flatI tailI).toArray[j]? = some u; rw [List.getElem?_toArray]; exact hj)
    have Hlo3 := Lib.hid (show lo ≤ w3.heap.size by have := Hlo.out; have := G1.out.chg.size; have := Ha3.out.size; omega)
    go_wp2_with (at_builtin; go_must (rw [← Hx3.out, Hw3.out]); go_must (refine wpList_append_at _ rfl _ _ 22 rfl lo 46 i0 (.agg #[.int .i64 0, .int .i64 0, .string ⟨#[]⟩]) 3 32 Tryz.underlying22 Hi.out Zi0.out Zi1.out Zi2.out rfl (by decide) v2 (n + 1) (flatI (ps ++ [strI])) rfl Hr3.out ⟨b3, 0, none⟩ 4 4 (flatI tailI) rfl rfl Hnew3.out (flatI_one tailI) (by omega) (by omega) Hlo3.out ?_); intro v4 w4 hown4 hgr4 hpl4)
    go_ret
    refine ⟨v4, rfl, G1.out.trans ⟨?_, ?_, ?_⟩⟩
    · rw [flatI_app, List.length_append, List.length_append, ← Hn.out]; exact hown4
    · exact (Ha3.out.mono fun _ _ h => h.elim : Chg _ w2 w3).grown hgr4 fun k hk => .inl hk
    · rcases hpl4 with h | h
      · exact .inl h
      · exact .inr ⟨_, h, Ha3.out.size⟩
set_option maxHeartbeats 2000000 in
set_option maxRecDepth 20000 in
theorem wrote_any (ps : List InsL) (S : Nat → Prop) (v : Value) (pb po base : Nat) (w : World) (hwd : Wd base w) (hlb : Lb base w) (hml : Pth.Ml w) (hl : ps.length ≤ 131072) (hp : InsS w S v ps pb po) :
    Calls Tryz.prog 29 #[v] w fun e w' => Chg NoB w w' ∧ e = .returned (.tuple #[.string (tx (getF (runL ps []) [97]).1), .int .i64 (runE ps [])]) := by
  have HR := Lib.hid (run_any ps [] S NoB v (.slice none 0 0) pb po 0 0 base w hwd hlb hml hl (Nat.zero_le _) (fun x hx => nomatch hx) hp (InpS.nil _ _))
  have Hf := Lib.hid (run_facts (view := []) hp.wfs).1
  unfold RunP at HR
  obtain ⟨d, hd⟩ : ∃ z, z = runL ps [] := ⟨_, rfl⟩
  obtain ⟨sn, hsn⟩ : ∃ z, z = runN ps [] := ⟨_, rfl⟩
  obtain ⟨sy, hsy⟩ : ∃ z, z = runE ps [] := ⟨_, rfl⟩
  rw [← hd, ← hsn, ← hsy] at HR
  rw [← hd] at Hf
  rw [← hd, ← hsy]
  clear hwd hlb hml hp hd hsn hsy
  go_enter Tryz.func29, Tryz.ntmps29
  go_wp2_with fail
  refine HR.out.mono ?_
  rintro e w2 ⟨hc2, q2, k2, c2, kb2, ko2, hk2, rfl, hs2⟩
  have Hs2 := Lib.hid hs2
  have Hc2 := Lib.hid hc2
  have Hk2 := Lib.hid hk2
  clear hc2 hs2 hk2 HR
  have hal_ := (Chg.refl NoB w2).alloc (.cells #[.slice q2 k2 c2] 25)
  have hb_ := heap_alloc_new w2 (.cells #[.slice q2 k2 c2] 25)
  obtain ⟨b3, hxb_⟩ : ∃ b, b = w2.heap.size := ⟨_, rfl⟩
  obtain ⟨w3, hw_⟩ : ∃ w_, w2.alloc (.cells #[.slice q2 k2 c2] 25) = w_ := ⟨_, rfl⟩
  have hz_ : w3.heap.size = b3 + 1 := by rw [← hw_, hxb_]; exact alloc_size _ _
  rw [hw_] at hal_ hb_
  rw [← hxb_] at hb_
  have Hw3 := Lib.hid hw_
  have Hx3 := Lib.hid hxb_
  have Ha3 := Lib.hid hal_
  have Hb3 := Lib.hid hb_
  have Hz3 := Lib.hid hz_
  clear hal_ hb_ hxb_ hw_ hz_
  have hgz := good_sizes Hf.out
  have HG := Lib.hid (rget_any d [97] _ _ _ _ w3 (by omega) (Hs2.out.keep Ha3.out fun _ _ => id))
  have t0 := var1 Hb3.out
  clear hgz
  go_upto_region 2 with fail
  rw [Hw3.out, ← Hx3.out]
  go_wp2_with fail
  refine HG.out.mono ?_
  rintro e w4 ⟨hc4, rfl⟩
  have Hc4 := Lib.hid (Hc2.out.trans (Ha3.out.trans hc4))
  clear hc4
  go_wp2_with fail
  go_ret2
  exact ⟨Hc4.out, rfl⟩
end Go.Proofs.YthehpmffkkogpaaGreatDoor
