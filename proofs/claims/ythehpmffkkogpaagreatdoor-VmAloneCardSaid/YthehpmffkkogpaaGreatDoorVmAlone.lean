/- Proved: the statement VmAlone holds for every program and every tree. Conditions: the listed package variables read as the program's text lays them (the card ties them); nothing else. -/
import Derived.Test.YthehpmffkkogpaaGreatDoorVqH
import Derived.Test.YthehpmffkkogpaaGreatDoorVqB
import Derived.Test.YthehpmffkkogpaaGreatDoorVmOutF


namespace Go.Proofs.YthehpmffkkogpaaGreatDoor
set_option linter.unusedVariables false
open Go.ChangeShapes Go.WideShapes Go.ChangeAt Go.RowKit
open Go.ChangeMaps (open_string shut_string)
theorem row_new {w : World} {b lo : Nat} {ps : List InsL} {cs : Array Value} (h : w.heap[b]? = some (.cells cs 46 (0, 0))) (hc : cs = (flatI ps).toArray) (hlo : lo ≤ b) (hl : ps.length ≤ maxLen) {k : Nat} (hk : k = ps.length) : w.ownsRow lo 46 3 (.slice (some ⟨b, 0, none⟩) k k) k (flatI ps) := by
  subst hk
  subst hc
  exact ⟨flatI_len ps, .inr ⟨b, ps.length, _, rfl, hlo, h, Nat.le_refl _, hl, by simp [flatI_len], by rw [List.toList_toArray]; exact List.take_of_length_le (by rw [flatI_len]; exact Nat.le_refl _)⟩⟩
theorem shI_wf {x : InsL} (hx : x.wf) {n : Nat} (hn : n ≤ 256) (h : standsF x n = true) : (shI x).wf := by
  unfold shI
  split
  · rename_i hp
    have hw := stands_wfi hx h
    have := hw.place (by show 17 ≤ x.op ∧ x.op ≤ 19; exact hp)
    exact ⟨hx.1, ⟨by show _ ≤ x.n + 1; omega, by show x.n + 1 ≤ _; omega⟩, hx.2.2⟩
  · exact hx
theorem sh_snoc (a : InsL) (l : List InsL) (k : Nat) (h : k < l.length) : a :: (l.take (k + 1)).map shI = (a :: (l.take k).map shI) ++ [shI l[k]] := by
  rw [List.take_add_one, List.getElem?_eq_getElem h, List.map_append]
  rfl
set_option maxHeartbeats 8000000 in
set_option maxRecDepth 20000 in
theorem vmAlone_all (l0 : List InsL) (v0 : Value) (kb0 ko0 : Nat) (l1 : List FileL) (u1 : Value) (kb1 ko1 : Nat) (W : World) (hn0 : InsS W (OldB W) v0 l0 kb0 ko0) (hn1 : InpS W (OldB W) u1 l1 kb1 ko1) (hr1 : Reach l1) (hml : Pth.Ml W) (hlb : Lb W.heap.size W) (hwd : Wd W.heap.size W) :
    Calls Tryz.prog 7 #[v0, .agg #[u1]] W fun e w' => e = .returned (.bool true) ∧ Chg NoB W w' := by
  have hp0_ := hn0
  have hv0_ := hn1
  obtain ⟨⟨pq, pc, rfl, p1_, p2_, -⟩, -⟩ := hn0
  obtain ⟨⟨q, c, rfl, -, -, -⟩, -⟩ := hn1
  obtain ⟨m, hm_⟩ : ∃ m, m = l0.length := ⟨_, rfl⟩
  obtain ⟨n, hn_⟩ : ∃ n, n = l1.length := ⟨_, rfl⟩
  rw [← hm_] at hp0_ p1_ ⊢
  rw [← hn_] at hv0_ ⊢
  have Hpm := Lib.hid hm_
  have Hvn := Lib.hid hn_
  have Hpc := Lib.hid (And.intro p1_ p2_)
  have Hp := Lib.hid hp0_
  have Hv := Lib.hid hv0_
  have Hrc := Lib.hid hr1
  have Hwd := Lib.hid hwd
  have Hlb := Lib.hid hlb
  have Hml := Lib.hid hml
  have HRun := Lib.hid (fun (w' : World) (h : Chg NoB W w') (sm : SmallG l0 l1) => run_any l0 l1 _ _ _ _ kb0 ko0 kb1 ko1 W.heap.size w' (hwd.keep h) (hlb.keep h) (ml_keep hml h) (by have := sm.plen; omega) (by have := sm.vlen; omega) (fun x hx => by have := sm.files x hx; omega) (hp0_.keep h fun _ _ => id) (hv0_.keep h fun _ _ => id))
  have Hwf := Lib.hid hp0_.wfs
  clear hm_ hn_ hp0_ hv0_ p1_ p2_ hr1 hwd hlb hml
  obtain ⟨i0, hi, hz0, hz1, hz2⟩ := info_parts insInfo
  have Hi := Lib.hid hi
  have Zi0 := Lib.hid hz0
  have Zi1 := Lib.hid hz1
  have Zi2 := Lib.hid hz2
  have hmx : maxLen = 9223372036854775807 := rfl
  clear hi hz0 hz1 hz2
  have hal_ := (Chg.refl NoB W).alloc (.cells #[.slice q n c] 25)
  have hb_ := heap_alloc_new W (.cells #[.slice q n c] 25)
  obtain ⟨vb, hxb_⟩ : ∃ b, b = W.heap.size := ⟨_, rfl⟩
  obtain ⟨w1, hw_⟩ : ∃ w_, W.alloc (.cells #[.slice q n c] 25) = w_ := ⟨_, rfl⟩
  have hz_ : w1.heap.size = vb + 1 := by rw [← hw_, hxb_]; exact alloc_size _ _
  rw [hw_] at hal_ hb_
  rw [← hxb_] at hb_
  have Hw1 := Lib.hid hw_
  have Hx1 := Lib.hid hxb_
  have Ha1 := Lib.hid hal_
  have Hb1 := Lib.hid hb_
  have Hz1 := Lib.hid hz_
  clear hal_ hb_ hxb_ hw_ hz_
  go_enter Tryz.func7, Tryz.ntmps7
  go_upto_region 1 with fail
  rw [Hw1.out, ← Hx1.out]
  go_wp2_with fail
  refine (malive_any W.heap.size w1 (Hwd.out.keep Ha1.out) (Hlb.out.keep Ha1.out) (ml_keep Hml.out Ha1.out)).mono ?_
  rintro e w2 ⟨rfl, hc2⟩
  have Hc2 := Lib.hid (Ha1.out.trans hc2)
  have HG := Lib.hid (mgreat_any l0 l1 Hrc.out _ _ _ _ kb0 ko0 kb1 ko1 w2 (Hp.out.keep Hc2.out fun _ _ => id) (Hv.out.keep Hc2.out fun _ _ => id))
  have Hd2 := Lib.hid hc2
  have v0 := var1 (row_kept hc2 Hb1.out id)
  clear hc2
  go_wp2_with fail
  refine HG.out.mono ?_
  rintro e w3 ⟨hc3, g, rfl, hg⟩
  have Hc3 := Lib.hid (Hc2.out.trans hc3)
  have Hd3 := Lib.hid (Hd2.out.trans hc3)
  have Hg := Lib.hid hg
  clear hc3 hg v0 HG
  cases g with
  | true =>
    go_wp2_with fail
    go_ret
    exact ⟨rfl, Hc3.out⟩
  | false =>
  have Hsm := Lib.hid (Hg.out rfl)
  have HK := Lib.hid (check_any l0 _ _ kb0 ko0 W.heap.size w3 (Hwd.out.keep Hc3.out) (by have := Hsm.out.plen; omega) (Hp.out.keep Hc3.out fun _ _ => id))
  obtain ⟨ca, hca⟩ : ∃ z, z = (checkF l0).1 := ⟨_, rfl⟩
  obtain ⟨cb, hcb⟩ : ∃ z, z = (checkF l0).2 := ⟨_, rfl⟩
  rw [← hca, ← hcb] at HK
  have Hcb := Lib.hid hcb
  clear hca hcb
  go_wp2_with fail
  refine HK.out.mono ?_
  rintro e w4 ⟨rfl, hc4⟩
  have Hc4 := Lib.hid (Hc3.out.trans hc4)
  have Hd4 := Lib.hid (Hd3.out.trans hc4)
  have v0 := var1 (row_kept Hd4.out Hb1.out id)
  have HGd := Lib.hid (rgood_any l1 (by have := Hsm.out.vlen; omega) (fun x hx => by have := Hsm.out.files x hx; omega) _ _ kb1 ko1 w4 (Hv.out.keep Hc4.out fun _ _ => id))
  obtain ⟨gd, hgd⟩ : ∃ z, z = goodF l1 := ⟨_, rfl⟩
  rw [← hgd] at HGd
  have Hgd := Lib.hid hgd
  clear hc4 hgd HK
  by_cases hk : cb = 0
  case neg =>
    have hk2 : (cb != 0) = true := by rw [bne_iff_ne]; exact hk
    clear hk
    go_wp2_with fail
    go_ret
    exact ⟨rfl, Hc4.out⟩
  subst hk
  by_cases hm256 : m = 256
  · subst hm256
    go_wp2_with fail
    go_ret
    exact ⟨rfl, Hc4.out⟩
  have Hm256 := Lib.hid hm256
  have hmb : ((m : Int) == 256) = false := by rw [beq_eq_false_iff_ne]; omega
  clear hm256
  go_wp2_with fail
  refine HGd.out.mono ?_
  rintro e w5 ⟨rfl, hc5⟩
  have Hc5 := Lib.hid (Hc4.out.trans hc5)
  have Hd5 := Lib.hid (Hd4.out.trans hc5)
  clear hc5 v0 HGd
  cases gd with
  | false =>
    go_wp2_with fail
    go_ret
    exact ⟨rfl, Hc5.out⟩
  | true =>
  have Hall := Lib.hid (check_all Hcb.out.symm)
  have hm255 : m ≤ 255 := by have := Hall.out.2.1; have := Hpm.out; have := Hm256.out; omega
  have hal_ := (Chg.refl NoB w5).alloc (.cells #[.int .i64 1, .int .i64 0, .string ⟨#[]⟩] 46)
  have hb_ := heap_alloc_new w5 (.cells #[.int .i64 1, .int .i64 0, .string ⟨#[]⟩] 46)
  obtain ⟨ab, hxb_⟩ : ∃ b, b = w5.heap.size := ⟨_, rfl⟩
  obtain ⟨w6, hw_⟩ : ∃ w_, w5.alloc (.cells #[.int .i64 1, .int .i64 0, .string ⟨#[]⟩] 46) = w_ := ⟨_, rfl⟩
  have hz_ : w6.heap.size = ab + 1 := by rw [← hw_, hxb_]; exact alloc_size _ _
  rw [hw_] at hal_ hb_
  rw [← hxb_] at hb_
  have Hw6 := Lib.hid hw_
  have Hx6 := Lib.hid hxb_
  have Ha6 := Lib.hid hal_
  have Hb6 := Lib.hid hb_
  have Hz6 := Lib.hid hz_
  clear hal_ hb_ hxb_ hw_ hz_
  have hal_ := (Chg.refl NoB w6).alloc (.cells #[.int .i64 17, .int .i64 1, .string ⟨#[]⟩] 46)
  have hb_ := heap_alloc_new w6 (.cells #[.int .i64 17, .int .i64 1, .string ⟨#[]⟩] 46)
  obtain ⟨bb, hxb_⟩ : ∃ b, b = w6.heap.size := ⟨_, rfl⟩
  obtain ⟨w7, hw_⟩ : ∃ w_, w6.alloc (.cells #[.int .i64 17, .int .i64 1, .string ⟨#[]⟩] 46) = w_ := ⟨_, rfl⟩
  have hz_ : w7.heap.size = bb + 1 := by rw [← hw_, hxb_]; exact alloc_size _ _
  rw [hw_] at hal_ hb_
  rw [← hxb_] at hb_
  have Hw7 := Lib.hid hw_
  have Hx7 := Lib.hid hxb_
  have Ha7 := Lib.hid hal_
  have Hb7 := Lib.hid hb_
  have Hz7 := Lib.hid hz_
  clear hal_ hb_ hxb_ hw_ hz_
  have hx7 : ab + 1 = bb := by rw [Hx7.out, Hz6.out]
  have Hc7 := Lib.hid (Hc5.out.trans (Ha6.out.trans Ha7.out))
  have Hd7 := Lib.hid (Hd5.out.trans (Ha6.out.trans Ha7.out))
  have HA0 := Lib.hid (row_new (lo := w1.heap.size) (ps := [⟨1, 0, []⟩]) (row_kept Ha7.out Hb6.out id) rfl (by have := Hx6.out; have := Hd5.out.size; omega) (by decide) (k := 1) rfl)
  have HB0 := Lib.hid (row_new (lo := w1.heap.size) (ps := [jumpI]) Hb7.out rfl (by have := Hx6.out; have := Hd5.out.size; omega) (by decide) (k := 1) rfl)
  obtain ⟨⟨pq', pc', he, -, -, hq3⟩, hat⟩ := Hp.out
  have He := Lib.hid he
  have Hq3 := Lib.hid hq3
  have Hat := Lib.hid hat
  clear he hq3 hat hmb
  go_upto_region 10 with fail
  rw [Hw6.out, ← Hx6.out]
  rw [Hw7.out, ← Hz6.out, ← Hx7.out]
  go_wp2_with fail
  go_loopw [7, 8, 44] (fun pv qv i wr => ∃ k : Nat, k ≤ m ∧ i = .int .i64 k ∧ wr.ownsRow w1.heap.size 46 3 pv (k + 1) (flatI (⟨1, 0, []⟩ :: (l0.take k).map shI)) ∧ wr.ownsRow w1.heap.size 46 3 qv (k + 1) (flatI (jumpI :: (l0.take k).map shI)) ∧ (∀ j, pv.ownBlock = some j → qv.ownBlock ≠ some j) ∧ Chg NoB w1 wr) (fun _ _ i _ => m - (intOf i).toNat)
  case atStart => exact ⟨0, Nat.zero_le _, rfl, HA0.out, HB0.out, (fun j h h2 => by have e1 : ab = j := Option.some.inj h; have e2 : bb = j := Option.some.inj h2; omega), Hd7.out⟩
  case round =>
    obtain ⟨k, hk, rfl, hp, hq, hap, hch⟩ := hrel
    obtain ⟨pv, rfl⟩ : ∃ z, z = u7 := ⟨_, rfl⟩
    obtain ⟨qv, rfl⟩ : ∃ z, z = u8 := ⟨_, rfl⟩
    have Hch := Lib.hid hch
    have Hap := Lib.hid hap
    have Hpl := Lib.hid (World.ownsRow.lt hp)
    have Hql := Lib.hid (World.ownsRow.lt hq)
    have Hp9 := Lib.hid hp
    have Hq9 := Lib.hid hq
    clear hp hq hap hch
    by_cases hlt : k < m
    · have hlt' : k < l0.length := by rw [← Hpm.out]; exact hlt
      have hne : l0 ≠ [] := by intro e; rw [e] at hlt'; simp at hlt'
      have hqq := (Hq3.out hne).1
      have hcc := He.out
      cases hcc
      subst hqq
      obtain ⟨hwf, c0, c1, c2⟩ := Hat.out k hlt'
      have c0 := (Ha1.out.trans Hch.out).keep c0
      have c1 := (Ha1.out.trans Hch.out).keep c1
      have c2 := (Ha1.out.trans Hch.out).keep c2
      have hst := Hall.out.2.2 l0[k] (List.getElem_mem hlt')
      have hwi := stands_wfi hwf hst
      obtain ⟨x, hx⟩ : ∃ x, x = l0[k] := ⟨_, rfl⟩
      rw [← hx] at c0 c1 c2 hwi
      obtain ⟨op, an, xs⟩ := x
      simp only at c0 c1 c2
      have Hxx := Lib.hid hx
      have hni : -9223372036854775808 ≤ an ∧ an ≤ 9223372036854775807 := hwi.num
      have Hpl4 := Lib.hid (show 17 ≤ op ∧ op ≤ 19 → 0 ≤ an ∧ an ≤ l0.length from fun h => hwi.place h)
      clear hx hst hwi hwf
      have hal_ := (Chg.refl NoB wr).alloc (.cells #[.int .i64 op, .int .i64 an, .string (tx xs)] 46)
      have hb_ := heap_alloc_new wr (.cells #[.int .i64 op, .int .i64 an, .string (tx xs)] 46)
      obtain ⟨eb, hxb_⟩ : ∃ b, b = wr.heap.size := ⟨_, rfl⟩
      obtain ⟨w8, hw_⟩ : ∃ w_, wr.alloc (.cells #[.int .i64 op, .int .i64 an, .string (tx xs)] 46) = w_ := ⟨_, rfl⟩
      have hz_ : w8.heap.size = eb + 1 := by rw [← hw_, hxb_]; exact alloc_size _ _
      rw [hw_] at hal_ hb_
      rw [← hxb_] at hb_
      have Hw8 := Lib.hid hw_
      have Hx8 := Lib.hid hxb_
      have Ha8 := Lib.hid hal_
      have Hb8 := Lib.hid hb_
      have Hz8 := Lib.hid hz_
      clear hal_ hb_ hxb_ hw_ hz_
      have Heb := Lib.hid (show wr.heap.size ≤ eb by rw [Hx8.out]; exact Nat.le_refl _)
      obtain ⟨e0, e1, e2⟩ := var3 Hb8.out
      go_upto_region 13 with fail
      rw [Hw8.out, ← Hx8.out]
      go_wp2_with fail
      refine (takes_any op w8).mono ?_
      rintro e w9 ⟨rfl, hc9⟩
      have hB9 := row_kept hc9 Hb8.out id
      have Hc89 := Lib.hid hc9
      clear c0 c1 c2 hc9 e0 e1 e2
      by_cases ht : takesF op = 4
      · have hop : 17 ≤ op ∧ op ≤ 19 := by
          unfold takesF at ht
          split at ht
          · exact absurd ht (by decide)
          · split at ht
            · exact absurd ht (by decide)
            · split at ht
              · exact absurd ht (by decide)
              · split at ht
                · omega
                · exact absurd ht (by decide)
        have hpb := Hpl4.out hop
        have hl0 : l0.length ≤ 400 := Hsm.out.plen
        have Hsh : Hid ((⟨op, an + 1, xs⟩ : InsL) = shI l0[k]) := Lib.hid (by rw [← Hxx.out]; unfold shI; rw [if_pos (show 17 ≤ op ∧ op ≤ 19 from hop)])
        rw [ht]
        have hB10 := heap_set hB9 (i := 1) (.int .i64 (an + 1))
        have HB : Hid ((w9.setCell ⟨eb, 1, none⟩ (.int .i64 (an + 1))).heap[eb]? = some (.cells #[.int .i64 op, .int .i64 (an + 1), .string (tx xs)] 46 (0, 0))) := Lib.hid hB10
        have Hwr := Lib.hid (Ha8.out.trans (Hc89.out.trans (Chg.refl NoB w9)) |>.transR ((Chg.refl (fun j => j = eb) w9).setCell (p := ⟨eb, 1, none⟩) (.inl rfl) (.int .i64 (an + 1))) fun j hj e => by have h1 := Heb.out; exact absurd hj (by omega))
        have f1 := row_free hB9 1
        obtain ⟨e0, e1, e2⟩ := var3 hB9
        clear hB9 hB10
        go_upto_region 15 with fail
        obtain ⟨wx, hwx⟩ : ∃ z, z = w9.setCell ⟨eb, 1, none⟩ (.int .i64 (an + 1)) := ⟨_, rfl⟩
        rw [← hwx] at HB Hwr ⊢
        clear hwx f1 e0 e1 e2 ht
        obtain ⟨e0, e1, e2⟩ := var3 HB.out
        have hal_ := (Chg.refl NoB wx).alloc (.cells #[.int .i64 op, .int .i64 (an + 1), .string (tx xs)] 46)
        have hb_ := heap_alloc_new wx (.cells #[.int .i64 op, .int .i64 (an + 1), .string (tx xs)] 46)
        obtain ⟨ba, hxb_⟩ : ∃ b, b = wx.heap.size := ⟨_, rfl⟩
        obtain ⟨wa, hw_⟩ : ∃ w_, wx.alloc (.cells #[.int .i64 op, .int .i64 (an + 1), .string (tx xs)] 46) = w_ := ⟨_, rfl⟩
        have hz_ : wa.heap.size = ba + 1 := by rw [← hw_, hxb_]; exact alloc_size _ _
        rw [hw_] at hal_ hb_
        rw [← hxb_] at hb_
        have Hw20 := Lib.hid hw_
        have Hx20 := Lib.hid hxb_
        have Ha20 := Lib.hid hal_
        have Hb20 := Lib.hid hb_
        have Hz20 := Lib.hid hz_
        clear hal_ hb_ hxb_ hw_ hz_
        have Hp20 := Lib.hid (ownsRow_chg (ownsRow_chg Hp9.out Hwr.out fun _ _ => id) Ha20.out fun _ _ => id)
        have Hnew := Lib.hid (show ∀ j u, (flatI [⟨op, (an + 1), xs⟩])[j]? = some u → wa.cell? ((⟨ba, 0, none⟩ : Addr).add j) = some u from fun j u hj => by rw [add_zero_off, cell_of_row wa ba j _ _ (0, 0) Hb20.out]; show (flatI [⟨op, (an + 1), xs⟩]).toArray[j]? = some u; rw [List.getElem?_toArray]; exact hj)
        have Hz20' := Lib.hid (show w1.heap.size ≤ wr.heap.size ∧ wr.heap.size ≤ wx.heap.size ∧ wx.heap.size ≤ wa.heap.size from ⟨Hch.out.size, Hwr.out.size, Ha20.out.size⟩)
        go_upto_region 16 with (at_builtin; go_must (rw [← Hx20.out, Hw20.out]); go_must (refine wpList_append_at _ rfl _ _ 22 rfl w1.heap.size 46 i0 (.agg #[.int .i64 0, .int .i64 0, .string ⟨#[]⟩]) 3 32 Tryz.underlying22 Hi.out Zi0.out Zi1.out Zi2.out rfl (by decide) pv (k + 1) (flatI (⟨1, 0, []⟩ :: (l0.take k).map shI)) rfl Hp20.out ⟨ba, 0, none⟩ 1 1 (flatI [⟨op, (an + 1), xs⟩]) rfl rfl Hnew.out (flatI_one _) (by omega) (by omega) (by have := Hz20'.out; omega) ?_); intro v21 w21 hown21 hgr21 hpl21)
        have Hg21 := Lib.hid ((Ha20.out.mono fun _ _ h => h.elim : Chg (fun j => pv.ownBlock = some j) wx wa).grown hgr21 fun j hj => .inl hj)
        have Hh21 := Lib.hid ((Hwr.out.mono fun _ _ h => h.elim : Chg (fun j => pv.ownBlock = some j) wr wx).trans Hg21.out)
        have HP21 := Lib.hid (show w21.ownsRow w1.heap.size 46 3 v21 (k + 1 + 1) (flatI (⟨1, 0, []⟩ :: (l0.take (k + 1)).map shI)) by rw [sh_snoc _ _ _ hlt', flatI_app, ← Hsh.out]; exact hown21)
        have HQ21 := Lib.hid (ownsRow_chg Hq9.out Hh21.out fun j hj e => Hap.out j e hj)
        have HA21 := Lib.hid (show ∀ j, v21.ownBlock = some j → qv.ownBlock ≠ some j from fun j hj hq => by
          rcases hpl21 with h | h
          · exact Hap.out j (by rw [← h]; exact hj) hq
          · rw [h] at hj; cases hj; have := (Hql.out _ hq).2; have := Hz20'.out; omega)
        have HC21 := Lib.hid (Hch.out.transR Hh21.out fun j hj e => by have h1 := (Hpl.out j e).1; exact absurd hj (by omega))
        have hB21 := row_kept Hg21.out HB.out (fun e => by have h1 := (Hpl.out eb e).2; have h2 := Heb.out; omega)
        clear hown21 hgr21 hpl21 e0 e1 e2
        obtain ⟨e0, e1, e2⟩ := var3 hB21
        have hal_ := (Chg.refl NoB w21).alloc (.cells #[.int .i64 op, .int .i64 (an + 1), .string (tx xs)] 46)
        have hb_ := heap_alloc_new w21 (.cells #[.int .i64 op, .int .i64 (an + 1), .string (tx xs)] 46)
        obtain ⟨bb2, hxb_⟩ : ∃ b, b = w21.heap.size := ⟨_, rfl⟩
        obtain ⟨wb, hw_⟩ : ∃ w_, w21.alloc (.cells #[.int .i64 op, .int .i64 (an + 1), .string (tx xs)] 46) = w_ := ⟨_, rfl⟩
        have hz_ : wb.heap.size = bb2 + 1 := by rw [← hw_, hxb_]; exact alloc_size _ _
        rw [hw_] at hal_ hb_
        rw [← hxb_] at hb_
        have Hw22 := Lib.hid hw_
        have Hx22 := Lib.hid hxb_
        have Ha22 := Lib.hid hal_
        have Hb22 := Lib.hid hb_
        have Hz22 := Lib.hid hz_
        clear hal_ hb_ hxb_ hw_ hz_
        have HQ22 := Lib.hid (ownsRow_chg HQ21.out Ha22.out fun _ _ => id)
        have Hnew2 := Lib.hid (show ∀ j u, (flatI [⟨op, (an + 1), xs⟩])[j]? = some u → wb.cell? ((⟨bb2, 0, none⟩ : Addr).add j) = some u from fun j u hj => by rw [add_zero_off, cell_of_row wb bb2 j _ _ (0, 0) Hb22.out]; show (flatI [⟨op, (an + 1), xs⟩]).toArray[j]? = some u; rw [List.getElem?_toArray]; exact hj)
        have Hz22' := Lib.hid (show w1.heap.size ≤ w21.heap.size ∧ w21.heap.size ≤ wb.heap.size from ⟨HC21.out.size, Ha22.out.size⟩)
        clear hB21
        go_wp2_with (at_builtin; go_must (rw [← Hx22.out, Hw22.out]); go_must (refine wpList_append_at _ rfl _ _ 22 rfl w1.heap.size 46 i0 (.agg #[.int .i64 0, .int .i64 0, .string ⟨#[]⟩]) 3 32 Tryz.underlying22 Hi.out Zi0.out Zi1.out Zi2.out rfl (by decide) qv (k + 1) (flatI (jumpI :: (l0.take k).map shI)) rfl HQ22.out ⟨bb2, 0, none⟩ 1 1 (flatI [⟨op, (an + 1), xs⟩]) rfl rfl Hnew2.out (flatI_one _) (by omega) (by omega) (by have := Hz22'.out; omega) ?_); intro v23 w23 hown23 hgr23 hpl23)
        have Hg23 := Lib.hid ((Ha22.out.mono fun _ _ h => h.elim : Chg (fun j => qv.ownBlock = some j) w21 wb).grown hgr23 fun j hj => .inl hj)
        have HQ23 := Lib.hid (show w23.ownsRow w1.heap.size 46 3 v23 (k + 1 + 1) (flatI (jumpI :: (l0.take (k + 1)).map shI)) by rw [sh_snoc _ _ _ hlt', flatI_app, ← Hsh.out]; exact hown23)
        have HP23 := Lib.hid (ownsRow_chg HP21.out Hg23.out fun j hj e => HA21.out j hj e)
        have HA23 := Lib.hid (show ∀ j, v21.ownBlock = some j → v23.ownBlock ≠ some j from fun j hj hq => by
          rcases hpl23 with h | h
          · exact HA21.out j hj (by rw [← h]; exact hq)
          · rw [h] at hq; cases hq; have := (World.ownsRow.lt HP21.out _ hj).2; have := Hz22'.out; omega)
        have HC23 := Lib.hid (HC21.out.transR Hg23.out fun j hj e => by have h1 := (World.ownsRow.lt HQ21.out j e).1; exact absurd hj (by omega))
        clear hown23 hgr23 hpl23
        go_roundw
        case rel => exact ⟨k + 1, by omega, by go_num, HP23.out, HQ23.out, HA23.out, HC23.out⟩
        case measure => simp [intOf]; omega
      · have hop : ¬ (17 ≤ op ∧ op ≤ 19) := fun h => ht (by unfold takesF; rw [if_neg (by omega), if_neg (by omega), if_neg (by omega), if_pos (by omega)])
        have Hsh : Hid ((⟨op, an, xs⟩ : InsL) = shI l0[k]) := Lib.hid (by rw [← Hxx.out]; unfold shI; rw [if_neg (show ¬ (17 ≤ op ∧ op ≤ 19) from hop)])
        have HB := Lib.hid hB9
        have Hwr := Lib.hid (Ha8.out.trans Hc89.out)
        clear hB9
        obtain ⟨tk, htk⟩ : ∃ z, z = takesF op := ⟨_, rfl⟩
        rw [← htk] at ht ⊢
        clear htk
        go_upto_region 15 with fail
        clear ht
        obtain ⟨e0, e1, e2⟩ := var3 HB.out
        have hal_ := (Chg.refl NoB w9).alloc (.cells #[.int .i64 op, .int .i64 an, .string (tx xs)] 46)
        have hb_ := heap_alloc_new w9 (.cells #[.int .i64 op, .int .i64 an, .string (tx xs)] 46)
        obtain ⟨ba, hxb_⟩ : ∃ b, b = w9.heap.size := ⟨_, rfl⟩
        obtain ⟨wa, hw_⟩ : ∃ w_, w9.alloc (.cells #[.int .i64 op, .int .i64 an, .string (tx xs)] 46) = w_ := ⟨_, rfl⟩
        have hz_ : wa.heap.size = ba + 1 := by rw [← hw_, hxb_]; exact alloc_size _ _
        rw [hw_] at hal_ hb_
        rw [← hxb_] at hb_
        have Hw20 := Lib.hid hw_
        have Hx20 := Lib.hid hxb_
        have Ha20 := Lib.hid hal_
        have Hb20 := Lib.hid hb_
        have Hz20 := Lib.hid hz_
        clear hal_ hb_ hxb_ hw_ hz_
        have Hp20 := Lib.hid (ownsRow_chg (ownsRow_chg Hp9.out Hwr.out fun _ _ => id) Ha20.out fun _ _ => id)
        have Hnew := Lib.hid (show ∀ j u, (flatI [⟨op, an, xs⟩])[j]? = some u → wa.cell? ((⟨ba, 0, none⟩ : Addr).add j) = some u from fun j u hj => by rw [add_zero_off, cell_of_row wa ba j _ _ (0, 0) Hb20.out]; show (flatI [⟨op, an, xs⟩]).toArray[j]? = some u; rw [List.getElem?_toArray]; exact hj)
        have Hz20' := Lib.hid (show w1.heap.size ≤ wr.heap.size ∧ wr.heap.size ≤ w9.heap.size ∧ w9.heap.size ≤ wa.heap.size from ⟨Hch.out.size, Hwr.out.size, Ha20.out.size⟩)
        go_upto_region 16 with (at_builtin; go_must (rw [← Hx20.out, Hw20.out]); go_must (refine wpList_append_at _ rfl _ _ 22 rfl w1.heap.size 46 i0 (.agg #[.int .i64 0, .int .i64 0, .string ⟨#[]⟩]) 3 32 Tryz.underlying22 Hi.out Zi0.out Zi1.out Zi2.out rfl (by decide) pv (k + 1) (flatI (⟨1, 0, []⟩ :: (l0.take k).map shI)) rfl Hp20.out ⟨ba, 0, none⟩ 1 1 (flatI [⟨op, an, xs⟩]) rfl rfl Hnew.out (flatI_one _) (by omega) (by omega) (by have := Hz20'.out; omega) ?_); intro v21 w21 hown21 hgr21 hpl21)
        have Hg21 := Lib.hid ((Ha20.out.mono fun _ _ h => h.elim : Chg (fun j => pv.ownBlock = some j) w9 wa).grown hgr21 fun j hj => .inl hj)
        have Hh21 := Lib.hid ((Hwr.out.mono fun _ _ h => h.elim : Chg (fun j => pv.ownBlock = some j) wr w9).trans Hg21.out)
        have HP21 := Lib.hid (show w21.ownsRow w1.heap.size 46 3 v21 (k + 1 + 1) (flatI (⟨1, 0, []⟩ :: (l0.take (k + 1)).map shI)) by rw [sh_snoc _ _ _ hlt', flatI_app, ← Hsh.out]; exact hown21)
        have HQ21 := Lib.hid (ownsRow_chg Hq9.out Hh21.out fun j hj e => Hap.out j e hj)
        have HA21 := Lib.hid (show ∀ j, v21.ownBlock = some j → qv.ownBlock ≠ some j from fun j hj hq => by
          rcases hpl21 with h | h
          · exact Hap.out j (by rw [← h]; exact hj) hq
          · rw [h] at hj; cases hj; have := (Hql.out _ hq).2; have := Hz20'.out; omega)
        have HC21 := Lib.hid (Hch.out.transR Hh21.out fun j hj e => by have h1 := (Hpl.out j e).1; exact absurd hj (by omega))
        have hB21 := row_kept Hg21.out HB.out (fun e => by have h1 := (Hpl.out eb e).2; have h2 := Heb.out; omega)
        clear hown21 hgr21 hpl21 e0 e1 e2
        obtain ⟨e0, e1, e2⟩ := var3 hB21
        have hal_ := (Chg.refl NoB w21).alloc (.cells #[.int .i64 op, .int .i64 an, .string (tx xs)] 46)
        have hb_ := heap_alloc_new w21 (.cells #[.int .i64 op, .int .i64 an, .string (tx xs)] 46)
        obtain ⟨bb2, hxb_⟩ : ∃ b, b = w21.heap.size := ⟨_, rfl⟩
        obtain ⟨wb, hw_⟩ : ∃ w_, w21.alloc (.cells #[.int .i64 op, .int .i64 an, .string (tx xs)] 46) = w_ := ⟨_, rfl⟩
        have hz_ : wb.heap.size = bb2 + 1 := by rw [← hw_, hxb_]; exact alloc_size _ _
        rw [hw_] at hal_ hb_
        rw [← hxb_] at hb_
        have Hw22 := Lib.hid hw_
        have Hx22 := Lib.hid hxb_
        have Ha22 := Lib.hid hal_
        have Hb22 := Lib.hid hb_
        have Hz22 := Lib.hid hz_
        clear hal_ hb_ hxb_ hw_ hz_
        have HQ22 := Lib.hid (ownsRow_chg HQ21.out Ha22.out fun _ _ => id)
        have Hnew2 := Lib.hid (show ∀ j u, (flatI [⟨op, an, xs⟩])[j]? = some u → wb.cell? ((⟨bb2, 0, none⟩ : Addr).add j) = some u from fun j u hj => by rw [add_zero_off, cell_of_row wb bb2 j _ _ (0, 0) Hb22.out]; show (flatI [⟨op, an, xs⟩]).toArray[j]? = some u; rw [List.getElem?_toArray]; exact hj)
        have Hz22' := Lib.hid (show w1.heap.size ≤ w21.heap.size ∧ w21.heap.size ≤ wb.heap.size from ⟨HC21.out.size, Ha22.out.size⟩)
        clear hB21
        go_wp2_with (at_builtin; go_must (rw [← Hx22.out, Hw22.out]); go_must (refine wpList_append_at _ rfl _ _ 22 rfl w1.heap.size 46 i0 (.agg #[.int .i64 0, .int .i64 0, .string ⟨#[]⟩]) 3 32 Tryz.underlying22 Hi.out Zi0.out Zi1.out Zi2.out rfl (by decide) qv (k + 1) (flatI (jumpI :: (l0.take k).map shI)) rfl HQ22.out ⟨bb2, 0, none⟩ 1 1 (flatI [⟨op, an, xs⟩]) rfl rfl Hnew2.out (flatI_one _) (by omega) (by omega) (by have := Hz22'.out; omega) ?_); intro v23 w23 hown23 hgr23 hpl23)
        have Hg23 := Lib.hid ((Ha22.out.mono fun _ _ h => h.elim : Chg (fun j => qv.ownBlock = some j) w21 wb).grown hgr23 fun j hj => .inl hj)
        have HQ23 := Lib.hid (show w23.ownsRow w1.heap.size 46 3 v23 (k + 1 + 1) (flatI (jumpI :: (l0.take (k + 1)).map shI)) by rw [sh_snoc _ _ _ hlt', flatI_app, ← Hsh.out]; exact hown23)
        have HP23 := Lib.hid (ownsRow_chg HP21.out Hg23.out fun j hj e => HA21.out j hj e)
        have HA23 := Lib.hid (show ∀ j, v21.ownBlock = some j → v23.ownBlock ≠ some j from fun j hj hq => by
          rcases hpl23 with h | h
          · exact HA21.out j hj (by rw [← h]; exact hq)
          · rw [h] at hq; cases hq; have := (World.ownsRow.lt HP21.out _ hj).2; have := Hz22'.out; omega)
        have HC23 := Lib.hid (HC21.out.transR Hg23.out fun j hj e => by have h1 := (World.ownsRow.lt HQ21.out j e).1; exact absurd hj (by omega))
        clear hown23 hgr23 hpl23
        go_roundw
        case rel => exact ⟨k + 1, by omega, by go_num, HP23.out, HQ23.out, HA23.out, HC23.out⟩
        case measure => simp [intOf]; omega
    · obtain rfl : k = m := by omega
      clear hlt hk
      have Htk := Lib.hid (show l0.take k = l0 from List.take_of_length_le (by rw [← Hpm.out]; exact Nat.le_refl _))
      rw [Htk.out] at Hp9 Hq9
      obtain ⟨w8, rfl⟩ : ∃ z, z = wr := ⟨_, rfl⟩
      have hgv := Hgd.out
      have hwf1 : ∀ x ∈ movedL l0, x.wf := by
        intro x hx
        rcases List.mem_cons.1 hx with rfl | hx
        · exact ⟨by decide, by decide, by decide⟩
        · obtain ⟨z, hz, rfl⟩ := List.mem_map.1 hx
          exact shI_wf (Hwf.out z hz) Hall.out.2.1 (Hall.out.2.2 z hz)
      have hwf2 : ∀ x ∈ jumpedL l0, x.wf := by
        intro x hx
        rcases List.mem_cons.1 hx with rfl | hx
        · exact ⟨by decide, by decide, by decide⟩
        · obtain ⟨z, hz, rfl⟩ := List.mem_map.1 hx
          exact shI_wf (Hwf.out z hz) Hall.out.2.1 (Hall.out.2.2 z hz)
      have hlm : (movedL l0).length = k + 1 := by show (_ :: l0.map shI).length = _; rw [List.length_cons, List.length_map, ← Hpm.out]
      have hlj : (jumpedL l0).length = k + 1 := by show (_ :: l0.map shI).length = _; rw [List.length_cons, List.length_map, ← Hpm.out]
      obtain ⟨kp, hsp⟩ := InsS.of_row (ps := movedL l0) (by rw [hlm]; exact Hp9.out) fun i hi => hwf1 _ (List.getElem_mem hi)
      obtain ⟨kq, hsq⟩ := InsS.of_row (ps := jumpedL l0) (by rw [hlj]; exact Hq9.out) fun i hi => hwf2 _ (List.getElem_mem hi)
      have Hmv := Lib.hid (moved_run (ps := l0) (view := l1) Hcb.out.symm (by rw [← Hpm.out]; exact hm255) hgv.symm)
      have Hjr := Lib.hid (jumped_run (ps := l0) (view := l1) Hwf.out hwf2 Hcb.out.symm (by rw [← Hpm.out]; exact hm255) hgv.symm)
      have HRp := Lib.hid (fun (w' : World) (h : Chg NoB w8 w') => run_any (movedL l0) l1 _ _ _ _ kp 0 kb1 ko1 W.heap.size w' (Hwd.out.keep (Ha1.out.trans (Hch.out.trans h))) (Hlb.out.keep (Ha1.out.trans (Hch.out.trans h))) (ml_keep Hml.out (Ha1.out.trans (Hch.out.trans h))) (by rw [hlm]; omega) (by have := Hsm.out.vlen; omega) (fun x hx => by have := Hsm.out.files x hx; omega) (hsp.keep h fun _ _ => id) (Hv.out.keep (Ha1.out.trans (Hch.out.trans h)) fun _ _ => id))
      have HRq := Lib.hid (fun (w' : World) (h : Chg NoB w8 w') => run_any (jumpedL l0) l1 _ _ _ _ kq 0 kb1 ko1 W.heap.size w' (Hwd.out.keep (Ha1.out.trans (Hch.out.trans h))) (Hlb.out.keep (Ha1.out.trans (Hch.out.trans h))) (ml_keep Hml.out (Ha1.out.trans (Hch.out.trans h))) (by rw [hlj]; omega) (by have := Hsm.out.vlen; omega) (fun x hx => by have := Hsm.out.files x hx; omega) (hsq.keep h fun _ _ => id) (Hv.out.keep (Ha1.out.trans (Hch.out.trans h)) fun _ _ => id))
      have HR0 := Lib.hid (fun (w' : World) (h : Chg NoB w8 w') => HRun.out w' (Ha1.out.trans (Hch.out.trans h)) Hsm.out)
      unfold RunP at HRp HRq HR0
      rw [Hmv.out.1, Hmv.out.2.1, Hmv.out.2.2] at HRp
      have v8 := var1 (row_kept Hch.out Hb1.out id)
      have Hf := Lib.hid (run_facts (view := l1) Hwf.out)
      have Hf2 := Lib.hid (run_facts (view := l1) hwf2)
      clear hwf1 hwf2 hlm hlj hsp hsq hgv
      go_wp2_with fail
      refine (HRp.out w8 (Chg.refl _ _)).mono ?_
      rintro e w9 ⟨hc9, q9, k9, c9, kb9, ko9, hk9, rfl, hs9⟩
      have hk90 : k9 = 0 := hk9
      subst hk90
      have Hc9 := Lib.hid hc9
      clear hc9 hk9 hs9 v8 HRp
      have hal_ := (Chg.refl NoB w9).alloc (.cells #[.slice q9 0 c9] 25)
      have hb_ := heap_alloc_new w9 (.cells #[.slice q9 0 c9] 25)
      obtain ⟨tb, hxb_⟩ : ∃ b, b = w9.heap.size := ⟨_, rfl⟩
      obtain ⟨w10, hw_⟩ : ∃ w_, w9.alloc (.cells #[.slice q9 0 c9] 25) = w_ := ⟨_, rfl⟩
      have hz_ : w10.heap.size = tb + 1 := by rw [← hw_, hxb_]; exact alloc_size _ _
      rw [hw_] at hal_ hb_
      rw [← hxb_] at hb_
      have Hw10 := Lib.hid hw_
      have Hx10 := Lib.hid hxb_
      have Ha10 := Lib.hid hal_
      have Hb10 := Lib.hid hb_
      have Hz10 := Lib.hid hz_
      clear hal_ hb_ hxb_ hw_ hz_
      have Hc10 := Lib.hid (Hc9.out.trans Ha10.out)
      have HR10 := Lib.hid (HR0.out w10 Hc10.out)
      have v10 := var1 (row_kept (Hch.out.trans Hc10.out) Hb1.out id)
      have t0 := var1 Hb10.out
      have ft := row_free Hb10.out 0
      clear HR0
      go_upto_region 19 with fail
      rw [Hw10.out, ← Hx10.out]
      go_wp2_with fail
      refine HR10.out.mono ?_
      rintro e w11 ⟨hc11, q11, k11, c11, kb11, ko11, hk11, rfl, hs11⟩
      obtain ⟨d, hd⟩ : ∃ z, z = runL l0 l1 := ⟨_, rfl⟩
      obtain ⟨sn, hsn⟩ : ∃ z, z = runN l0 l1 := ⟨_, rfl⟩
      obtain ⟨sy, hsy⟩ : ∃ z, z = runE l0 l1 := ⟨_, rfl⟩
      rw [← hd] at hk11 hs11
      rw [← hsn, ← hsy]
      rw [← hd, ← hsn, ← hsy] at Hjr Hf
      have Hc11 := Lib.hid hc11
      have Hs11 := Lib.hid hs11
      have Hk11 := Lib.hid hk11
      have hb11 := row_kept hc11 Hb10.out id
      have f11 := row_free hb11 0
      have t11 := var1 hb11
      have v11 := var1 (row_kept (Hch.out.trans (Hc10.out.trans hc11)) Hb1.out id)
      have Hset := Lib.hid (heap_set hb11 (i := 0) (.slice q11 k11 c11))
      have Hsc := Lib.hid (show Chg (fun j => j = tb) w11 (w11.setCell ⟨tb, 0, none⟩ (.slice q11 k11 c11)) from (Chg.refl (fun j => j = tb) w11).setCell (p := ⟨tb, 0, none⟩) (.inl rfl) _)
      clear hc11 hs11 hk11 hb11 HR10 v10 t0 ft hd hsn hsy
      go_upto_region 22 with fail
      obtain ⟨w12, hw12⟩ : ∃ z, z = w11.setCell ⟨tb, 0, none⟩ (.slice q11 k11 c11) := ⟨_, rfl⟩
      rw [← hw12] at Hset Hsc ⊢
      have Htb := Lib.hid (show w8.heap.size ≤ tb by rw [Hx10.out]; exact Hc9.out.size)
      have Hc12 := Lib.hid ((Hc10.out.trans Hc11.out).transR Hsc.out fun j hj e => by have h1 := Htb.out; exact absurd hj (by omega))
      have Hs12 := Lib.hid (Hs11.out.keep Hsc.out fun j hj e => by have h1 := hj.1; have h2 := Hz10.out; omega)
      have v12 := var1 (row_kept (Hch.out.trans Hc12.out) Hb1.out id)
      have HRq12 := Lib.hid (HRq.out w12 Hc12.out)
      clear hw12 v11 f11 t11 HRq
      go_wp2_with fail
      refine HRq12.out.mono ?_
      rintro e w13 ⟨hc13, q13, k13, c13, kb13, ko13, hk13, rfl, hs13⟩
      obtain ⟨d2, hd2⟩ : ∃ z, z = runL (jumpedL l0) l1 := ⟨_, rfl⟩
      obtain ⟨sn2, hsn2⟩ : ∃ z, z = runN (jumpedL l0) l1 := ⟨_, rfl⟩
      obtain ⟨sy2, hsy2⟩ : ∃ z, z = runE (jumpedL l0) l1 := ⟨_, rfl⟩
      rw [← hd2] at hk13 hs13
      rw [← hsn2, ← hsy2]
      rw [← hd2, ← hsn2, ← hsy2] at Hjr
      have Hc13 := Lib.hid hc13
      have Hs13 := Lib.hid hs13
      clear hc13 hs13 hk13 HRq12 v12 hd2 hsn2 hsy2
      have hal_ := (Chg.refl NoB w13).alloc (.cells #[.slice q13 k13 c13] 25)
      have hb_ := heap_alloc_new w13 (.cells #[.slice q13 k13 c13] 25)
      obtain ⟨ub, hxb_⟩ : ∃ b, b = w13.heap.size := ⟨_, rfl⟩
      obtain ⟨w14, hw_⟩ : ∃ w_, w13.alloc (.cells #[.slice q13 k13 c13] 25) = w_ := ⟨_, rfl⟩
      have hz_ : w14.heap.size = ub + 1 := by rw [← hw_, hxb_]; exact alloc_size _ _
      rw [hw_] at hal_ hb_
      rw [← hxb_] at hb_
      have Hw14 := Lib.hid hw_
      have Hx14 := Lib.hid hxb_
      have Ha14 := Lib.hid hal_
      have Hb14 := Lib.hid hb_
      have Hz14 := Lib.hid hz_
      clear hal_ hb_ hxb_ hw_ hz_
      have Hc14 := Lib.hid (Ha1.out.trans (Hch.out.trans (Hc12.out.trans (Hc13.out.trans Ha14.out))))
      have Hb1214 := Lib.hid (row_kept (Hc13.out.trans Ha14.out) Hset.out id)
      have Hjj := Hjr.out
      have Hn := Hf.out.2.2.1
      go_upto_region 23 with fail
      rw [Hw14.out, ← Hx14.out]
      by_cases h45 : sy = 45
      · rw [if_pos (.inl h45)] at Hjj
        subst h45
        subst Hjj
        go_wp2_with fail
        go_ret
        exact ⟨rfl, Hc14.out⟩
      by_cases h96 : sn = 4096
      · rw [if_pos (.inr h96)] at Hjj
        subst h96
        subst Hjj
        go_wp2_with fail
        go_ret
        exact ⟨rfl, Hc14.out⟩
      rw [if_neg (by rintro (h | h); exact h45 h; exact h96 h)] at Hjj
      obtain ⟨rfl, rfl, rfl⟩ := Hjj
      have hsn4 : sn ≤ 4096 := Hf.out.2.1
      have hgz := good_sizes Hf.out.1
      have HS := Lib.hid (rsame_any d2 d2 _ _ _ _ _ _ _ _ w14 (by omega) (by omega) (Hs12.out.keep (Hc13.out.trans Ha14.out) fun _ _ => id) (Hs13.out.keep Ha14.out fun _ _ => id))
      rw [decide_eq_true rfl] at HS
      have a0 := var1 Hb1214.out
      have b0 := var1 Hb14.out
      have b45 : (sy2 == 45) = false := by rw [beq_eq_false_iff_ne]; exact h45
      have b96 : ((sn : Int) == 4096) = false := by rw [beq_eq_false_iff_ne]; omega
      clear hgz Hn h45 h96
      go_wp2_with fail
      refine HS.out.mono ?_
      rintro e w15 ⟨rfl, hc15⟩
      have Hc15 := Lib.hid (Hc14.out.trans hc15)
      clear hc15 a0 b0 HS
      go_wp2_with fail
      go_ret
      exact ⟨rfl, Hc15.out⟩
/-FRAME-/
set_option maxRecDepth 100000 in
theorem vmAlone_lifted (os : Os) (started : os.Started) (H : Type) (enc : TypeId × Value → H) :
    ReturnsInHanded {} Tryz.checked os 7 .any (fun w args => (Rows.vmAloneSpec.pre enc Tryz.prog Tryz.f7 [] false w args ∧ laidMetH Tryz.prog Rows.vmAloneRow.laid w) ∧ sizedMet enc Tryz.prog Tryz.f7 (OpenSpec.ofChange Rows.vmAloneSpec) false w args)
      (Rows.vmAloneSpec.post enc Tryz.prog Tryz.f7 false true false false) := by
  refine returns_both (C := Tryz.checked) (X := fun w _ => laidMetH Tryz.prog Rows.vmAloneRow.laid w) (fun _ _ _ hh h => h.of_heap hh) Tryz.own started (by kernel_rfl) Tryz.func7
    (ChangeSpec.witness_shaped (enc := enc) (C := Tryz.checked) (os := os) (X := fun w _ => laidMetH Tryz.prog Rows.vmAloneRow.laid w) false (World.laidAll Tryz.prog os Rows.vmAloneRow.laid) #[.slice none 0 0, .agg #[.slice none 0 0]] 8 (World.laidAll_os _ _ _)
      (World.shaped_of_ZipB (by kernel_rfl) (by kernel_rfl)) (by kernel_rfl) (by kernel_rfl) (by kernel_rfl)
      (by rw [MakeChecks.laidMetH_plain _ _ _ (by kernel_rfl)]; exact laidMet_laidAll _ (by kernel_rfl) (by kernel_rfl))) ?_
  intro W base args ds gs before hval0 hW _ hsz hL hsh _
  have hval : ∀ (j : Nat) t v, Tryz.f7.params[j]? = some t → args[j]? = some v → Value.okWide Tryz.prog W .any base t v := hval0
  have hW' := hW
  obtain ⟨p, q, hA0, hV, rfl, _, _⟩ := hW
  have hA : DataW.TrodAll enc Tryz.prog W 0 (fun _ => true) true Tryz.f7.params.toList args.toList ds p := hA0
  have hsz1 : (DataW.weightsEach Tryz.prog (Tryz.f7.params.toList ++ Rows.vmAloneSpec.plain.varTypes Tryz.prog) (ds ++ gs)).all (· ≤ reachBytes) = true := hsz
  rw [Tryz.params7] at hA hval hsz1
  obtain ⟨v0, v1, d0, d1, p0, p1, rfl, rfl, rfl, h0, h1⟩ := trodAll_two hA
  obtain ⟨rfl, rfl⟩ := trodVars_none hV
  obtain ⟨l0, kb0, ko0, hn0⟩ := open_inss (hval 0 22 v0 rfl rfl) h0 (fun m hm => of_decide_eq_true (List.all_eq_true.1 hsz1 m (DataW.weights_mem_each (j := 0) (t := 22) (d := d0) rfl rfl m hm)))
  obtain ⟨l1, c1, kb1, ko1, rfl, hn1, hr1⟩ := open_tree (hval 1 25 v1 rfl rfl) h1 (fun m hm => of_decide_eq_true (List.all_eq_true.1 hsz1 m (DataW.weights_mem_each (j := 1) (t := 25) (d := d1) rfl rfl m hm)))
  simp only [List.append_nil] at hW'
  rw [MakeChecks.laidMetH_plain _ _ _ (by kernel_rfl)] at hL
  have hml : Pth.Ml W := wml_of hsh
  obtain ⟨hlb, hwd⟩ := lb8_of hL hsh
  clear hA0 hval0
  refine (vmAlone_all l0 _ kb0 ko0 l1 _ kb1 ko1 W hn0 hn1 hr1 hml hlb hwd).mono fun e W' ⟨he, hb⟩ => ?_
  subst he
  exact ⟨_, rfl, _, _, _, [], _, [], hW', trodAll_mk1 (shut_bool Tryz.underlying4 _), (trodAll_cons_mk (inss_stay h0 hb.below) (trodAll_cons_mk (tree_stays h1 hb.below) trodAll_mk0)), rfl, hb.below.frame _, fun h => by cases h⟩
theorem vmAlone_holds : Rows.VmAloneSaid :=
  OpenClaim.holds_of_wide 7 Tryz.f7 rfl rfl rfl rfl rfl rfl rfl ⟨rfl, rfl, rfl, rfl, rfl⟩ rfl rfl rfl rfl rfl (by kernel_rfl) Tryz.func7 (by kernel_rfl)
    (of_decide_eq_true (by kernel_rfl)) (by unfold Func.isWrapper; first | (rw [if_pos (by decide +kernel)]; kernel_rfl) | (rw [if_neg (by decide +kernel)]; exact ⟨rfl, rfl⟩))
    (fun os started H enc _ => vmAlone_lifted os started H enc)
theorem vmAlone_card : Rows.VmAloneCardSaid :=
  Claim7.holds_tied_plain_at .later [] [.data, .data, .data, .data, .sentinel, .sentinel, .widerDeep, .pinned] true (true, "ec86cb7f90a952613a297ea1a1848055ebca9cdb2e48697e77ccb43f8b788bff") true vmAlone_holds (fun _ h => by cases h) (by kernel_rfl) (fun _ h => by cases h) vmAlone_row_tie rfl ⟨rfl, rfl⟩ (by kernel_rfl) rfl
    (fun f fn hf hfn => by
      obtain rfl : f = 7 := Option.some.inj ((show Tryz.prog.funcNamed "sapling/saplinglaw10.VmAlone" = some 7 by kernel_rfl).symm.trans hf) |>.symm
      obtain rfl : fn = Tryz.f7 := (Option.some.inj (Tryz.func7.symm.trans hfn)).symm
      exact ⟨by kernel_rfl, fun j t ht => by
        rw [Tryz.params7] at ht
        have hm : t ∈ [22, 25] := by simpa using Array.mem_of_getElem? ht
        have hall : ([22, 25].all fun u => !Tryz.prog.wantsStandIn u) = true := by kernel_rfl
        exact (show Tryz.prog.wantsStandIn t = false by simpa using List.all_eq_true.1 hall t hm)⟩)
    (by kernel_rfl)
#print axioms vmAlone_card
end Go.Proofs.YthehpmffkkogpaaGreatDoor
