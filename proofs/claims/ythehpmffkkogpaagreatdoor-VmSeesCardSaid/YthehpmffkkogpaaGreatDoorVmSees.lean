/- Proved: the statement VmSees holds for every program, tree and file. Conditions: the listed package variables read as the program's text lays them (the card ties them); nothing else. -/
import Derived.Test.YthehpmffkkogpaaGreatDoorVqH
import Derived.Test.YthehpmffkkogpaaGreatDoorVqB
import Derived.Laws.RangeAny
import Derived.Laws.RangeString


namespace Go.Proofs.YthehpmffkkogpaaGreatDoor
set_option linter.unusedVariables false
open Go.ChangeShapes Go.WideShapes Go.ChangeAt Go.RowKit
open Go.ChangeMaps (open_string shut_string)
theorem letter_at {l : List UInt8} {pos : Nat} (hp : pos < (tx l).size) (h : (97 : Int) ≤ ((Utf8.decode (tx l) pos).1 : Nat) ∧ (((Utf8.decode (tx l) pos).1 : Nat) : Int) ≤ 122) : ∃ c ∈ l, (97 : UInt8) ≤ c ∧ c ≤ 122 := by
  by_cases ha : ((tx l)[pos]'hp).toNat < 128
  · rw [decode_ascii _ _ hp ha] at h
    refine ⟨(tx l)[pos]'hp, ?_, ?_, ?_⟩
    · show l.toArray[pos]'hp ∈ l
      exact List.mem_toArray.1 (Array.getElem_mem _)
    · rw [UInt8.le_iff_toNat_le]; show 97 ≤ _; have := h.1; simp only at this; omega
    · rw [UInt8.le_iff_toNat_le]; show _ ≤ 122; have := h.2; simp only at this; omega
  · have := (decode_high _ _ hp (by omega)).1
    omega
theorem width_pos (s : ByteArray) (pos : Nat) (h : pos < s.size) : 1 ≤ (Utf8.decode s pos).2 := by
  by_cases ha : (s[pos]'h).toNat < 128
  · rw [decode_ascii s pos h ha]
    exact Nat.le_refl _
  · exact (decode_high s pos h (by omega)).2
set_option maxHeartbeats 4000000 in
set_option maxRecDepth 20000 in
theorem vmSees_all (l0 : List InsL) (v0 : Value) (kb0 ko0 : Nat) (l1 : List FileL) (u1 : Value) (kb1 ko1 : Nat) (f2 : FileL) (W : World) (hn0 : InsS W (OldB W) v0 l0 kb0 ko0) (hn1 : InpS W (OldB W) u1 l1 kb1 ko1) (hr1 : Reach l1) (hr2 : ReachF f2) (hml : Pth.Ml W) (hlb : Lb W.heap.size W) (hwd : Wd W.heap.size W) :
    Calls Tryz.prog 6 #[v0, .agg #[u1], .agg #[.string (tx f2.1), .string (tx f2.2)]] W fun e w' => e = .returned (.bool true) ∧ Chg NoB W w' := by
  have hp0_ := hn0
  have hv0_ := hn1
  obtain ⟨⟨pq, pc, rfl, p1_, p2_, -⟩, -⟩ := hn0
  obtain ⟨⟨q, c, rfl, -, -, -⟩, -⟩ := hn1
  obtain ⟨m, hm_⟩ : ∃ m, m = l0.length := ⟨_, rfl⟩
  obtain ⟨n, hn_⟩ : ∃ n, n = l1.length := ⟨_, rfl⟩
  rw [← hm_] at hp0_ p1_ ⊢
  rw [← hn_] at hv0_ ⊢
  have Hpm := Lib.hid hm_
  have Hvn := Lib.hid hn_
  have Hpc := Lib.hid (And.intro p1_ p2_)
  have Hp := Lib.hid hp0_
  have Hv := Lib.hid hv0_
  have Hrc := Lib.hid hr1
  have Hwd := Lib.hid hwd
  have Hlb := Lib.hid hlb
  have Hml := Lib.hid hml
  have HRun := Lib.hid (fun (w' : World) (h : Chg NoB W w') (sm : SmallG l0 l1) => run_any l0 l1 _ _ _ _ kb0 ko0 kb1 ko1 W.heap.size w' (hwd.keep h) (hlb.keep h) (ml_keep hml h) (by have := sm.plen; omega) (by have := sm.vlen; omega) (fun x hx => by have := sm.files x hx; omega) (hp0_.keep h fun _ _ => id) (hv0_.keep h fun _ _ => id))
  have Hwf := Lib.hid hp0_.wfs
  clear hm_ hn_ hp0_ hv0_ p1_ p2_ hr1 hwd hlb hml
  obtain ⟨P, D⟩ := f2
  obtain ⟨hrP, hrD⟩ := hr2
  change P.length ≤ _ at hrP
  change D.length ≤ _ at hrD
  obtain ⟨pl, hpl⟩ : ∃ n, n = P.length := ⟨_, rfl⟩
  obtain ⟨dl, hdl⟩ : ∃ n, n = D.length := ⟨_, rfl⟩
  have hsP : (tx P).size = pl := by rw [tx_size, hpl]
  have hsD : (tx D).size = dl := by rw [tx_size, hdl]
  rw [← hpl] at hrP
  rw [← hdl] at hrD
  have Hpl := Lib.hid hpl
  have Hdl := Lib.hid hdl
  clear hpl hdl
  show Calls Tryz.prog 6 #[_, _, .agg #[.string (tx P), .string (tx D)]] W _
  have hal_ := (Chg.refl NoB W).alloc (.cells #[.slice q n c] 25)
  have hb_ := heap_alloc_new W (.cells #[.slice q n c] 25)
  obtain ⟨vb, hxb_⟩ : ∃ b, b = W.heap.size := ⟨_, rfl⟩
  obtain ⟨w1, hw_⟩ : ∃ w_, W.alloc (.cells #[.slice q n c] 25) = w_ := ⟨_, rfl⟩
  have hz_ : w1.heap.size = vb + 1 := by rw [← hw_, hxb_]; exact alloc_size _ _
  rw [hw_] at hal_ hb_
  rw [← hxb_] at hb_
  have Hw1 := Lib.hid hw_
  have Hx1 := Lib.hid hxb_
  have Ha1 := Lib.hid hal_
  have Hb1 := Lib.hid hb_
  have Hz1 := Lib.hid hz_
  clear hal_ hb_ hxb_ hw_ hz_
  have hal_ := (Chg.refl NoB w1).alloc (.cells #[.string (tx P), .string (tx D)] 43)
  have hb_ := heap_alloc_new w1 (.cells #[.string (tx P), .string (tx D)] 43)
  obtain ⟨fb, hxb_⟩ : ∃ b, b = w1.heap.size := ⟨_, rfl⟩
  obtain ⟨w2, hw_⟩ : ∃ w_, w1.alloc (.cells #[.string (tx P), .string (tx D)] 43) = w_ := ⟨_, rfl⟩
  have hz_ : w2.heap.size = fb + 1 := by rw [← hw_, hxb_]; exact alloc_size _ _
  rw [hw_] at hal_ hb_
  rw [← hxb_] at hb_
  have Hw2 := Lib.hid hw_
  have Hx2 := Lib.hid hxb_
  have Ha2 := Lib.hid hal_
  have Hb2 := Lib.hid hb_
  have Hz2 := Lib.hid hz_
  clear hal_ hb_ hxb_ hw_ hz_
  have Hc2 := Lib.hid (Ha1.out.trans Ha2.out)
  have Hb12 := Lib.hid (row_kept Ha2.out Hb1.out id)
  go_enter Tryz.func6, Tryz.ntmps6
  go_upto_region 1 with fail
  rw [Hw1.out, ← Hx1.out]
  rw [Hw2.out, ← Hz1.out, ← Hx2.out]
  go_wp2_with fail
  refine (malive_any W.heap.size w2 (Hwd.out.keep Hc2.out) (Hlb.out.keep Hc2.out) (ml_keep Hml.out Hc2.out)).mono ?_
  rintro e w3 ⟨rfl, hc3⟩
  have Hc3 := Lib.hid (Hc2.out.trans hc3)
  have HG := Lib.hid (mgreat_any l0 l1 Hrc.out _ _ _ _ kb0 ko0 kb1 ko1 w3 (Hp.out.keep Hc3.out fun _ _ => id) (Hv.out.keep Hc3.out fun _ _ => id))
  have v0 := var1 (row_kept hc3 Hb12.out id)
  have Hd3 := Lib.hid hc3
  obtain ⟨f0, f1⟩ := var2 (row_kept hc3 Hb2.out id)
  clear hc3
  go_wp2_with fail
  refine HG.out.mono ?_
  rintro e w4 ⟨hc4, g, rfl, hg⟩
  have Hc4 := Lib.hid (Hc3.out.trans hc4)
  have Hd4 := Lib.hid (Hd3.out.trans hc4)
  have Hg := Lib.hid hg
  clear hc4 hg v0 f0 f1 HG
  have v0 := var1 (row_kept Hd4.out Hb12.out id)
  obtain ⟨f0, f1⟩ := var2 (row_kept Hd4.out Hb2.out id)
  cases g with
  | true =>
    go_wp2_with fail
    go_ret
    exact ⟨rfl, Hc4.out⟩
  | false =>
  by_cases hbig : 8192 < dl + pl
  · go_wp2_with fail
    go_ret
    exact ⟨rfl, Hc4.out⟩
  have Hsm := Lib.hid (Hg.out rfl)
  have hm400 : m ≤ 400 := by rw [Hpm.out]; exact Hsm.out.plen
  have hn100 : n ≤ 100 := by rw [Hvn.out]; exact Hsm.out.vlen
  have HP := Lib.hid (tput_any l1 (P, D) (by have := Hsm.out.vlen; omega) (fun x hx => by have := Hsm.out.files x hx; omega) (by show P.length ≤ _; rw [← Hpl.out]; omega) (by show D.length ≤ _; rw [← Hdl.out]; omega) _ _ kb1 ko1 w4 (ml_keep Hml.out Hc4.out) (Hv.out.keep Hc4.out fun _ _ => id))
  dsimp only at HP
  go_wp2_with fail
  refine HP.out.mono ?_
  intro e w5 hp5
  obtain ⟨hc5, q5, k5, c5, kb5, ko5, hk5, rfl, hs5⟩ := hp5.out
  have Hputz := Lib.hid (fun h : outE (putF l1 (P, D)) = 0 => put_zero h)
  generalize outE (putF l1 (P, D)) = y at *
  obtain ⟨u, hu⟩ : ∃ u, u = outL (putF l1 (P, D)) := ⟨_, rfl⟩
  rw [← hu] at hk5 hs5 Hputz
  have Hc5 := Lib.hid (Hc4.out.trans hc5)
  have Hd5 := Lib.hid (Hd4.out.trans hc5)
  have Hd46 := hc5
  have Hk5 := Lib.hid hk5
  have Hs5 := Lib.hid hs5
  clear hc5 hk5 hs5 hp5 HP v0 f0 f1 hu
  have hal_ := (Chg.refl NoB w5).alloc (.cells #[.slice q5 k5 c5] 25)
  have hb_ := heap_alloc_new w5 (.cells #[.slice q5 k5 c5] 25)
  obtain ⟨wb, hxb_⟩ : ∃ b, b = w5.heap.size := ⟨_, rfl⟩
  obtain ⟨w6, hw_⟩ : ∃ w_, w5.alloc (.cells #[.slice q5 k5 c5] 25) = w_ := ⟨_, rfl⟩
  have hz_ : w6.heap.size = wb + 1 := by rw [← hw_, hxb_]; exact alloc_size _ _
  rw [hw_] at hal_ hb_
  rw [← hxb_] at hb_
  have Hw6 := Lib.hid hw_
  have Hx6 := Lib.hid hxb_
  have Ha6 := Lib.hid hal_
  have Hb6 := Lib.hid hb_
  have Hz6 := Lib.hid hz_
  clear hal_ hb_ hxb_ hw_ hz_
  have Hc6 := Lib.hid (Hc5.out.trans Ha6.out)
  have Hd6 := Lib.hid (Hd5.out.trans Ha6.out)
  have Hc46 := Lib.hid (Hd46.trans Ha6.out)
  go_upto_region 6 with fail
  rw [Hw6.out, ← Hx6.out]
  by_cases hy : y = 0
  case neg =>
    have hy2 : (y != 0) = true := by rw [bne_iff_ne]; exact hy
    clear hy
    go_wp2_with fail
    go_ret
    exact ⟨rfl, Hc6.out⟩
  have Hput := Lib.hid (Hputz.out hy)
  subst hy
  clear Hputz
  have Hw2 := Lib.hid (put_ok Hput.out)
  have HRun2 := Lib.hid (fun (w' : World) (h : Chg NoB w6 w') => run_any l0 u _ _ _ _ kb0 ko0 kb5 ko5 W.heap.size w' (Hwd.out.keep (Hc6.out.trans h)) (Hlb.out.keep (Hc6.out.trans h)) (ml_keep Hml.out (Hc6.out.trans h)) (by have := Hsm.out.plen; omega) (by have := Hw2.out.2.2.2.1; omega) (fun x hx => by have := Hw2.out.2.2.2.2 x hx; omega) (Hp.out.keep (Hc6.out.trans h) fun _ _ => id) (Hs5.out.keep (Ha6.out.trans h) fun _ _ => id))
  obtain ⟨⟨pq', pc', he, -, -, hq3⟩, hat⟩ := Hp.out
  have He := Lib.hid he
  have Hq3 := Lib.hid hq3
  have Hat := Lib.hid hat
  clear he hq3 hat
  go_wp2_with fail
  go_loopw [46] (fun i wr => ∃ k : Nat, k ≤ m ∧ i = .int .i64 k ∧ (∀ t (ht : t < l0.length), t < k → FrI P l0[t]) ∧ Chg NoB w6 wr) (fun i _ => m - (intOf i).toNat)
  case atStart => exact ⟨0, Nat.zero_le _, rfl, (fun t ht h => absurd h (Nat.not_lt_zero _)), Chg.refl _ _⟩
  case round =>
    obtain ⟨k, hk, rfl, hall, hch⟩ := hrel
    have Hch := Lib.hid hch
    have Hall := Lib.hid hall
    clear hch hall
    by_cases hlt : k < m
    · have hlt' : k < l0.length := by rw [← Hpm.out]; exact hlt
      have hne : l0 ≠ [] := by intro e; rw [e] at hlt'; simp at hlt'
      have hqq := (Hq3.out hne).1
      have hcc := He.out
      cases hcc
      subst hqq
      obtain ⟨⟨hwo, -, -⟩, c0, c1, c2⟩ := Hat.out k hlt'
      have c0 := (Hc6.out.trans Hch.out).keep c0
      have c1 := (Hc6.out.trans Hch.out).keep c1
      have c2 := (Hc6.out.trans Hch.out).keep c2
      have Hnx := Lib.hid (show FrI P l0[k] → ∀ t (ht : t < l0.length), t < k + 1 → FrI P l0[t] from fun h t ht htk => by
        by_cases e : t = k
        · subst e; exact h
        · exact Hall.out t ht (by omega))
      obtain ⟨x, hx⟩ : ∃ x, x = l0[k] := ⟨_, rfl⟩
      rw [← hx] at c0 c1 c2 Hnx hwo
      obtain ⟨op, an, xs⟩ := x
      simp only at c0 c1 c2
      change _ ∧ _ at hwo
      obtain ⟨fq0, fq1⟩ := var2 (row_kept (Hd6.out.trans Hch.out) Hb2.out id)
      have hal := (Chg.refl NoB wr).alloc (.cells #[.int .i64 op, .int .i64 an, .string (tx xs)] 46)
      obtain ⟨e0, e1, e2⟩ := var3 (heap_alloc_new wr (.cells #[.int .i64 op, .int .i64 an, .string (tx xs)] 46))
      have fq2 := hal.keep fq0
      have Hal := Lib.hid (Hch.out.trans hal)
      have hbq := tx_beq xs P
      obtain ⟨r, hr⟩ : ∃ r, r = decide (xs = P) := ⟨_, rfl⟩
      rw [← hr] at hbq
      have Hr := Lib.hid hr
      clear hal hx hr hne
      by_cases o27 : op = 27
      · subst o27
        go_wp2_with fail
        go_ret
        exact ⟨rfl, Hc6.out.trans Hal.out⟩
      by_cases o28 : op = 28
      · subst o28
        go_wp2_with fail
        go_ret
        exact ⟨rfl, Hc6.out.trans Hal.out⟩
      by_cases o21 : op = 21
      · subst o21
        go_wp2_with fail
        go_ret
        exact ⟨rfl, Hc6.out.trans Hal.out⟩
      by_cases o23 : op = 23
      · subst o23
        go_wp2_with fail
        go_ret
        exact ⟨rfl, Hc6.out.trans Hal.out⟩
      have Ho := Lib.hid (show op ≠ 27 ∧ op ≠ 28 ∧ op ≠ 21 ∧ op ≠ 23 from ⟨o27, o28, o21, o23⟩)
      have b27 : (op == 27) = false := by rw [beq_eq_false_iff_ne]; exact o27
      have b28 : (op == 28) = false := by rw [beq_eq_false_iff_ne]; exact o28
      have b21 : (op == 21) = false := by rw [beq_eq_false_iff_ne]; exact o21
      have b23 : (op == 23) = false := by rw [beq_eq_false_iff_ne]; exact o23
      clear o27 o28 o21 o23
      by_cases o3 : op = 3
      · subst o3
        clear b27 b28 b21 b23
        cases r with
        | true =>
          go_wp2_with fail
          go_ret
          exact ⟨rfl, Hc6.out.trans Hal.out⟩
        | false =>
          have hno : xs ≠ P := of_decide_eq_false Hr.out.symm
          have Hfi := Lib.hid (Hnx.out ⟨Ho.out, fun _ => hno⟩)
          clear hno
          go_wp2_with fail
          go_roundw
          case rel => exact ⟨k + 1, by omega, by go_num, Hfi.out, Hal.out⟩
          case measure => simp [intOf]; omega
      · have Hfi := Lib.hid (Hnx.out ⟨Ho.out, fun h => absurd h o3⟩)
        have b3 : (op == 3) = false := by rw [beq_eq_false_iff_ne]; exact o3
        clear hbq Hr o3
        go_wp2_with fail
        go_roundw
        case rel => exact ⟨k + 1, by omega, by go_num, Hfi.out, Hal.out⟩
        case measure => simp [intOf]; omega
    · obtain rfl : k = m := by omega
      have HFr := Lib.hid (show ∀ x ∈ l0, FrI P x from fun x hx => by
        obtain ⟨t, ht, rfl⟩ := List.getElem_of_mem hx
        exact Hall.out t ht (by rw [Hpm.out]; exact ht))
      clear hlt hk
      obtain ⟨w8, rfl⟩ : ∃ z, z = wr := ⟨_, rfl⟩
      have v8 := var1 (row_kept (Hd4.out.trans (Hc46.out.trans Hch.out)) Hb12.out id)
      obtain ⟨⟨vq', vc', hve, -, -, vq3⟩, vat⟩ := Hv.out
      have Hve := Lib.hid hve
      have Hvq3 := Lib.hid vq3
      have Hvat := Lib.hid vat
      clear hve vq3 vat
      go_wp2_with fail
      go_loopw [84] (fun i wr => ∃ j : Nat, j ≤ n ∧ i = .int .i64 j ∧ (∀ t (ht : t < l1.length), t < j → l1[t].2 ≠ P) ∧ Chg NoB w6 wr) (fun i _ => n - (intOf i).toNat)
      case atStart => exact ⟨0, Nat.zero_le _, rfl, (fun t ht h => absurd h (Nat.not_lt_zero _)), Hch.out⟩
      case round =>
        obtain ⟨j, hj, rfl, hall, hch⟩ := hrel
        have Hch2 := Lib.hid hch
        have Hall2 := Lib.hid hall
        clear hch hall v8
        by_cases hjl : j < n
        · have hjl' : j < l1.length := by rw [← Hvn.out]; exact hjl
          have hne : l1 ≠ [] := by intro e; rw [e] at hjl'; simp at hjl'
          have hqq := (Hvq3.out hne).1
          have hcc := Hve.out
          cases hcc
          subst hqq
          have d0 := (Hc6.out.trans Hch2.out).keep (Hvat.out j hjl').1
          have d1 := (Hc6.out.trans Hch2.out).keep (Hvat.out j hjl').2
          have Hnx2 := Lib.hid (show l1[j].2 ≠ P → ∀ t (ht : t < l1.length), t < j + 1 → l1[t].2 ≠ P from fun h t ht htj => by
            by_cases e : t = j
            · subst e; exact h
            · exact Hall2.out t ht (by omega))
          generalize l1[j] = f at *
          obtain ⟨y1, y2⟩ := f
          change Hid (y2 ≠ P → _) at Hnx2
          simp only at d0 d1
          obtain ⟨fq0, fq1⟩ := var2 (row_kept (Hd6.out.trans Hch2.out) Hb2.out id)
          have hal := (Chg.refl NoB wr).alloc (.cells #[.string (tx y1), .string (tx y2)] 43)
          obtain ⟨e0, e1⟩ := var2 (heap_alloc_new wr (.cells #[.string (tx y1), .string (tx y2)] 43))
          have fq2 := hal.keep fq0
          have Hal := Lib.hid (Hch2.out.trans hal)
          have hbq := tx_beq y2 P
          obtain ⟨r, hr⟩ : ∃ r, r = decide (y2 = P) := ⟨_, rfl⟩
          rw [← hr] at hbq
          have Hr := Lib.hid hr
          clear hal hr hne
          cases r with
          | true =>
            go_wp2_with fail
            go_ret
            exact ⟨rfl, Hc6.out.trans Hal.out⟩
          | false =>
            have Hfi := Lib.hid (Hnx2.out (of_decide_eq_false Hr.out.symm))
            go_wp2_with fail
            go_roundw
            case rel => exact ⟨j + 1, by omega, by go_num, Hfi.out, Hal.out⟩
            case measure => simp [intOf]; omega
        · obtain rfl : j = n := by omega
          have HNo := Lib.hid (show ∀ g ∈ l1, g.2 ≠ P from fun x hx => by
            obtain ⟨t, ht, rfl⟩ := List.getElem_of_mem hx
            exact Hall2.out t ht (by rw [Hvn.out]; exact ht))
          clear hjl hj
          obtain ⟨w9, rfl⟩ : ∃ z, z = wr := ⟨_, rfl⟩
          obtain ⟨fq0, fq1⟩ := var2 (row_kept (Hd6.out.trans Hch2.out) Hb2.out id)
          go_wp2_with fail
          go_loopw [14] (fun c wr => ∃ pos, wr = w9.iter (tx P) pos) (fun _ wr => (tx P).size - wr.iterPos w9.heap.size)
          case atStart => exact ⟨0, rfl⟩
          case round =>
            obtain ⟨pos, rfl⟩ := hrel
            by_cases hp : pos < (tx P).size
            · have hlet := fun h => letter_at (l := P) hp h
              have hwd := width_pos (tx P) pos hp
              have hnx : ∀ ty, (Instr.next (.pointer (some ⟨w9.heap.size, 0, none⟩)) true ty).run Tryz.prog (w9.iter (tx P) pos) = _ := fun ty => run_next_any w9 (tx P) pos ty hp
              obtain ⟨r, hr⟩ : ∃ r : Int, r = ((Utf8.decode (tx P) pos).1 : Nat) := ⟨_, rfl⟩
              obtain ⟨pw, hpw⟩ : ∃ z, z = (Utf8.decode (tx P) pos).2 := ⟨_, rfl⟩
              rw [← hr] at hnx hlet
              rw [← hpw] at hnx hwd
              have hci : ∀ z, Chg NoB w6 (w9.iter (tx P) z) := fun z => Hch2.out.alloc _
              have Hci := Lib.hid hci
              have Hlet := Lib.hid hlet
              clear hlet hr hpw hci
              by_cases hl1 : 97 ≤ r
              · by_cases hl2 : r ≤ 122
                · have hs := sees (ps := l0) Hput.out HFr.out HNo.out (Hlet.out ⟨hl1, hl2⟩)
                  obtain ⟨w10, hw10⟩ : ∃ z, z = w9.iter (tx P) (pos + pw) := ⟨_, rfl⟩
                  rw [← hw10] at hnx
                  have Hc10 := Lib.hid (show Chg NoB w6 w10 by rw [hw10]; exact Hci.out _)
                  have v10 := var1 (row_kept (Hd4.out.trans (Hc46.out.trans Hc10.out)) Hb12.out id)
                  have HRa := Lib.hid (HRun.out w10 (Hc6.out.trans Hc10.out) Hsm.out)
                  have HRb := Lib.hid (fun w' (h : Chg NoB w10 w') => HRun2.out w' (Hc10.out.trans h))
                  have Hf := Lib.hid (run_facts (view := l1) Hwf.out).1
                  unfold RunP at HRa HRb
                  rw [hs.1, hs.2.1, hs.2.2] at HRb
                  generalize runL l0 l1 = d at *
                  generalize runN l0 l1 = sn at *
                  generalize runE l0 l1 = sy at *
                  clear hs hw10
                  go_wp2_with fail
                  refine HRa.out.mono ?_
                  rintro e w11 ⟨hc11, qa, ka, ca, kba, koa, hka, rfl, hsa⟩
                  have Hc11 := Lib.hid hc11
                  have Hsa := Lib.hid hsa
                  have Hka := Lib.hid hka
                  clear hc11 hsa hka HRa v10
                  have hal_ := (Chg.refl NoB w11).alloc (.cells #[.slice qa ka ca] 25)
                  have hb_ := heap_alloc_new w11 (.cells #[.slice qa ka ca] 25)
                  obtain ⟨ba, hxb_⟩ : ∃ b, b = w11.heap.size := ⟨_, rfl⟩
                  obtain ⟨w12, hw_⟩ : ∃ w_, w11.alloc (.cells #[.slice qa ka ca] 25) = w_ := ⟨_, rfl⟩
                  have hz_ : w12.heap.size = ba + 1 := by rw [← hw_, hxb_]; exact alloc_size _ _
                  rw [hw_] at hal_ hb_
                  rw [← hxb_] at hb_
                  have Hw12 := Lib.hid hw_
                  have Hx12 := Lib.hid hxb_
                  have Ha12 := Lib.hid hal_
                  have Hb12 := Lib.hid hb_
                  have Hz12 := Lib.hid hz_
                  clear hal_ hb_ hxb_ hw_ hz_
                  have wb0 := var1 (row_kept (Hc10.out.trans (Hc11.out.trans Ha12.out)) Hb6.out id)
                  have HRb12 := Lib.hid (HRb.out w12 (Hc11.out.trans Ha12.out))
                  clear HRb
                  go_upto_region 25 with fail
                  rw [Hw12.out, ← Hx12.out]
                  go_wp2_with fail
                  refine HRb12.out.mono ?_
                  rintro e w13 ⟨hc13, qb, kb, cb, kbb, kob, hkb, rfl, hsb⟩
                  have Hc13 := Lib.hid hc13
                  have Hsb := Lib.hid hsb
                  have Hkb := Lib.hid hkb
                  clear hc13 hsb hkb HRb12 wb0
                  have hal_ := (Chg.refl NoB w13).alloc (.cells #[.slice qb kb cb] 25)
                  have hb_ := heap_alloc_new w13 (.cells #[.slice qb kb cb] 25)
                  obtain ⟨bb, hxb_⟩ : ∃ b, b = w13.heap.size := ⟨_, rfl⟩
                  obtain ⟨w14, hw_⟩ : ∃ w_, w13.alloc (.cells #[.slice qb kb cb] 25) = w_ := ⟨_, rfl⟩
                  have hz_ : w14.heap.size = bb + 1 := by rw [← hw_, hxb_]; exact alloc_size _ _
                  rw [hw_] at hal_ hb_
                  rw [← hxb_] at hb_
                  have Hw14 := Lib.hid hw_
                  have Hx14 := Lib.hid hxb_
                  have Ha14 := Lib.hid hal_
                  have Hb14 := Lib.hid hb_
                  have Hz14 := Lib.hid hz_
                  clear hal_ hb_ hxb_ hw_ hz_
                  have a0 := var1 (row_kept (Hc13.out.trans Ha14.out) Hb12.out id)
                  have b0 := var1 Hb14.out
                  have hgz := good_sizes Hf.out
                  have HS := Lib.hid (rsame_any d d _ _ _ _ _ _ _ _ w14 (by omega) (by omega) (Hsa.out.keep (Ha12.out.trans (Hc13.out.trans Ha14.out)) fun _ _ => id) (Hsb.out.keep Ha14.out fun _ _ => id))
                  rw [decide_eq_true rfl] at HS
                  have Hc14 := Lib.hid (Hc6.out.trans (Hc10.out.trans (Hc11.out.trans (Ha12.out.trans (Hc13.out.trans Ha14.out)))))
                  clear hgz
                  go_upto_region 26 with fail
                  rw [Hw14.out, ← Hx14.out]
                  go_wp2_with fail
                  refine HS.out.mono ?_
                  rintro e w15 ⟨rfl, hc15⟩
                  have Hc15 := Lib.hid (Hc14.out.trans hc15)
                  clear hc15 a0 b0 HS
                  go_wp2_with fail
                  go_ret
                  exact ⟨rfl, Hc15.out⟩
                · go_wp2_with fail
                  go_roundw
                  case rel => exact ⟨pos + pw, rfl⟩
                  case measure => simp; omega
              · go_wp2_with fail
                go_roundw
                case rel => exact ⟨pos + pw, rfl⟩
                case measure => simp; omega
            · have hnx : ∀ ty, (Instr.next (.pointer (some ⟨w9.heap.size, 0, none⟩)) true ty).run Tryz.prog (w9.iter (tx P) pos) = _ := fun ty => run_next_end w9 (tx P) pos ty hp
              go_wp2_with fail
              go_ret
              exact ⟨rfl, Hc6.out.trans (Hch2.out.alloc _)⟩
/-FRAME-/
set_option maxRecDepth 100000 in
theorem vmSees_lifted (os : Os) (started : os.Started) (H : Type) (enc : TypeId × Value → H) :
    ReturnsInHanded {} Tryz.checked os 6 .any (fun w args => (Rows.vmSeesSpec.pre enc Tryz.prog Tryz.f6 [] false w args ∧ laidMetH Tryz.prog Rows.vmSeesRow.laid w) ∧ sizedMet enc Tryz.prog Tryz.f6 (OpenSpec.ofChange Rows.vmSeesSpec) false w args)
      (Rows.vmSeesSpec.post enc Tryz.prog Tryz.f6 false true false false) := by
  refine returns_both (C := Tryz.checked) (X := fun w _ => laidMetH Tryz.prog Rows.vmSeesRow.laid w) (fun _ _ _ hh h => h.of_heap hh) Tryz.own started (by kernel_rfl) Tryz.func6
    (ChangeSpec.witness_shaped (enc := enc) (C := Tryz.checked) (os := os) (X := fun w _ => laidMetH Tryz.prog Rows.vmSeesRow.laid w) false (World.laidAll Tryz.prog os Rows.vmSeesRow.laid) #[.slice none 0 0, .agg #[.slice none 0 0], .agg #[.string ByteArray.empty, .string ByteArray.empty]] 8 (World.laidAll_os _ _ _)
      (World.shaped_of_ZipB (by kernel_rfl) (by kernel_rfl)) (by kernel_rfl) (by kernel_rfl) (by kernel_rfl)
      (by rw [MakeChecks.laidMetH_plain _ _ _ (by kernel_rfl)]; exact laidMet_laidAll _ (by kernel_rfl) (by kernel_rfl))) ?_
  intro W base args ds gs before hval0 hW _ hsz hL hsh _
  have hval : ∀ (j : Nat) t v, Tryz.f6.params[j]? = some t → args[j]? = some v → Value.okWide Tryz.prog W .any base t v := hval0
  have hW' := hW
  obtain ⟨p, q, hA0, hV, rfl, _, _⟩ := hW
  have hA : DataW.TrodAll enc Tryz.prog W 0 (fun _ => true) true Tryz.f6.params.toList args.toList ds p := hA0
  have hsz1 : (DataW.weightsEach Tryz.prog (Tryz.f6.params.toList ++ Rows.vmSeesSpec.plain.varTypes Tryz.prog) (ds ++ gs)).all (· ≤ reachBytes) = true := hsz
  rw [Tryz.params6] at hA hval hsz1
  obtain ⟨v0, v1, v2, d0, d1, d2, p0, p1, p2, rfl, rfl, rfl, h0, h1, h2⟩ := trodAll_three hA
  obtain ⟨rfl, rfl⟩ := trodVars_none hV
  obtain ⟨l0, kb0, ko0, hn0⟩ := open_inss (hval 0 22 v0 rfl rfl) h0 (fun m hm => of_decide_eq_true (List.all_eq_true.1 hsz1 m (DataW.weights_mem_each (j := 0) (t := 22) (d := d0) rfl rfl m hm)))
  obtain ⟨l1, c1, kb1, ko1, rfl, hn1, hr1⟩ := open_tree (hval 1 25 v1 rfl rfl) h1 (fun m hm => of_decide_eq_true (List.all_eq_true.1 hsz1 m (DataW.weights_mem_each (j := 1) (t := 25) (d := d1) rfl rfl m hm)))
  obtain ⟨f2, rfl, hr2⟩ := open_file (hval 2 43 v2 rfl rfl) h2 (fun m hm => of_decide_eq_true (List.all_eq_true.1 hsz1 m (DataW.weights_mem_each (j := 2) (t := 43) (d := d2) rfl rfl m hm)))
  simp only [List.append_nil] at hW'
  rw [MakeChecks.laidMetH_plain _ _ _ (by kernel_rfl)] at hL
  have hml : Pth.Ml W := wml_of hsh
  obtain ⟨hlb, hwd⟩ := lb8_of hL hsh
  clear hA0 hval0
  refine (vmSees_all l0 _ kb0 ko0 l1 _ kb1 ko1 f2 W hn0 hn1 hr1 hr2 hml hlb hwd).mono fun e W' ⟨he, hb⟩ => ?_
  subst he
  exact ⟨_, rfl, _, _, _, [], _, [], hW', trodAll_mk1 (shut_bool Tryz.underlying4 _), (trodAll_cons_mk (inss_stay h0 hb.below) (trodAll_cons_mk (tree_stays h1 hb.below) (trodAll_cons_mk (file_stays h2 hb.below) trodAll_mk0))), rfl, hb.below.frame _, fun h => by cases h⟩
theorem vmSees_holds : Rows.VmSeesSaid :=
  OpenClaim.holds_of_wide 6 Tryz.f6 rfl rfl rfl rfl rfl rfl rfl ⟨rfl, rfl, rfl, rfl, rfl⟩ rfl rfl rfl rfl rfl (by kernel_rfl) Tryz.func6 (by kernel_rfl)
    (of_decide_eq_true (by kernel_rfl)) (by unfold Func.isWrapper; first | (rw [if_pos (by decide +kernel)]; kernel_rfl) | (rw [if_neg (by decide +kernel)]; exact ⟨rfl, rfl⟩))
    (fun os started H enc _ => vmSees_lifted os started H enc)
theorem vmSees_card : Rows.VmSeesCardSaid :=
  Claim7.holds_tied_plain_at .later [] [.data, .data, .data, .data, .sentinel, .sentinel, .widerDeep, .pinned] true (true, "ec86cb7f90a952613a297ea1a1848055ebca9cdb2e48697e77ccb43f8b788bff") true vmSees_holds (fun _ h => by cases h) (by kernel_rfl) (fun _ h => by cases h) vmSees_row_tie rfl ⟨rfl, rfl⟩ (by kernel_rfl) rfl
    (fun f fn hf hfn => by
      obtain rfl : f = 6 := Option.some.inj ((show Tryz.prog.funcNamed "sapling/saplinglaw10.VmSees" = some 6 by kernel_rfl).symm.trans hf) |>.symm
      obtain rfl : fn = Tryz.f6 := (Option.some.inj (Tryz.func6.symm.trans hfn)).symm
      exact ⟨by kernel_rfl, fun j t ht => by
        rw [Tryz.params6] at ht
        have hm : t ∈ [22, 25, 43] := by simpa using Array.mem_of_getElem? ht
        have hall : ([22, 25, 43].all fun u => !Tryz.prog.wantsStandIn u) = true := by kernel_rfl
        exact (show Tryz.prog.wantsStandIn t = false by simpa using List.all_eq_true.1 hall t hm)⟩)
    (by kernel_rfl)
#print axioms vmSees_card
end Go.Proofs.YthehpmffkkogpaaGreatDoor
