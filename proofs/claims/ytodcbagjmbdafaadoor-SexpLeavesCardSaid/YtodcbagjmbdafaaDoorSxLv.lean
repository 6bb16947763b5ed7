/- The document's Leaves: the atoms of a node, in the order of writing, in a row of the call's own. Condition: at most 2^20 nodes and bytes. -/
import Derived.Test.YtodcbagjmbdafaaDoorSxCopy
import Derived.Laws.AppendOwnNone
namespace Go.Proofs.YtodcbagjmbdafaaDoor
set_option linter.unusedVariables false
open Go.ChangeShapes Go.WideShapes Go.ChangeAt Go.RowKit
mutual
def Nd.leaves : Nd → List ByteArray
  | .mk l a ks => if l then [a] else Nd.leavesL ks
def Nd.leavesL : List Nd → List ByteArray
  | [] => []
  | k :: r => k.leaves ++ Nd.leavesL r
end
theorem Nd.leavesL_app (a b : List Nd) : Nd.leavesL (a ++ b) = Nd.leavesL a ++ Nd.leavesL b := by
  induction a with
  | nil => rw [Nd.leavesL]; rfl
  | cons k r ih => rw [List.cons_append, Nd.leavesL, Nd.leavesL, ih, List.append_assoc]
theorem Nd.leavesL_take (ks : List Nd) (k : Nat) (h : k < ks.length) : Nd.leavesL (ks.take (k + 1)) = Nd.leavesL (ks.take k) ++ ks[k].leaves := by
  rw [List.take_add_one, List.getElem?_eq_getElem h, Nd.leavesL_app]
  simp [Nd.leavesL]
mutual
theorem Nd.leaves_le (n : Nd) : n.leaves.length ≤ n.count := by
  obtain ⟨l, a, ks⟩ := n
  have := Nd.leavesL_le ks
  rw [Nd.leaves, Nd.count]
  cases l with
  | true => simp; omega
  | false => simp; omega
theorem Nd.leavesL_le (ks : List Nd) : (Nd.leavesL ks).length ≤ Nd.counts ks := by
  match ks with
  | [] => simp [Nd.leavesL]
  | k :: r =>
    have h1 := Nd.leaves_le k
    have h2 := Nd.leavesL_le r
    rw [Nd.leavesL, Nd.counts, List.length_append]
    omega
end
theorem Nd.leavesL_sub (ks : List Nd) (k : Nat) : (Nd.leavesL (ks.take k)).length ≤ (Nd.leavesL ks).length := by
  have : Nd.leavesL ks = Nd.leavesL (ks.take k) ++ Nd.leavesL (ks.drop k) := by rw [← Nd.leavesL_app, List.take_append_drop]
  rw [this, List.length_append]; omega
/- a row of texts of the call's own -/
def TxRow (w : World) (lo : Nat) (v : Value) (ts : List ByteArray) : Prop := w.ownsRow lo 9 1 v ts.length (ts.map .string)
theorem TxRow.le {w : World} {lo lo' : Nat} {v : Value} {ts : List ByteArray} (h : TxRow w lo v ts) (hl : lo' ≤ lo) : TxRow w lo' v ts := by
  refine ⟨h.1, ?_⟩
  rcases h.2 with x | ⟨g, cap, cur, h1, h2, h3⟩
  · exact .inl x
  · exact .inr ⟨g, cap, cur, h1, Nat.le_trans hl h2, h3⟩
theorem TxRow.keep {w w' : World} {S : Nat → Prop} {lo : Nat} {v : Value} {ts : List ByteArray} (h : TxRow w lo v ts) (hc : Chg S w w') (hS : ∀ k, v.ownBlock = some k → ¬ S k) : TxRow w' lo v ts := ownsRow_chg h hc hS
theorem stringInfo : (Tryd.prog.info? 9).map (fun i => (i.zero, i.size, i.bytes)) = some (some (.string ⟨#[]⟩), 1, 16) := by kernel_rfl
theorem one_strings (ts : List ByteArray) : ∀ u ∈ ts.map Value.string, u.oneCell' = true := by
  intro u hu
  obtain ⟨a, _, rfl⟩ := List.mem_map.1 hu
  rfl
def LvP (n : Nd) (w : World) (e : Ending) (w' : World) : Prop := Chg NoB w w' ∧ ∃ v, e = .returned v ∧ TxRow w' w.heap.size v n.leaves
set_option maxHeartbeats 2000000 in
set_option maxRecDepth 20000 in
theorem leavesR_any (N : Nat) (hN : N ≤ 1048576) : ∀ (n : Nd), n.count ≤ N → ∀ (S : Nat → Prop) (v : Value) (w : World), NdV w S v n →
    Calls Tryd.prog 18 #[v] w (LvP n w) := by
  induction N with
  | zero => intro n hn; have := n.count_pos; omega
  | succ N ih =>
    intro n hn S v w hv
    have IH := Lib.hid (ih (by omega))
    clear ih
    have hlc := n.leaves_le
    obtain ⟨lf, at', ks⟩ := n
    obtain ⟨ha, s, kb, ko, rfl, hs⟩ := hv
    obtain ⟨⟨q, c, hsq, hkc, hcm, hqq⟩, hk⟩ := hs
    simp only [Nd.leaf, Nd.atom, Nd.kids] at *
    subst hsq
    have hlk := Nd.len_counts ks
    have hcc : Nd.counts ks ≤ N := by rw [Nd.count] at hn; omega
    have hlL := Nd.leavesL_le ks
    obtain ⟨len, hlen⟩ : ∃ len, len = ks.length := ⟨_, rfl⟩
    rw [← hlen] at hkc hlk ⊢
    have hlb : len ≤ 1048576 := by omega
    have Hk := Lib.hid hk
    have Hq := Lib.hid hqq
    have Hcc := Lib.hid hcc
    have Hlen := Lib.hid hlen
    have HlL := Lib.hid hlL
    unfold maxLen at ha hcm
    have hal0 := (Chg.refl NoB w).alloc (.cells #[.bool lf, .string at', .slice q len c] 24)
    have hb0 := heap_alloc_new w (.cells #[.bool lf, .string at', .slice q len c] 24)
    obtain ⟨f0, f1, f2⟩ := var3 hb0
    have Hal0 := Lib.hid hal0
    have Hb0 := Lib.hid hb0
    obtain ⟨vb, hvb⟩ : ∃ vb, vb = w.heap.size := ⟨_, rfl⟩
    have Hvb := Lib.hid hvb
    have hsz := hal0.size
    have Hsz := Lib.hid hsz
    clear hk hqq hcc hn hlen hlk hal0 hb0 hlc hlL hsz
    cases lf with
    | true =>
      go_enter Tryd.func18, Tryd.ntmps18
      go_wp2_with fail
      go_ret
      have hr := World.ownsRow_lit (base := w.heap.size) (e := 9) (size := 1) (w.alloc (.cells #[.bool true, .string at', .slice q len c] 24)) #[.string at'] 1 Hsz.out (by decide) rfl
      rw [alloc_size] at hr
      refine ⟨Hal0.out.alloc _, .slice (some ⟨w.heap.size + 1, 0, none⟩) 1 1, rfl, ?_⟩
      rw [Nd.leaves, if_pos rfl]
      exact hr
    | false =>
      go_enter Tryd.func18, Tryd.ntmps18
      rw [← hvb] at f0 f1 f2
      rw [← hvb] at Hb0
      clear hvb
      go_upto_region 1 with fail
      rw [← Hvb.out]
      generalize w.alloc (.cells #[.bool false, .string at', .slice q len c] 24) = w1 at *
      obtain ⟨lo, hlo⟩ : ∃ lo, lo = w1.heap.size := ⟨_, rfl⟩
      have Hlo := Lib.hid hlo
      clear hlo
      have hrow0 : TxRow w1 lo (.slice none 0 0) [] := World.ownsRow_nil _ _ _ _
      have Hrow0 := Lib.hid hrow0
      clear hrow0
      go_wp2_with fail
      clear f0 f1 f2
      go_loopw [3, 14] (fun lv i wr => ∃ k : Nat, k ≤ len ∧ i = .int .i64 k ∧ TxRow wr lo lv (Nd.leavesL (ks.take k)) ∧ Chg NoB w1 wr) (fun _ i _ => len - (intOf i).toNat)
      case atStart => exact ⟨0, Nat.zero_le _, rfl, Hrow0.out, Chg.refl _ _⟩
      case round =>
        obtain ⟨k, hk, rfl, hrow, hch⟩ := hrel
        have Hrow := Lib.hid hrow
        have Hch := Lib.hid hch
        clear hrow hch
        by_cases hlt : k < len
        · obtain rfl := Hq.out (by rintro rfl; have := Hlen.out; simp at this; omega)
          have hlt' : k < ks.length := by have := Hlen.out; omega
          obtain ⟨_, hca, s', kb', ko', c0, c1, c2, hs'⟩ := (Hk.out k hlt').cells
          have hw := Hal0.out.trans Hch.out
          have hv : NdV w S (.agg #[.bool ks[k].leaf, .string ks[k].atom, s']) ks[k] := ⟨hca, _, kb', ko', rfl, hs'⟩
          obtain ⟨⟨q', c', hsq', _, _, _⟩, _⟩ := hs'
          subst hsq'
          have c0' := hw.keep c0
          have c1' := hw.keep c1
          have c2' := hw.keep c2
          have hcnt : ks[k].count ≤ N := Nat.le_trans (Nd.counts_get ks k hlt') Hcc.out
          have htk := Nd.leavesL_take ks k hlt'
          have hsub := Nd.leavesL_sub ks (k + 1)
          rw [htk, List.length_append] at hsub
          have Hsub : Hid ((Nd.leavesL (ks.take k)).length + ks[k].leaves.length ≤ 1048576) := Lib.hid (by have := HlL.out; have := Hcc.out; omega)
          have Hv := Lib.hid (hv.keep hw fun _ _ => id)
          have Hcnt := Lib.hid hcnt
          have Htk := Lib.hid htk
          clear c0 c1 c2 hw hv hcnt htk hca hsub
          generalize ks[k] = kd at *
          obtain ⟨kl, ka, kk⟩ := kd
          simp only [Nd.leaf, Nd.atom, Nd.kids] at *
          obtain ⟨kn, hkn⟩ : ∃ kn, kn = kk.length := ⟨_, rfl⟩
          rw [← hkn] at c2' Hv
          have hal5 := (Chg.refl NoB wr).alloc (.cells #[.bool kl, .string ka, .slice q' kn c'] 24)
          obtain ⟨g0, g1, g2⟩ := var3 (heap_alloc_new wr (.cells #[.bool kl, .string ka, .slice q' kn c'] 24))
          have Hal5 := Lib.hid hal5
          clear hkn hal5
          go_upto_region 7 with fail
          generalize wr.alloc (.cells #[.bool kl, .string ka, .slice q' kn c'] 24) = w5 at *
          have Hcall := Lib.hid (IH.out (.mk kl ka kk) Hcnt.out S _ w5 (Hv.out.keep Hal5.out fun _ _ => id))
          have Hch5 := Lib.hid (Hch.out.trans Hal5.out)
          have Hrow5 : Hid (TxRow w5 lo u3 (Nd.leavesL (ks.take k))) := Lib.hid (ownsRow_chg Hrow.out Hal5.out fun _ _ => id)
          clear c0' c1' c2' Hrow
          obtain ⟨acc, hacc⟩ : ∃ acc, acc = Nd.leavesL (ks.take k) := ⟨_, rfl⟩
          rw [← hacc] at Hrow5 Htk Hsub
          obtain ⟨na, hna⟩ : ∃ na, na = acc.length := ⟨_, rfl⟩
          obtain ⟨more, hmo⟩ : ∃ more, more = (Nd.mk kl ka kk).leaves := ⟨_, rfl⟩
          have Hmo := Lib.hid hmo
          have Hna := Lib.hid hna
          rw [← hmo, ← hna] at Hsub
          clear hmo hna hacc
          go_wp2_with fail
          refine Hcall.out.mono ?_
          rintro e w6 ⟨hc6, v6, rfl, hr6⟩
          rw [← Hmo.out] at hr6
          obtain ⟨i0, hi, hz0, hz1, hz2⟩ := info_parts stringInfo
          have Hi := Lib.hid hi
          have Hz0 := Lib.hid hz0
          have Hz1 := Lib.hid hz1
          have Hz2 := Lib.hid hz2
          have M1 := Lib.hid (show na + more.length ≤ maxLen by have := Hsub.out; unfold maxLen; omega)
          have M2 := Lib.hid (show (na + more.length) * 16 ≤ 140737488355328 by have := Hsub.out; omega)
          have hown6 : w6.ownsRow lo 9 1 u3 acc.length (acc.map .string) := ownsRow_chg Hrow5.out hc6 fun _ _ => id
          rw [← Hna.out] at hown6
          have Hown6 := Lib.hid hown6
          have Hc6 := Lib.hid (Hch5.out.trans hc6)
          have hb6 : lo ≤ w6.heap.size := by have := Hc6.out.size; have := Hlo.out; omega
          have Hr6 := Lib.hid hr6
          clear hi hz0 hz1 hz2 hown6 hc6 hr6 g0 g1 g2
          rcases Hr6.out.2 with ⟨rfl, h0⟩ | ⟨g, cap, cur, hv6, hbg, hg, hnc, hcm', hcs, htake⟩
          · have hm0 : more = [] := List.eq_nil_of_length_eq_zero h0
            have Hm0 := Lib.hid hm0
            clear hm0 h0
            go_wp2_with (at_builtin; refine wpList_append_own_none rfl _ _ 35 rfl lo 9 i0 1 Tryd.underlying35 Hi.out _ na _ rfl Hown6.out rfl ?_)
            go_roundw
            case rel =>
              refine ⟨k + 1, by omega, by go_num, ?_, Hc6.out⟩
              rw [Htk.out, ← Hmo.out, Hm0.out, List.append_nil]
              have := Hown6.out
              rw [Hna.out] at this
              exact this
            case measure => simp [intOf]; omega
          · subst hv6
            have hcell : ∀ j u, (more.map Value.string)[j]? = some u → w6.cell? ((⟨g, 0, none⟩ : Addr).add j) = some u := World.ownsRow.cells Hr6.out (g := g) rfl
            have Hcell := Lib.hid hcell
            have hml : (more.map Value.string).length = more.length * 1 := by simp
            have Hml := Lib.hid hml
            obtain ⟨mn, hmn⟩ : ∃ mn, mn = more.length := ⟨_, rfl⟩
            rw [← hmn] at Hml M1 M2 ⊢
            have Hmn := Lib.hid hmn
            clear hcell hml hbg hg hnc hcs htake hmn hcm'
            go_wp2_with (at_builtin; refine wpList_append_at _ rfl _ _ 35 rfl lo 9 i0 (.string ⟨#[]⟩) 1 16 Tryd.underlying35 Hi.out Hz0.out Hz1.out Hz2.out rfl (by decide) _ na _ rfl Hown6.out ⟨g, 0, none⟩ mn cap (more.map .string) rfl Hml.out Hcell.out (one_strings more) M1.out M2.out hb6 ?_)
            intro v9 w9 hown9 hgr9 hpl9
            have hgc9 : Chg (fun k => u3.ownBlock = some k) w6 w9 := (Chg.refl _ _).grown hgr9 fun k hk => .inl hk
            have hch9 : Chg NoB w1 w9 := Hc6.out.above hgc9 fun k hk => by have := (World.ownsRow.lt Hown6.out k hk).1; have := Hlo.out; omega
            have Hown9 := Lib.hid hown9
            have Hch9 := Lib.hid hch9
            clear hown9 hgr9 hpl9 hgc9 hch9
            go_wp2_with fail
            go_roundw
            case rel =>
              refine ⟨k + 1, by omega, by go_num, ?_, Hch9.out⟩
              rw [Htk.out, ← Hmo.out]
              have := Hown9.out
              rw [Hmn.out, Hna.out] at this
              unfold TxRow
              rw [List.length_append, List.map_append]
              exact this
            case measure => simp [intOf]; omega
        · obtain rfl : k = len := by omega
          have htk : ks.take k = ks := by rw [Hlen.out, List.take_length]
          rw [htk] at Hrow
          go_wp2_with fail
          go_ret
          refine ⟨Hal0.out.trans Hch.out, _, rfl, ?_⟩
          rw [Nd.leaves]
          exact Hrow.out.le (by have := Hsz.out; have := Hlo.out; omega)
end Go.Proofs.YtodcbagjmbdafaaDoor
