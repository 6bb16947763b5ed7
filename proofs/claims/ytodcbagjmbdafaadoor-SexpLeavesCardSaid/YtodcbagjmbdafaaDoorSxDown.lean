/- The iterator that Leaves makes: its recursion hands each atom on, in the order of writing, until a round says no more. Condition: the node's blocks, and the two variables', are not among those that the body writes. -/
import Derived.Test.YtodcbagjmbdafaaDoorSxLv
import Derived.Test.YtodcbagjmbdafaaDoorKeepT
namespace Go.Proofs.YtodcbagjmbdafaaDoor
set_option linter.unusedVariables false
open Go.ChangeShapes Go.WideShapes Go.ChangeAt Go.RowKit Go.Shelf
attribute [local go_sem] Oper.semAt_some
theorem NdC.keepT {w w' : World} {S T : Nat → Prop} (hc : KeepT T w w') (hST : ∀ k, S k → ¬ T k) {b o : Nat} {n : Nd} (h : NdC w S b o n) : NdC w' S b o n := by
  induction h with
  | mk b o l a ks q c kb ko c0 c1 c2 hs ha h1 h2 hq hk ih => exact .mk b o l a ks q c kb ko (hc.cell c0 (hST b hs)) (hc.cell c1 (hST b hs)) (hc.cell c2 (hST b hs)) hs ha h1 h2 hq ih
theorem NdS.keepT {w w' : World} {S T : Nat → Prop} (hc : KeepT T w w') (hST : ∀ k, S k → ¬ T k) {v : Value} {ks : List Nd} {kb ko : Nat} (h : NdS w S v ks kb ko) : NdS w' S v ks kb ko := ⟨h.sh, fun i hi => (h.at' i hi).keepT hc hST⟩
theorem NdV.keepT {w w' : World} {S T : Nat → Prop} (hc : KeepT T w w') (hST : ∀ k, S k → ¬ T k) {v : Value} {n : Nd} (h : NdV w S v n) : NdV w' S v n := by
  obtain ⟨ha, s, kb, ko, e, hs⟩ := h
  exact ⟨ha, s, kb, ko, e, hs.keepT hc hST⟩
def DownP (T : Nat → Prop) (J Jx : List ByteArray → World → Prop) (n : Nd) (pre : List ByteArray) (W : World) (e : Ending) (W' : World) : Prop :=
  (e = .returned (.bool true) ∧ J (pre ++ n.leaves) W' ∧ KeepT T W W') ∨ (e = .returned (.bool false) ∧ ∃ q, q <+: n.leaves ∧ Jx (pre ++ q) W')
set_option maxRecDepth 100000 in
set_option maxHeartbeats 1000000 in
theorem down_in (F : Fence) (hd : F.depth = none) (h33 : F.fn 33) (hro : F.round = none) (l yb db M B : Nat) (T S : Nat → Prop) (hST : ∀ k, S k → ¬ T k) (hyT : ¬ T yb) (hdT : ¬ T db) (J Jx : List ByteArray → World → Prop) (hJ : AbidesFrom B J)
    (hY : ∀ m pre x W, J pre W → pre.length < M → YieldAt F m Tryd.prog l #[.string x] W fun e W' =>
      (e = .returned (.bool true) ∧ J (pre ++ [x]) W' ∧ KeepT T W W') ∨ (e = .returned (.bool false) ∧ Jx (pre ++ [x]) W')) (N : Nat) (hN : N ≤ 1048576) :
    ∀ (m : Nat) (n : Nd) (v : Value) (pre : List ByteArray) (W : World), n.count ≤ N → NdV W S v n → (hTn : ∀ k, W.heap.size ≤ k → ¬ T k) →
      W.cell? ⟨yb, 0, none⟩ = some (.func (.yield l) #[] #[]) → W.cell? ⟨db, 0, none⟩ = some (.func (.func 33) #[] #[.pointer (some ⟨yb, 0, none⟩), .pointer (some ⟨db, 0, none⟩)]) → J pre W → pre.length + n.leaves.length ≤ M →
      CallsIn F m Tryd.prog 33 #[v, .pointer (some ⟨yb, 0, none⟩), .pointer (some ⟨db, 0, none⟩)] W (DownP T J Jx n pre W) := by
  have hdd : ∀ k : Nat, (F.depth.isSome = true → 1 ≤ k) := fun k h => by rw [hd] at h; cases h
  induction N with
  | zero => intro m n v pre W hn; have := n.count_pos; omega
  | succ N ih =>
    intro m n v pre W hn hv hTn hyc hdc hJ0 hM
    have IH := Lib.hid (ih (by omega))
    clear ih
    obtain ⟨lf, at', ks⟩ := n
    obtain ⟨ha, s, kb, ko, rfl, hs⟩ := hv
    have hs' := hs
    obtain ⟨⟨q, c, hsq, hkc, hcm, hqq⟩, hk⟩ := hs'
    simp only [Nd.leaf, Nd.atom, Nd.kids] at *
    subst hsq
    have hlk := Nd.len_counts ks
    have hcc : Nd.counts ks ≤ N := by rw [Nd.count] at hn; omega
    obtain ⟨len, hlen⟩ : ∃ len, len = ks.length := ⟨_, rfl⟩
    rw [← hlen] at hkc hlk ⊢
    have hlb : len ≤ 1048576 := by omega
    have Hk := Lib.hid hk
    have Hq := Lib.hid hqq
    have Hcc := Lib.hid hcc
    have Hlen := Lib.hid hlen
    have HdT := Lib.hid hdT
    have HyT := Lib.hid hyT
    have HST := Lib.hid hST
    have HTn := Lib.hid hTn
    unfold maxLen at ha hcm
    have hal := (Chg.refl NoB W).alloc (.cells #[.bool lf, .string at', .slice q len c] 24)
    have hblk := heap_alloc_new W (.cells #[.bool lf, .string at', .slice q len c] 24)
    obtain ⟨n0, n1, n2⟩ := var3 hblk
    have hyc1 := hal.keep hyc
    have hdc1 := hal.keep hdc
    have hJ1 := abides_alloc hJ (.cells #[.bool lf, .string at', .slice q len c] 24) hJ0
    have Hal := Lib.hid hal
    have Hblk := Lib.hid hblk
    clear hal hblk hk hqq hcc hn hlen hdT hyT hST hTn hs hyc hdc hJ0
    cases lf with
    | true =>
      rw [Nd.leaves, if_pos rfl] at hM
      simp only [List.length_cons, List.length_nil] at hM
      obtain ⟨fn, tmps, assign, body, hy, hR⟩ := hY (m - 1) pre at' _ hJ1 (by omega)
      have HR := Lib.hid hR
      clear hJ1 hY hM hR
      refine callsIn_of_wp Tryd.func33 rfl h33 ?_ hro
      simp only [Tryd.ntmps33, List.size_toArray, List.length_cons, List.length_nil, Nat.reduceAdd, Nat.reduceSub, Array.replicate_succ, Array.replicate_zero, List.push_toArray, List.append_toArray, List.nil_append, List.cons_append]
      gi_wp2
      refine HR.out.mono ?_
      rintro e W3 (⟨rfl, hJ3, hk3⟩ | ⟨rfl, hx3⟩)
      · gi_wp2
        go_ret
        exact .inl ⟨rfl, by rw [Nd.leaves, if_pos rfl]; exact hJ3, (Chg.keepT Hal.out fun _ => False.elim).trans hk3⟩
      · gi_wp2
        go_ret
        exact .inr ⟨rfl, [at'], by rw [Nd.leaves, if_pos rfl]; exact List.prefix_refl _, hx3⟩
    | false =>
      rw [Nd.leaves, if_neg (by decide)] at hM
      have HM := Lib.hid hM
      have HJ1 := Lib.hid hJ1
      have Hyc1 := Lib.hid hyc1
      have Hdc1 := Lib.hid hdc1
      clear hM hJ1 hY hyc1 hdc1
      refine callsIn_of_wp Tryd.func33 rfl h33 ?_ hro
      simp only [Tryd.ntmps33, List.size_toArray, List.length_cons, List.length_nil, Nat.reduceAdd, Nat.reduceSub, Array.replicate_succ, Array.replicate_zero, List.push_toArray, List.append_toArray, List.nil_append, List.cons_append]
      gi_wp2
      clear n0 n1 n2
      obtain ⟨W1, hW1⟩ : ∃ W1, W.alloc (.cells #[.bool false, .string at', .slice q len c] 24) = W1 := ⟨_, rfl⟩
      rw [hW1] at Hal Hblk HJ1 Hyc1 Hdc1 ⊢
      gi_loopw [16] (fun i wr => ∃ k : Nat, k ≤ len ∧ i = .int .i64 k ∧ J (pre ++ Nd.leavesL (ks.take k)) wr ∧ KeepT T W1 wr) (fun i _ => len - (intOf i).toNat)
      case atStart => exact ⟨0, Nat.zero_le _, rfl, by rw [List.take_zero, Nd.leavesL, List.append_nil]; exact HJ1.out, KeepT.refl _ _⟩
      case round =>
        obtain ⟨k, hk, rfl, hJr, hkr⟩ := hrel
        have HJr := Lib.hid hJr
        have Hkr := Lib.hid hkr
        clear hJr hkr
        by_cases hlt : k < len
        · obtain rfl := Hq.out (by rintro rfl; have := Hlen.out; simp at this; omega)
          have hlt' : k < ks.length := by have := Hlen.out; omega
          have hkW : KeepT T W wr := (Chg.keepT Hal.out fun _ => False.elim).trans Hkr.out
          obtain ⟨_, hca, s', kb', ko', c0, c1, c2, hs'⟩ := ((Hk.out k hlt').keepT hkW HST.out).cells
          have hv : NdV wr S (.agg #[.bool ks[k].leaf, .string ks[k].atom, s']) ks[k] := ⟨hca, _, kb', ko', rfl, hs'⟩
          obtain ⟨⟨q', c', hsq', -, -, -⟩, -⟩ := hs'
          subst hsq'
          have hcnt : ks[k].count ≤ N := Nat.le_trans (Nd.counts_get ks k hlt') Hcc.out
          have htk := Nd.leavesL_take ks k hlt'
          have hsub := Nd.leavesL_sub ks (k + 1)
          rw [htk, List.length_append] at hsub
          have Hv := Lib.hid hv
          have Hcnt := Lib.hid hcnt
          have Htk := Lib.hid htk
          have hpre : ks[k].leaves <+: (Nd.leavesL (ks.drop k)) := by
            rw [drop_get ks k hlt', Nd.leavesL]; exact List.prefix_append _ _
          have hall : Nd.leavesL ks = Nd.leavesL (ks.take k) ++ Nd.leavesL (ks.drop k) := by rw [← Nd.leavesL_app, List.take_append_drop]
          have Hpre := Lib.hid hpre
          have Hall := Lib.hid hall
          have hM2 : (pre ++ Nd.leavesL (ks.take k)).length + ks[k].leaves.length ≤ M := by have := HM.out; rw [List.length_append]; omega
          have HM2 := Lib.hid hM2
          clear hv hcnt htk hca hsub hpre hall hM2
          generalize ks[k] = kd at *
          obtain ⟨kl, ka, kk⟩ := kd
          simp only [Nd.leaf, Nd.atom, Nd.kids] at *
          obtain ⟨kn, hkn⟩ : ∃ kn, kn = kk.length := ⟨_, rfl⟩
          rw [← hkn] at c2 Hv
          have hal5 := (Chg.refl NoB wr).alloc (.cells #[.bool kl, .string ka, .slice q' kn c'] 24)
          obtain ⟨g0, g1, g2⟩ := var3 (heap_alloc_new wr (.cells #[.bool kl, .string ka, .slice q' kn c'] 24))
          have hyc5 := hal5.keep (Hkr.out.cell Hyc1.out HyT.out)
          have hdc5 := hal5.keep (Hkr.out.cell Hdc1.out HdT.out)
          have hcall := IH.out (m - 1) (.mk kl ka kk) _ (pre ++ Nd.leavesL (ks.take k)) _ Hcnt.out (Hv.out.keep hal5 fun _ _ => id) (fun x hx => HTn.out x (Nat.le_trans (Nat.le_trans hkW.size hal5.size) hx)) hyc5 hdc5 (abides_alloc hJ _ HJr.out) HM2.out
          have Hcall := Lib.hid hcall
          have Hk5 := Lib.hid (hkW.trans (Chg.keepT hal5 fun _ => False.elim))
          have Hk51 := Lib.hid (Hkr.out.trans (Chg.keepT hal5 fun _ => False.elim))
          clear hkn hal5 hkW hcall
          gi_wp2_with ((try refine ⟨hdd _, ?_⟩); gi_at_call 33; refine Hcall.out.mono ?_; rintro e W3 (⟨rfl, hJ3, hk3⟩ | ⟨rfl, q, hq, hx3⟩))
          · go_roundw
            case rel => exact ⟨k + 1, by omega, by go_num, by rw [Htk.out, ← List.append_assoc]; exact hJ3, Hk51.out.trans hk3⟩
            case measure => simp [intOf]; omega
          · go_ret
            refine .inr ⟨rfl, Nd.leavesL (ks.take k) ++ q, ?_, by rw [← List.append_assoc]; exact hx3⟩
            rw [Nd.leaves, if_neg (by decide), Hall.out]
            obtain ⟨r1, hr1⟩ := hq
            obtain ⟨r2, hr2⟩ := Hpre.out
            exact ⟨r1 ++ r2, by rw [List.append_assoc, ← List.append_assoc q, hr1, hr2]⟩
        · obtain rfl : k = len := by omega
          have htk : ks.take k = ks := by rw [Hlen.out, List.take_length]
          rw [htk] at HJr
          gi_wp2
          go_ret
          exact .inl ⟨rfl, by rw [Nd.leaves, if_neg (by decide)]; exact HJr.out, (Chg.keepT Hal.out fun _ => False.elim).trans Hkr.out⟩
theorem alloc_set1 (w : World) (u v : Value) (t : TypeId) : (w.alloc (.cells #[u] t)).setCell ⟨w.heap.size, 0, none⟩ v = w.alloc (.cells #[v] t) := by
  unfold World.setCell World.alloc
  simp only [World.mk.injEq, and_true]
  apply Array.ext (by simp)
  intro i h1 h2
  simp only [Array.getElem_modify, Array.getElem_push]
  by_cases hi : i = w.heap.size
  · subst hi; simp
  · have : i < w.heap.size := by simp at h2; omega
    simp [this, Ne.symm hi]
set_option maxRecDepth 100000 in
set_option maxHeartbeats 1000000 in
theorem leaves1_in (F : Fence) (hd : F.depth = none) (m : Nat) (h32 : F.fn 32) (h33 : F.fn 33) (hro : F.round = none) (l b : Nat) (T S : Nat → Prop) (n : Nd) (hn : n.count ≤ 1048576) (s : Value) (kb ko : Nat)
    (hST : ∀ k, S k → ¬ T k) (J Jx : List ByteArray → World → Prop) (W : World) (hJ : AbidesFrom W.heap.size J)
    (hY : ∀ pre x W, J pre W → pre.length < n.leaves.length → YieldAt F (m - 1) Tryd.prog l #[.string x] W fun e W' =>
      (e = .returned (.bool true) ∧ J (pre ++ [x]) W' ∧ KeepT T W W') ∨ (e = .returned (.bool false) ∧ Jx (pre ++ [x]) W'))
    (hTn : ∀ k, W.heap.size ≤ k → ¬ T k) (hb : W.heap[b]? = some (.cells #[.bool n.leaf, .string n.atom, s] 24 (0, 0))) (ha : n.atom.size ≤ maxLen) (hs : NdS W S s n.kids kb ko) (h0 : J [] W) :
    CallsIn F m Tryd.prog 32 #[.func (.yield l) #[] #[], .pointer (some ⟨b, 0, none⟩)] W fun e W' => (∃ v, e = .returned v) ∧
      ((∃ ys, ys = n.leaves ∧ J ys W') ∨ (∃ pre, pre <+: n.leaves ∧ Jx pre W')) := by
  have hdd : ∀ k : Nat, (F.depth.isSome = true → 1 ≤ k) := fun k h => by rw [hd] at h; cases h
  have hs' := hs
  obtain ⟨⟨q, c, rfl, -, -, -⟩, -⟩ := hs
  have hal1 := (Chg.refl NoB W).alloc (.cells #[.func (.yield l) #[] #[]] 33)
  obtain ⟨db, hdb⟩ : ∃ db, db = W.heap.size + 1 := ⟨_, rfl⟩
  have hal2 := hal1.alloc (.cells #[.func (.func 33) #[] #[.pointer (some ⟨W.heap.size, 0, none⟩), .pointer (some ⟨W.heap.size + 1, 0, none⟩)]] 26)
  have hsz : (W.alloc (.cells #[.func (.yield l) #[] #[]] 33)).heap.size = W.heap.size + 1 := alloc_size _ _
  have y0 : ((W.alloc (.cells #[.func (.yield l) #[] #[]] 33)).alloc (.cells #[.func (.func 33) #[] #[.pointer (some ⟨W.heap.size, 0, none⟩), .pointer (some ⟨W.heap.size + 1, 0, none⟩)]] 26)).cell? ⟨W.heap.size, 0, none⟩ = some (.func (.yield l) #[] #[]) := by
    have h := cell_of_row _ W.heap.size 0 _ _ (0, 0) (row_kept ((Chg.refl NoB (W.alloc (.cells #[.func (.yield l) #[] #[]] 33))).alloc (.cells #[.func (.func 33) #[] #[.pointer (some ⟨W.heap.size, 0, none⟩), .pointer (some ⟨W.heap.size + 1, 0, none⟩)]] 26)) (heap_alloc_new W (.cells #[.func (.yield l) #[] #[]] 33)) id)
    exact h
  have hd0 := heap_alloc_new (W.alloc (.cells #[.func (.yield l) #[] #[]] 33)) (.cells #[.func (.func 33) #[] #[.pointer (some ⟨W.heap.size, 0, none⟩), .pointer (some ⟨W.heap.size + 1, 0, none⟩)]] 26)
  have hz0 := heap_alloc_new (W.alloc (.cells #[.func (.yield l) #[] #[]] 33)) (.cells #[.nilFunc] 26)
  have hset := alloc_set1 (W.alloc (.cells #[.func (.yield l) #[] #[]] 33)) .nilFunc (.func (.func 33) #[] #[.pointer (some ⟨W.heap.size, 0, none⟩), .pointer (some ⟨W.heap.size + 1, 0, none⟩)]) 26
  rw [hsz] at hd0 hz0 hset
  have z0 : ((W.alloc (.cells #[.func (.yield l) #[] #[]] 33)).alloc (.cells #[.nilFunc] 26)).cell? ⟨W.heap.size + 1, 0, none⟩ = some .nilFunc := cell_of_row _ _ 0 _ _ (0, 0) hz0
  have zf := row_free hz0 0
  have d0 : ((W.alloc (.cells #[.func (.yield l) #[] #[]] 33)).alloc (.cells #[.func (.func 33) #[] #[.pointer (some ⟨W.heap.size, 0, none⟩), .pointer (some ⟨W.heap.size + 1, 0, none⟩)]] 26)).cell? ⟨W.heap.size + 1, 0, none⟩ = some (.func (.func 33) #[] #[.pointer (some ⟨W.heap.size, 0, none⟩), .pointer (some ⟨W.heap.size + 1, 0, none⟩)]) := cell_of_row _ _ 0 _ _ (0, 0) hd0
  have hJ2 := abides_alloc hJ (.cells #[.func (.func 33) #[] #[.pointer (some ⟨W.heap.size, 0, none⟩), .pointer (some ⟨W.heap.size + 1, 0, none⟩)]] 26) (abides_alloc hJ (.cells #[.func (.yield l) #[] #[]] 33) h0)
  obtain ⟨W3, hW3⟩ : ∃ W3, (W.alloc (.cells #[.func (.yield l) #[] #[]] 33)).alloc (.cells #[.func (.func 33) #[] #[.pointer (some ⟨W.heap.size, 0, none⟩), .pointer (some ⟨W.heap.size + 1, 0, none⟩)]] 26) = W3 := ⟨_, rfl⟩
  rw [hW3] at hset hal2 y0 d0 hJ2
  obtain ⟨q0, q1, q2⟩ := var3 (row_kept hal2 hb id)
  have hcall := down_in F hd h33 hro l W.heap.size (W.heap.size + 1) n.leaves.length W.heap.size T S hST (hTn _ (Nat.le_refl _)) (hTn _ (Nat.le_succ _)) J Jx hJ (fun m pre x W' hj hl => YieldAt.anyDepth hd m (hY pre x W' hj hl)) 1048576 (Nat.le_refl _)
    (m - 1) n (.agg #[.bool n.leaf, .string n.atom, .slice q n.kids.length c]) [] W3 hn ⟨ha, _, kb, ko, rfl, hs'.keep hal2 fun _ _ => id⟩ (fun k hk => hTn k (Nat.le_trans hal2.size hk)) y0 d0 hJ2 (by simp)
  obtain ⟨len, hlen⟩ : ∃ len, len = n.kids.length := ⟨_, rfl⟩
  rw [← hlen] at q2 hcall
  have Hcall := Lib.hid hcall
  clear hcall hlen hs' hd0 hz0 hW3 hal1 hal2 hb hJ2 h0 hY hsz hdb
  refine callsIn_of_wp Tryd.func32 rfl h32 ?_ hro
  simp only [Tryd.ntmps32, List.size_toArray, List.length_cons, List.length_nil, Nat.reduceAdd, Nat.reduceSub, Array.replicate_succ, Array.replicate_zero, List.push_toArray, List.append_toArray, List.nil_append, List.cons_append]
  gi_wp2_with ((try refine ⟨hdd _, ?_⟩); gi_at_call 33; refine Hcall.out.mono ?_; rintro e W4 (⟨rfl, hJ4, hk4⟩ | ⟨rfl, q, hq, hx4⟩))
  · go_end0
    exact ⟨⟨_, rfl⟩, .inl ⟨_, rfl, by simpa using hJ4⟩⟩
  · go_end0
    exact ⟨⟨_, rfl⟩, .inr ⟨q, hq, by simpa using hx4⟩⟩
/- what Leaves makes goes over all atoms, in the order of writing, or stops where it is stopped -/
theorem leaves1_stops (F : Fence) (hd : F.depth = none) (m : Nat) (h32 : F.fn 32) (h33 : F.fn 33) (hro : F.round = none) (b : Nat) (T S : Nat → Prop) (n : Nd) (hn : n.count ≤ 1048576) (s : Value) (kb ko : Nat) (w : World)
    (hST : ∀ k, S k → ¬ T k) (hSw : ∀ k, S k → k < w.heap.size) (hTn : ∀ k, w.heap.size ≤ k → ¬ T k) (hb : w.heap[b]? = some (.cells #[.bool n.leaf, .string n.atom, s] 24 (0, 0))) (ha : n.atom.size ≤ maxLen) (hs : NdS w S s n.kids kb ko) :
    SeqStopsK F m Tryd.prog 32 #[.pointer (some ⟨b, 0, none⟩)] (fun x : ByteArray => #[Value.string x]) (KeepT T) (fun ys => ys = n.leaves) (fun pre => pre <+: n.leaves) n.leaves.length w := fun l J Jx W hW hJ _ hY h0 => by
  have hlt := lt_of_block hb
  have hb' : W.heap[b]? = some (.cells #[.bool n.leaf, .string n.atom, s] 24 (0, 0)) := (hW.block b hlt).trans hb
  have hs' : NdS W S s n.kids kb ko := hs.keep (T := NoB) ⟨hW.os, hW.tape, hW.output, hW.size, fun k hk _ => hW.block k hk⟩ fun _ _ => id
  exact leaves1_in F hd m h32 h33 hro l b T S n hn s kb ko hST J Jx W hJ hY (fun k hk => hTn k (Nat.le_trans hW.size hk)) hb' ha hs' h0
end Go.Proofs.YtodcbagjmbdafaaDoor
