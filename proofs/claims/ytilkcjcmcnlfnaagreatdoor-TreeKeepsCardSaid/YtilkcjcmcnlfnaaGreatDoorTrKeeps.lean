/- Proved: the statement TreeKeeps holds for every list of files and file. Conditions: the listed package variables read as the program's text lays them (the card ties them); nothing else. -/
import Derived.Test.YtilkcjcmcnlfnaaGreatDoorTrKit
import Derived.Test.YtilkcjcmcnlfnaaGreatDoorTrRput
import Derived.Test.YtilkcjcmcnlfnaaGreatDoorTrMount
import Derived.Deep.RegionHeld3
namespace Go.Proofs.YtilkcjcmcnlfnaaGreatDoor
set_option linter.unusedVariables false
open Go.ChangeShapes Go.WideShapes Go.ChangeAt Go.RowKit
open Go.ChangeMaps (open_string shut_string)
theorem own_none (w : World) : (w.alloc (.cells #[] 33)).ownsRow w.heap.size 33 2 (.slice (some ⟨w.heap.size, 0, none⟩) 0 0) 0 [] := ⟨rfl, .inr ⟨_, 0, #[], rfl, Nat.le_refl _, heap_alloc_new w _, Nat.le_refl _, Nat.zero_le _, rfl, rfl⟩⟩
theorem wp_cutP {P : Program} {c : Code} {Q : Exit → Act → World → Prop} {a : Act} {w : World} (F : Act → Act → World → Prop) (h1 : c.wp P (fun e a' w' => e = .normal ∧ F a a' w') a w) (h2 : ∀ a' w', F a a' w' → Q .normal a' w') : c.wp P Q a w :=
  Code.wp_mono (fun e a' w' h => by obtain ⟨rfl, h⟩ := h; exact h2 a' w' h) h1
def spareL : FileL := ([115, 112, 97, 114, 101], [114, 111, 111, 109])
theorem lit_row (w : World) : ((w.alloc (.cells #[] 33)).drew.alloc (.cells #[.string ⟨#[115, 112, 97, 114, 101]⟩, .string ⟨#[114, 111, 111, 109]⟩] 33)).heap[w.heap.size + 1]? = some (.cells #[.string ⟨#[115, 112, 97, 114, 101]⟩, .string ⟨#[114, 111, 111, 109]⟩] 33) := by
  have h := heap_alloc_new (w.alloc (.cells #[] 33)).drew (.cells #[.string ⟨#[115, 112, 97, 114, 101]⟩, .string ⟨#[114, 111, 111, 109]⟩] 33)
  have e : (w.alloc (.cells #[] 33)).drew.heap.size = w.heap.size + 1 := aSize w (.cells #[] 33)
  rwa [e] at h
theorem lit_row3 (w : World) : ((w.alloc (.cells #[.string ⟨#[115, 112, 97, 114, 101]⟩, .string ⟨#[114, 111, 111, 109]⟩] 33)).alloc (.cells #[] 33)).drew.heap[w.heap.size]? = some (.cells #[.string ⟨#[115, 112, 97, 114, 101]⟩, .string ⟨#[114, 111, 111, 109]⟩] 33) :=
  row_kept (((Chg.refl NoB (w.alloc (.cells #[.string ⟨#[115, 112, 97, 114, 101]⟩, .string ⟨#[114, 111, 111, 109]⟩] 33))).alloc (.cells #[] 33)).drew) (heap_alloc_new w (.cells #[.string ⟨#[115, 112, 97, 114, 101]⟩, .string ⟨#[114, 111, 111, 109]⟩] 33)) id
theorem own_none1 (w : World) : ((w.alloc (.cells #[.string ⟨#[115, 112, 97, 114, 101]⟩, .string ⟨#[114, 111, 111, 109]⟩] 33)).alloc (.cells #[] 33)).drew.ownsRow w.heap.size 33 2 (.slice (some ⟨w.heap.size + 1, 0, none⟩) 0 0) 0 [] := by
  have h := own_none (w.alloc (.cells #[.string ⟨#[115, 112, 97, 114, 101]⟩, .string ⟨#[114, 111, 111, 109]⟩] 33))
  have e : (w.alloc (.cells #[.string ⟨#[115, 112, 97, 114, 101]⟩, .string ⟨#[114, 111, 111, 109]⟩] 33)).heap.size = w.heap.size + 1 := aSize w (.cells #[.string ⟨#[115, 112, 97, 114, 101]⟩, .string ⟨#[114, 111, 111, 109]⟩] 33)
  rw [e] at h
  exact ownsRow_low (by omega) (ownsRow_chg h (Chg.refl NoB _).drew fun _ _ => id)
theorem lit_at {w : World} {b : Nat} {x y : Value} {t : TypeId} (h : w.heap[b]? = some (.cells #[x, y] t (0, 0))) : ∀ (j : Nat) (u : Value), [x, y][j]? = some u → w.cell? ((⟨b, 0, none⟩ : Addr).add j) = some u := by
  intro j u hj
  rw [add_zero_off, cell_of_row _ b j _ t (0, 0) h, ← hj]
  simp
def OwnP (d : List FileL) (y : Int) (w : World) (e : Ending) (w' : World) : Prop := Chg NoB w w' ∧ ∃ q n c, n = d.length ∧ e = .returned (.tuple #[.agg #[.slice q n c], .int .i64 y]) ∧ w'.ownsRow w.heap.size 33 2 (.slice q n c) n (flatP d)
theorem MakeP.own {r : Except Int (List FileL)} {w : World} {e : Ending} {w' : World} (h : MakeP r w e w') : OwnP (outL r) (outE r) w e w' := by
  obtain ⟨hc, h⟩ := h
  refine ⟨hc, ?_⟩
  cases r with
  | error y => exact ⟨none, 0, 0, rfl, h, World.ownsRow_nil _ _ _ _⟩
  | ok d =>
    obtain ⟨v, he, hrow⟩ := h
    obtain ⟨q, c, rfl, -, -⟩ := row_shape hrow
    exact ⟨q, _, c, rfl, he, hrow⟩
theorem OwnP.val {d : List FileL} {y : Int} {w : World} {e : Ending} {w' : World} (h : OwnP d y w e w') : Chg NoB w w' ∧ ∃ q n c, n = d.length ∧ e = .returned (.tuple #[.agg #[.slice q n c], .int .i64 y]) ∧ w'.ownsRow w.heap.size 33 2 (.slice q n c) n (flatP d) := h
theorem own_free {w : World} {base g n cap : Nat} {xs : List Value} {t : TypeId} {z : Nat} (h : w.ownsRow base t z (.slice (some ⟨g, 0, none⟩) n cap) n xs) : ∀ j, w.frozen? ⟨g, j, none⟩ = false := by
  rcases h.2 with ⟨e, _⟩ | ⟨g', cap', cur, e, hb, hh, _⟩
  · cases e
  · cases e
    exact row_free hh
theorem own_addr {w : World} {base n cap : Nat} {q : Option Addr} {xs : List Value} {t : TypeId} {z : Nat} (h : w.ownsRow base t z (.slice q n cap) n xs) (hn : 0 < n) : ∃ g, q = some ⟨g, 0, none⟩ := by
  rcases h.2 with ⟨e, h0⟩ | ⟨g', cap', cur, e, _⟩
  · omega
  · cases e
    exact ⟨_, rfl⟩
theorem own_cells {w : World} {base g n cap : Nat} {xs : List FileL} (h : w.ownsRow base 33 2 (.slice (some ⟨g, 0, none⟩) n cap) n (flatP xs)) (i : Nat) (hi : i < xs.length) : w.cell? ⟨g, i * 2, none⟩ = some (.string (tx xs[i].1)) ∧ w.cell? ⟨g, i * 2 + 1, none⟩ = some (.string (tx xs[i].2)) := by
  have hcl := World.ownsRow.cells (g := g) h rfl
  obtain ⟨g0, g1⟩ := flatP_at xs i hi
  exact ⟨by have := hcl _ _ g0; rwa [add_zero_off] at this, by have := hcl _ _ g1; rwa [add_zero_off] at this⟩
theorem Chg.over {S T : Nat → Prop} {a b c : World} (h : Chg S a b) (g : Chg T b c) (hT : ∀ k, T k → a.heap.size ≤ k) : Chg S a c :=
  ⟨g.os.trans h.os, g.tape.trans h.tape, g.output.trans h.output, Nat.le_trans h.size g.size, fun k hk hs => (g.block k (Nat.lt_of_lt_of_le hk h.size) fun s => by have := hT k s; omega).trans (h.block k hk hs)⟩
theorem InpS.front {w : World} {S : Nat → Prop} {q : Option Addr} {n m c : Nat} {l r : List FileL} {kb ko : Nat} (h : InpS w S (.slice q m c) (l ++ r) kb ko) (hn : n = l.length) : InpS w S (.slice q n c) l kb ko := by
  obtain ⟨⟨q', c', e, h1, h2, h3⟩, hat⟩ := h
  cases e
  rw [List.length_append] at h1
  subst hn
  refine ⟨⟨q, c, rfl, by omega, h2, fun hne => h3 (by simp [hne])⟩, fun i hi => ?_⟩
  have h := hat i (by rw [List.length_append]; omega)
  rw [List.getElem_append_left hi] at h
  exact h
theorem step_append_inp {P : Program} {ops : Array Oper} {o : Oper} {a : Act} {K : Act → World → Prop} {Q : Exit → Act → World → Prop} {E : Prop} (hgd : o.guard = none) (w : World) (s x : Operand) (t : TypeId)
    (ho : o.op = .call { callee := .builtin .append, args := #[s, x], argTypes := #[t, t] })
    (base : Nat) (e : TypeId) (i : TypeInfo) (z : Value) (size bytes : Nat) (ht : P.underlying t = some (.slice e)) (hi : P.info? e = some i) (hz : i.zero = some z)
    (hsize : i.size = size) (hby : i.bytes = bytes) (hzs : z.cells.size = size) (hsz : 0 < size)
    (v : Value) (n : Nat) (xs : List Value) (hs : a.eval s = v) (hown : w.ownsRow base e size v n xs)
    (q : Option Addr) (m c : Nat) (news : List Value) (hx : a.eval x = .slice q m c) (hq : (∃ ad, q = some ad ∧ ∀ j u, news[j]? = some u → w.cell? (ad.add j) = some u) ∨ (q = none ∧ m = 0 ∧ news = [])) (hl : news.length = m * size) (h1 : ∀ u ∈ news, u.oneCell' = true)
    (h63 : n + m ≤ maxLen) (hbytes : (n + m) * bytes ≤ 140737488355328) (hbase : base ≤ w.heap.size)
    (h : ∀ v' w', w'.ownsRow base e size v' (n + m) (xs ++ news) → w.grownBy w' v.ownBlock → K (a.put o.dst v') w') :
    if Region.wanted o (yielded ops a.tmps) = true then Oper.wp P o a w K Q else E := by
  rcases hq with ⟨ad, rfl, hnews⟩ | ⟨rfl, rfl, rfl⟩
  · exact step_append_at hgd w s x t ho base e i z size bytes ht hi hz hsize hby hzs hsz v n xs hs hown ad m c news hx hl hnews h1 h63 hbytes hbase fun v' w' h2 h3 _ => h v' w' h2 h3
  · have hw : Region.wanted o (yielded ops a.tmps) = true := by simp [Region.wanted, hgd]
    rw [if_pos hw]
    have hrun := run_append_none (P := P) (w := w) base t o.type e i size c ht hi v n xs hown
    unfold Oper.wp execOp
    simp only [ho, resolve, invoke, builtin, Sem.run_bind, Sem.run_pure, Result.andThen_ok, List.map_toArray, List.map_cons, List.map_nil, hs, hx, hrun]
    exact h v w (by rw [List.append_nil]; exact hown) (World.grownBy.refl _ _)
set_option maxHeartbeats 16000000 in
set_option maxRecDepth 20000 in
theorem treeKeeps_all (l : List FileL) (v : Value) (kb ko : Nat) (f : FileL) (W : World) (hs : InpS W (OldB W) v l kb ko) (hr : Reach l) (hrf : ReachF f) (hlb : Lw W.heap.size W) (hml : Pth.Ml W) :
    Calls Tryz.prog 8 #[v, .agg #[.string (tx f.1), .string (tx f.2)]] W fun e w' => e = .returned (.bool true) ∧ Chg NoB W w' := by
  obtain ⟨f1, f2⟩ := f
  have Hs := Lib.hid (fun w' (h : Chg NoB W w') => hs.keep h fun _ _ => id)
  obtain ⟨⟨q, c, rfl, h1, h2, h3⟩, hat⟩ := hs
  have Hat := Lib.hid hat
  have H3 := Lib.hid h3
  unfold maxLen at h2
  obtain ⟨n, hn⟩ : ∃ n, n = l.length := ⟨_, rfl⟩
  rw [← hn] at Hs h1 ⊢
  have Hn := Lib.hid hn
  show Calls _ _ #[_, .agg #[.string (tx f1), .string (tx f2)]] _ _
  have Hr := Lib.hid hr
  have Hrf := Lib.hid hrf
  have Hlb := Lib.hid hlb
  have Hml := Lib.hid hml
  clear hn hr hrf hlb hml h3 hat
  have hal_ := (Chg.refl NoB W).alloc (.cells #[.string (tx f1), .string (tx f2)] 33)
  have hb_ := heap_alloc_new W (.cells #[.string (tx f1), .string (tx f2)] 33)
  obtain ⟨fb, hxb_⟩ : ∃ b, b = W.heap.size := ⟨_, rfl⟩
  obtain ⟨w1, hw_⟩ : ∃ w_, W.alloc (.cells #[.string (tx f1), .string (tx f2)] 33) = w_ := ⟨_, rfl⟩
  have hz_ : w1.heap.size = fb + 1 := by rw [← hw_, hxb_]; exact alloc_size _ _
  rw [hw_] at hal_ hb_
  rw [← hxb_] at hb_
  have Hw1 := Lib.hid hw_
  have Hx1 := Lib.hid hxb_
  have Ha1 := Lib.hid hal_
  have Hb1 := Lib.hid hb_
  have Hz1 := Lib.hid hz_
  clear hal_ hb_ hxb_ hw_ hz_
  have HF3 := Lib.hid Hb1.out
  go_enter Tryz.func8, Tryz.ntmps8
  go_upto_region 1 with fail
  rw [Hw1.out, ← Hx1.out]
  go_wp2_with fail
  refine (talive_any W.heap.size w1 ((Hlb.out.keep Ha1.out)) (ml_keep Hml.out Ha1.out)).mono ?_
  rintro e w4 ⟨rfl, hc4⟩
  have Hc4 := Lib.hid (Ha1.out.trans hc4)
  have HF4 := Lib.hid (row_kept hc4 HF3.out id)
  clear hc4
  skip
  have Hgr_ := Lib.hid ((fun h => tgreat_any l Hr.out.1 Hr.out.2 _ _ kb ko w4 h) (Hs.out w4 Hc4.out))
  obtain ⟨g1, hg_⟩ : ∃ g, g = greatF l := ⟨_, rfl⟩
  rw [← hg_] at Hgr_
  have Hg1 := Lib.hid hg_
  clear hg_
  cases g1 with
  | true =>
    go_wp2_with fail
    refine Hgr_.out.mono ?_
    rintro e wx ⟨rfl, hcx⟩
    have Hcx := Lib.hid (Hc4.out.trans hcx)
    clear hcx 
    go_wp2_with fail
    go_ret
    exact ⟨rfl, Hcx.out⟩
  | false =>
  go_wp2_with fail
  refine Hgr_.out.mono ?_
  rintro e w5 ⟨rfl, hcx⟩
  have Hc5 := Lib.hid (Hc4.out.trans hcx)
  have HF5 := Lib.hid (row_kept hcx HF4.out id)
  clear hcx Hgr_ 
  obtain ⟨f0, f0'⟩ := var2 HF5.out
  have Hgr_ := Lib.hid (great1_any (f1, f2) Hrf.out w5)
  obtain ⟨g2, hg_⟩ : ∃ g, g = greatF [(f1, f2)] := ⟨_, rfl⟩
  rw [← hg_] at Hgr_
  have Hg2 := Lib.hid hg_
  clear hg_
  cases g2 with
  | true =>
    go_wp2_with fail
    refine Hgr_.out.mono ?_
    rintro e wx ⟨rfl, hcx⟩
    have Hcx := Lib.hid (Hc5.out.trans hcx)
    clear hcx f0 f0'
    go_wp2_with fail
    go_ret
    exact ⟨rfl, Hcx.out⟩
  | false =>
  go_wp2_with fail
  refine Hgr_.out.mono ?_
  rintro e w6 ⟨rfl, hcx⟩
  have Hc6 := Lib.hid (Hc5.out.trans hcx)
  have HF6 := Lib.hid (row_kept hcx HF5.out id)
  clear hcx Hgr_ f0 f0'
  obtain ⟨hl, hw⟩ := great_sizes Hg1.out.symm
  obtain ⟨hf1, hf2⟩ := great1_no Hg2.out.symm
  change f1.length ≤ 131072 at hf1
  change f2.length ≤ 131072 at hf2
  have hn2 : n ≤ 200 := by rw [Hn.out]; exact (great_no Hg1.out.symm).1
  have Hlw := Lib.hid (And.intro hl hw)
  have Hf12 := Lib.hid (And.intro hf1 hf2)
  clear hl hw hf1 hf2 Hg1 Hg2
  go_upto_region 6 with fail
  have hal_ := (Chg.refl NoB w6).alloc (.cells #[.string ⟨#[115, 112, 97, 114, 101]⟩, .string ⟨#[114, 111, 111, 109]⟩] 33)
  have hb_ := heap_alloc_new w6 (.cells #[.string ⟨#[115, 112, 97, 114, 101]⟩, .string ⟨#[114, 111, 111, 109]⟩] 33)
  obtain ⟨pb, hxb_⟩ : ∃ b, b = w6.heap.size := ⟨_, rfl⟩
  obtain ⟨w7, hw_⟩ : ∃ w_, w6.alloc (.cells #[.string ⟨#[115, 112, 97, 114, 101]⟩, .string ⟨#[114, 111, 111, 109]⟩] 33) = w_ := ⟨_, rfl⟩
  have hz_ : w7.heap.size = pb + 1 := by rw [← hw_, hxb_]; exact alloc_size _ _
  rw [hw_] at hal_ hb_
  rw [← hxb_] at hb_
  have Hw7 := Lib.hid hw_
  have Hx7 := Lib.hid hxb_
  have Ha7 := Lib.hid hal_
  have Hb7 := Lib.hid hb_
  have Hz7 := Lib.hid hz_
  clear hal_ hb_ hxb_ hw_ hz_
  rw [Hw7.out, ← Hx7.out]
  have HF7 := Lib.hid (row_kept Ha7.out HF6.out id)
  have Hc7 := Lib.hid (Hc6.out.trans Ha7.out)
  have HP7 := Lib.hid Hb7.out
  obtain ⟨p0, p1⟩ := var2 HP7.out
  obtain ⟨i0, hi, hz0, hz1, hz2⟩ := info_parts inpInfo
  have Hi := Lib.hid hi
  have Hz0 := Lib.hid hz0
  have Hzb1 := Lib.hid hz1
  have Hzb2 := Lib.hid hz2
  clear hi hz0 hz1 hz2
  refine wp_cutP (fun a a' w' => ∃ x29 x30 x31 x32 x33 x34 x6, a' = (((((((a.put (some 29) x29).put (some 30) x30).put (some 31) x31).put (some 32) x32).put (some 33) x33).put (some 34) x34).put (some 6) x6) ∧ x34 = x6 ∧ w'.ownsRow w7.heap.size 33 2 x6 (n + 1) (flatP (l ++ [spareL])) ∧ Chg NoB w7 w') ?_ ?_
  · have hdr0 := (Chg.refl NoB w7).alloc (.cells #[] 33)
    have hE := own_none w7
    have HE1 := Lib.hid (ownsRow_chg hE (Chg.refl NoB _).drew fun _ _ => id)
    have HE2 := Lib.hid (ownsRow_chg HE1.out ((Chg.refl NoB _).alloc (.cells #[.string ⟨#[115, 112, 97, 114, 101]⟩, .string ⟨#[114, 111, 111, 109]⟩] 33)) fun _ _ => id)
    have HN1 := Lib.hid ((Hs.out _ (Hc7.out.trans hdr0.drew)).news)
    have HN2 := Lib.hid ((Hs.out _ (Hc7.out.trans (hdr0.drew.alloc (.cells #[.string ⟨#[115, 112, 97, 114, 101]⟩, .string ⟨#[114, 111, 111, 109]⟩] 33)))).news)
    rw [← Hn.out] at HN1 HN2
    have HW3 := Lib.hid (show Chg NoB w7 ((w7.alloc (.cells #[.string ⟨#[115, 112, 97, 114, 101]⟩, .string ⟨#[114, 111, 111, 109]⟩] 33)).alloc (.cells #[] 33)).drew from (((Chg.refl NoB w7).alloc (.cells #[.string ⟨#[115, 112, 97, 114, 101]⟩, .string ⟨#[114, 111, 111, 109]⟩] 33)).alloc (.cells #[] 33)).drew)
    have HE3 : Hid (((w7.alloc (.cells #[.string ⟨#[115, 112, 97, 114, 101]⟩, .string ⟨#[114, 111, 111, 109]⟩] 33)).alloc (.cells #[] 33)).drew.ownsRow w7.heap.size 33 2 (.slice (some ⟨w7.heap.size + 1, 0, none⟩) 0 0) 0 []) := Lib.hid (own_none1 w7)
    have HN3 := Lib.hid ((Hs.out _ (Hc7.out.trans HW3.out)).news)
    rw [← Hn.out] at HN3
    have HW1 := Lib.hid (show Chg NoB w7 (w7.alloc (.cells #[] 33)).drew from hdr0.drew)
    have HW2 := Lib.hid (show Chg NoB w7 ((w7.alloc (.cells #[] 33)).drew.alloc (.cells #[.string ⟨#[115, 112, 97, 114, 101]⟩, .string ⟨#[114, 111, 111, 109]⟩] 33)) from hdr0.drew.alloc (.cells #[.string ⟨#[115, 112, 97, 114, 101]⟩, .string ⟨#[114, 111, 111, 109]⟩] 33))
    have M1 := Lib.hid (show 0 + n ≤ maxLen by unfold maxLen; omega)
    have M2 := Lib.hid (show (0 + n) * 32 ≤ 140737488355328 by omega)
    have M3 := Lib.hid (show n + 1 ≤ maxLen by unfold maxLen; omega)
    have M4 := Lib.hid (show (n + 1) * 32 ≤ 140737488355328 by omega)
    have Hfl := Lib.hid (show (flatP l).length = n * 2 by rw [flatP_len, ← Hn.out])
    have H1c := Lib.hid (show ∀ u ∈ flatP l, u.oneCell' = true from flatP_one l)
    have HA1 : Hid (∀ b wz, w7.heap.size ≤ b → Chg NoB w7 wz → ∀ v8 w8, w8.ownsRow w7.heap.size 33 2 v8 (0 + n) ([] ++ flatP l) → wz.grownBy w8 (Value.slice (some ⟨b, 0, none⟩) 0 0).ownBlock → w8.ownsRow w7.heap.size 33 2 v8 n (flatP l) ∧ Chg NoB w7 w8 ∧ (∀ u, u ≠ b → ∀ o, wz.heap[u]? = some o → w8.heap[u]? = some o)) := Lib.hid fun b wz hb hz v8 w8 ho hg => by
      rw [Nat.zero_add, List.nil_append] at ho
      have hgc : Chg (fun j => (Value.slice (some ⟨b, 0, none⟩) 0 0).ownBlock = some j) wz w8 := (Chg.refl _ _).grown hg fun j hj => .inl hj
      exact ⟨ho, hz.grown hg fun j hj => .inr (by cases hj; exact hb), fun u hu o ho => row_kept hgc ho fun e => hu (by cases e; rfl)⟩
    have HA2 : Hid (∀ wz v8, wz.ownsRow w7.heap.size 33 2 v8 n (flatP l) → Chg NoB w7 wz → ∀ v9 w9, w9.ownsRow w7.heap.size 33 2 v9 (n + 1) (flatP l ++ [.string ⟨#[115, 112, 97, 114, 101]⟩, .string ⟨#[114, 111, 111, 109]⟩]) → wz.grownBy w9 v8.ownBlock → w9.ownsRow w7.heap.size 33 2 v9 (n + 1) (flatP (l ++ [spareL])) ∧ Chg NoB w7 w9) := Lib.hid fun wz v8 ho hz v9 w9 ho9 hg =>
      ⟨by rw [flatP_app]; exact ho9, hz.grown hg fun j hj => .inr (World.ownsRow.lt ho j hj).1⟩
    have hp0 := hdr0.keep p0
    have hp1 := hdr0.keep p1
    have hp0d := hdr0.drew.keep p0
    have hp1d := hdr0.drew.keep p1
    have Hpb := Lib.hid (lt_of_block HP7.out)
    have HPB := Lib.hid HP7.out
    clear hdr0 hE
    go_region_held3 (fun w' => w'.cell? ⟨pb, 0, none⟩ = some (.string ⟨#[115, 112, 97, 114, 101]⟩) ∧ w'.cell? ⟨pb, 1, none⟩ = some (.string ⟨#[114, 111, 111, 109]⟩))
      (first | exact ⟨hp0d, hp1d⟩ | exact ⟨hp0, hp1⟩ | exact hpT | exact hpS | go_keep) (first
        | (refine step_append_inp (by rfl) _ (.tmp 29) (.tmp 30) 22 (by rfl) w7.heap.size 33 i0 (.agg #[.string ⟨#[]⟩, .string ⟨#[]⟩]) 2 32 Tryz.underlying22 Hi.out Hz0.out Hzb1.out Hzb2.out rfl (by decide) (.slice (some ⟨w7.heap.size, 0, none⟩) 0 0) 0 [] (by rfl) HE1.out q n c (flatP l) (by rfl) HN1.out Hfl.out H1c.out M1.out M2.out HW1.out.size ?_; intro v8 w8 hown8 hgr8; obtain ⟨ho8, hc8, hk8⟩ := HA1.out _ _ (Nat.le_refl _) HW1.out _ _ hown8 hgr8; have hpS := var2 (row_kept hc8 HPB.out id); have Ho8 := Lib.hid ho8; have Hc8 := Lib.hid hc8; have Hk8 := Lib.hid hk8; clear hown8 hgr8 ho8 hc8 hk8)
        | (refine step_append_inp (by rfl) _ (.tmp 29) (.tmp 30) 22 (by rfl) w7.heap.size 33 i0 (.agg #[.string ⟨#[]⟩, .string ⟨#[]⟩]) 2 32 Tryz.underlying22 Hi.out Hz0.out Hzb1.out Hzb2.out rfl (by decide) (.slice (some ⟨w7.heap.size, 0, none⟩) 0 0) 0 [] (by rfl) HE2.out q n c (flatP l) (by rfl) HN2.out Hfl.out H1c.out M1.out M2.out HW2.out.size ?_; intro v8 w8 hown8 hgr8; obtain ⟨ho8, hc8, hk8⟩ := HA1.out _ _ (by omega) HW2.out _ _ hown8 hgr8; have hpS := var2 (row_kept hc8 HPB.out id); have Ho8 := Lib.hid ho8; have Hc8 := Lib.hid hc8; have Hk8 := Lib.hid hk8; clear hown8 hgr8 ho8 hc8 hk8)
        | (refine step_append_inp (by rfl) _ (.tmp 29) (.tmp 30) 22 (by rfl) w7.heap.size 33 i0 (.agg #[.string ⟨#[]⟩, .string ⟨#[]⟩]) 2 32 Tryz.underlying22 Hi.out Hz0.out Hzb1.out Hzb2.out rfl (by decide) (.slice (some ⟨w7.heap.size + 1, 0, none⟩) 0 0) 0 [] (by rfl) HE3.out q n c (flatP l) (by rfl) HN3.out Hfl.out H1c.out M1.out M2.out HW3.out.size ?_; intro v8 w8 hown8 hgr8; obtain ⟨ho8, hc8, hk8⟩ := HA1.out _ _ (Nat.le_succ _) HW3.out _ _ hown8 hgr8; have hpS := var2 (row_kept hc8 HPB.out id); have Ho8 := Lib.hid ho8; have Hc8 := Lib.hid hc8; have Hk8 := Lib.hid hk8; clear hown8 hgr8 ho8 hc8 hk8)
        | (refine step_append_at (by rfl) _ (.tmp 31) (.tmp 33) 22 (by rfl) w7.heap.size 33 i0 (.agg #[.string ⟨#[]⟩, .string ⟨#[]⟩]) 2 32 Tryz.underlying22 Hi.out Hz0.out Hzb1.out Hzb2.out rfl (by decide) _ n _ (by rfl) (ownsRow_chg Ho8.out ((Chg.refl NoB w8).alloc (.cells #[.string ⟨#[115, 112, 97, 114, 101]⟩, .string ⟨#[114, 111, 111, 109]⟩] 33)) fun _ _ => id) ⟨w8.heap.size, 0, none⟩ 1 1 [.string ⟨#[115, 112, 97, 114, 101]⟩, .string ⟨#[114, 111, 111, 109]⟩] (by rfl) rfl (lit2 w8 _ _ _) (one2 _ _) M3.out M4.out (Hc8.out.alloc (.cells #[.string ⟨#[115, 112, 97, 114, 101]⟩, .string ⟨#[114, 111, 111, 109]⟩] 33)).size ?_; intro v9 w9 hown9 hgr9 hpl9; obtain ⟨ho9, hc9⟩ := HA2.out _ _ (ownsRow_chg Ho8.out ((Chg.refl NoB w8).alloc (.cells #[.string ⟨#[115, 112, 97, 114, 101]⟩, .string ⟨#[114, 111, 111, 109]⟩] 33)) fun _ _ => id) (Hc8.out.alloc (.cells #[.string ⟨#[115, 112, 97, 114, 101]⟩, .string ⟨#[114, 111, 111, 109]⟩] 33)) _ _ hown9 hgr9; obtain ⟨qz, cz, ez, -, -⟩ := row_shape ho9; subst ez; have Ho9 := Lib.hid ho9; have Hc9 := Lib.hid hc9; have hpT := var2 (row_kept hc9 HPB.out id); clear hown9 hgr9 hpl9 ho9 hc9)
        | (refine step_append_at (by rfl) _ (.tmp 31) (.tmp 33) 22 (by rfl) w7.heap.size 33 i0 (.agg #[.string ⟨#[]⟩, .string ⟨#[]⟩]) 2 32 Tryz.underlying22 Hi.out Hz0.out Hzb1.out Hzb2.out rfl (by decide) _ n _ (by rfl) Ho8.out ⟨w7.heap.size + 1, 0, none⟩ 1 1 [.string ⟨#[115, 112, 97, 114, 101]⟩, .string ⟨#[114, 111, 111, 109]⟩] (by first | rfl | simp) rfl (lit_at (Hk8.out _ (by omega) _ (lit_row w7))) (one2 _ _) M3.out M4.out Hc8.out.size ?_; intro v9 w9 hown9 hgr9 hpl9; obtain ⟨ho9, hc9⟩ := HA2.out _ _ Ho8.out Hc8.out _ _ hown9 hgr9; obtain ⟨qz, cz, ez, -, -⟩ := row_shape ho9; subst ez; have Ho9 := Lib.hid ho9; have Hc9 := Lib.hid hc9; have hpT := var2 (row_kept hc9 HPB.out id); clear hown9 hgr9 hpl9 ho9 hc9)
        | (refine step_append_at (by rfl) _ (.tmp 31) (.tmp 33) 22 (by rfl) w7.heap.size 33 i0 (.agg #[.string ⟨#[]⟩, .string ⟨#[]⟩]) 2 32 Tryz.underlying22 Hi.out Hz0.out Hzb1.out Hzb2.out rfl (by decide) _ n _ (by rfl) Ho8.out ⟨w7.heap.size, 0, none⟩ 1 1 [.string ⟨#[115, 112, 97, 114, 101]⟩, .string ⟨#[114, 111, 111, 109]⟩] (by first | rfl | simp) rfl (lit_at (Hk8.out _ (by omega) _ (lit_row3 w7))) (one2 _ _) M3.out M4.out Hc8.out.size ?_; intro v9 w9 hown9 hgr9 hpl9; obtain ⟨ho9, hc9⟩ := HA2.out _ _ Ho8.out Hc8.out _ _ hown9 hgr9; obtain ⟨qz, cz, ez, -, -⟩ := row_shape ho9; subst ez; have Ho9 := Lib.hid ho9; have Hc9 := Lib.hid hc9; have hpT := var2 (row_kept hc9 HPB.out id); clear hown9 hgr9 hpl9 ho9 hc9))
    all_goals exact ⟨rfl, _, _, _, _, _, _, _, rfl, rfl, Ho9.out, Hc9.out⟩
  · rintro a' w9 ⟨x29, x30, x31, x32, x33, v9, x6, rfl, rfl, ho9, hc9⟩
    have hrowL : w9.ownsRow w7.heap.size 33 2 v9 (l ++ [spareL]).length (flatP (l ++ [spareL])) := by rw [List.length_append, ← Hn.out]; exact ho9
    obtain ⟨nb, hns⟩ := InpS.of_row hrowL
    obtain ⟨m, hm⟩ : ∃ m, m = n + 1 := ⟨_, rfl⟩
    rw [← hm] at ho9
    obtain ⟨q9, c9, rfl, hnc9, hcm9⟩ := row_shape ho9
    obtain ⟨g, rfl⟩ := own_addr ho9 (by omega)
    have Hg := Lib.hid (World.ownsRow.lt ho9 g rfl)
    have Ho9 := Lib.hid ho9
    have Hfull := Lib.hid (fun w' (h : Chg NoB w9 w') => hns.keep h fun _ _ => id)
    have Hfr := Lib.hid (fun w' (h : Chg NoB w9 w') => (hns.keep h fun _ _ => id).front Hn.out)
    have Hc9 := Lib.hid (Hc7.out.trans hc9)
    have HF9 := Lib.hid (row_kept hc9 HF7.out id)
    have HP9 := Lib.hid (row_kept hc9 HP7.out id)
    have Hlo := Lib.hid (show W.heap.size ≤ w7.heap.size from Hc7.out.size)
    have HFlo := Lib.hid (lt_of_block HF7.out)
    unfold maxLen at hcm9
    have hnci : (n : Int) ≤ (c9 : Int) := by omega
    have hmci : m ≤ 201 := by omega
    have Hm := Lib.hid hm
    have HLL := Lib.hid (show (l ++ [spareL]).length ≤ 1048576 by rw [List.length_append, ← Hn.out]; show n + 1 ≤ _; omega)
    clear hrowL hns ho9 hc9 p0 p1 hm
    obtain ⟨dT, yT, HT, HRm, HlT⟩ : ∃ d y, Hid (∀ w', Chg NoB w9 w' → Calls _ _ _ w' (OutP d y w')) ∧ Hid (∀ w', Chg NoB W w' → Calls _ _ _ w' (OutP d y w')) ∧ Hid (d.length ≤ 1048576) :=
      ⟨outL (makeF l), outE (makeF l), Lib.hid (fun w' h => (make_any l Hlw.out.1 Hlw.out.2 _ _ nb 0 w' (ml_keep Hml.out (Hc9.out.trans h)) (Hfr.out w' h)).mono fun _ _ h => h.out),
       Lib.hid (fun w' h => (rmake_any l Hlw.out.1 Hlw.out.2 _ _ kb ko w' (Hs.out w' h)).mono fun _ _ h => h.out), Lib.hid (by have := make_out (l := l); omega)⟩
    obtain ⟨dU, yU, HU, HRp, HlU⟩ : ∃ d y, Hid (∀ w', Chg NoB w9 w' → Calls _ _ _ w' (OutP d y w')) ∧ Hid (∀ w', Chg NoB W w' → Calls _ _ _ w' (OutP d y w')) ∧ Hid (d.length ≤ 1048576) :=
      ⟨outL (putF l (f1, f2)), outE (putF l (f1, f2)), Lib.hid (fun w' h => (tput_any l (f1, f2) Hlw.out.1 Hlw.out.2 (by have := Hf12.out.1; show f1.length ≤ _; omega) (by have := Hf12.out.2; show f2.length ≤ _; omega) _ _ nb 0 w' (ml_keep Hml.out (Hc9.out.trans h)) (Hfr.out w' h)).mono fun _ _ h => h.out),
       Lib.hid (fun w' h => (rput_any l (f1, f2) Hlw.out.1 Hlw.out.2 (by have := Hf12.out.1; show f1.length ≤ _; omega) (by have := Hf12.out.2; show f2.length ≤ _; omega) _ _ kb ko w' (ml_keep Hml.out h) (Hs.out w' h)).mono fun _ _ h => h.out), Lib.hid put_out⟩
    obtain ⟨dV, yV, HV⟩ : ∃ d y, Hid (∀ w', Chg NoB w9 w' → Calls _ _ _ w' (OwnP d y w')) :=
      ⟨outL (cutF l []), outE (cutF l []), Lib.hid (fun w' h => (tcut_any l [] Hlw.out.1 Hlw.out.2 (by decide) _ _ nb 0 w' (ml_keep Hml.out (Hc9.out.trans h)) (Hfr.out w' h)).mono fun _ _ h => h.own)⟩
    replace HV : Hid (∀ w', Chg NoB w9 w' → Calls Tryz.prog 20 #[.agg #[.slice (some ⟨g, 0, none⟩) n c9], .string ⟨#[]⟩] w' (OwnP dV yV w')) := HV
    go_wp2_with fail
    refine (HT.out w9 (Chg.refl _ _)).mono ?_
    intro e wa hp_
    obtain ⟨hca, qa, na, ca, ka, ia, hna, rfl, hsa⟩ := hp_.val
    have HFa := Lib.hid (row_kept hca HF9.out id)
    have HPa := Lib.hid (row_kept hca HP9.out id)
    have Hca := Lib.hid hca
    have Hsa := Lib.hid hsa
    have Hna := Lib.hid hna
    clear hp_ hca hsa hna
    have hal_ := (Chg.refl NoB wa).alloc (.cells #[.slice qa na ca] 26)
    have hb_ := heap_alloc_new wa (.cells #[.slice qa na ca] 26)
    obtain ⟨tb, hxb_⟩ : ∃ b, b = wa.heap.size := ⟨_, rfl⟩
    obtain ⟨wb, hw_⟩ : ∃ w_, wa.alloc (.cells #[.slice qa na ca] 26) = w_ := ⟨_, rfl⟩
    have hz_ : wb.heap.size = tb + 1 := by rw [← hw_, hxb_]; exact alloc_size _ _
    rw [hw_] at hal_ hb_
    rw [← hxb_] at hb_
    have Hwt := Lib.hid hw_
    have Hxt := Lib.hid hxb_
    have Hat := Lib.hid hal_
    have Hbt := Lib.hid hb_
    have Hzt := Lib.hid hz_
    clear hal_ hb_ hxb_ hw_ hz_
    go_upto_region 8 with fail
    rw [Hwt.out, ← Hxt.out]
    have HFb := Lib.hid (row_kept Hat.out HFa.out id)
    have HPb := Lib.hid (row_kept Hat.out HPa.out id)
    have HTb := Lib.hid Hbt.out
    have Hcb := Lib.hid (Hca.out.trans Hat.out)
    have Hfb := Lib.hid (lt_of_block HFb.out)
    have HD1 := Lib.hid (Hcb.out.trans (Chg.refl NoB wb).drew)
    have HD2 := Lib.hid (Hcb.out.trans ((Chg.refl NoB wb).alloc (.cells #[.slice none 0 0] 26)).drew)
    have HFd : Hid (wb.drew.heap[fb]? = some (.cells #[.string (tx f1), .string (tx f2)] 33 (0, 0))) := Lib.hid (row_kept (Chg.refl NoB wb).drew HFb.out id)
    have HFz : Hid ((wb.alloc (.cells #[.slice none 0 0] 26)).drew.heap[fb]? = some (.cells #[.string (tx f1), .string (tx f2)] 33 (0, 0))) := Lib.hid (row_kept ((Chg.refl NoB wb).alloc (.cells #[.slice none 0 0] 26)).drew HFb.out id)
    refine wp_cutP (fun a a' w' => ∃ x44 x45 x46 x47 x48 x49 x50 x43 x51 x52 x9 x10, a' = ((((((((((((a.put (some 44) x44).put (some 45) x45).put (some 46) x46).put (some 47) x47).put (some 48) x48).put (some 49) x49).put (some 50) x50).put (some 43) x43).put (some 51) x51).put (some 52) x52).put (some 9) x9).put (some 10) x10) ∧ ∃ ub q n' c' kb' ko', x9 = .pointer (some ⟨ub, 0, none⟩) ∧ n' = dU.length ∧ w'.heap[ub]? = some (.cells #[.slice q n' c'] 26 (0, 0)) ∧ wb.heap.size ≤ ub ∧ InpS w' (NewB wb w') (.slice q n' c') dU kb' ko' ∧ Chg NoB wb w') ?_ ?_
    · have hA := var2 HFb.out
      have hA2 := var2 HFd.out
      have hA3 := var2 HFz.out
      obtain ⟨a0, a1⟩ := hA
      obtain ⟨b0, b1⟩ := hA2
      obtain ⟨z0, z1⟩ := hA3
      go_region_held3 (fun w' => w'.cell? ⟨fb, 0, none⟩ = some (.string (tx f1)) ∧ w'.cell? ⟨fb, 1, none⟩ = some (.string (tx f2)))
        (first | with_reducible exact ⟨a0, a1⟩ | with_reducible exact ⟨b0, b1⟩ | with_reducible exact ⟨z0, z1⟩ | with_reducible exact hB | with_reducible exact hZ | with_reducible exact hC | with_reducible exact hE | go_keep)
        ((go_at_call 16; (first
          | (refine (HU.out wb.drew HD1.out).mono ?_; intro e w10 hp_; obtain ⟨hc10, qu, nu, cu, ku, iu, hnu, rfl, hsu⟩ := hp_.val; have hB := var2 (row_kept hc10 HFd.out id); have hZ := var2 (row_kept ((Chg.refl NoB w10).alloc (.cells #[.slice none 0 0] 26)) (row_kept hc10 HFd.out id) id); have hC := var2 (row_kept ((Chg.refl NoB w10).alloc (.cells #[.slice qu nu cu] 26)) (row_kept hc10 HFd.out id) id); have hE := hC; have Hc10 := Lib.hid ((Chg.refl NoB wb).drew.trans hc10); have Hnu := Lib.hid hnu; have Hsu := Lib.hid (hsu.mono (T := NewB wb w10) fun y hy => hy); clear hp_ hc10 hnu hsu)
          | (refine (HU.out _ HD2.out).mono ?_; intro e w10 hp_; obtain ⟨hc10, qu, nu, cu, ku, iu, hnu, rfl, hsu⟩ := hp_.val; have hB := var2 (row_kept hc10 HFz.out id); have hZ := hB; have hC := hB; have hbz := row_kept hc10 (show (wb.alloc (.cells #[.slice none 0 0] 26)).drew.heap[wb.heap.size]? = some (.cells #[.slice none 0 0] 26 (0, 0)) from heap_alloc_new wb _) id; have y0 := var1 hbz; have yf := row_free hbz; have hE := var2 (row_kept ((Chg.refl (fun y => y = wb.heap.size) w10).setCell (p := ⟨wb.heap.size, 0, none⟩) (.inl rfl) (.slice qu nu cu)) (row_kept hc10 HFz.out id) (fun e => by have := Hfb.out; have h : fb = wb.heap.size := e; omega)); have Hbz := Lib.hid hbz; have Hc10 := Lib.hid (((Chg.refl NoB wb).alloc (.cells #[.slice none 0 0] 26)).drew.trans hc10); have Hnu := Lib.hid hnu; have Hsu := Lib.hid hsu; clear hp_ hc10 hnu hsu hbz))))
      all_goals (first
        | exact ⟨rfl, _, _, _, _, _, _, _, _, _, _, _, _, rfl, w10.heap.size, qu, nu, cu, ku, iu, rfl, Hnu.out, heap_alloc_new _ _, Hc10.out.size, (Hsu.out.keep ((Chg.refl NoB w10).alloc _) fun _ _ => id).mono fun y hy => ⟨hy.1, by have h := hy.2; rw [aSize]; omega⟩, Hc10.out.alloc _⟩
        | exact ⟨rfl, _, _, _, _, _, _, _, _, _, _, _, _, rfl, wb.heap.size, qu, nu, cu, ku, iu, rfl, Hnu.out, heap_set Hbz.out (i := 0) _, Nat.le_refl _, (Hsu.out.keep ((Chg.refl (fun y => y = wb.heap.size) w10).setCell (p := ⟨wb.heap.size, 0, none⟩) (.inl rfl) _) fun y hy e => by have h1 := hy.1; have h2 : y = wb.heap.size := e; have h3 : (wb.alloc (.cells #[.slice none 0 0] 26)).drew.heap.size = wb.heap.size + 1 := aSize wb _; omega).mono fun y hy => ⟨by have h1 := hy.1; have h3 : (wb.alloc (.cells #[.slice none 0 0] 26)).drew.heap.size = wb.heap.size + 1 := aSize wb _; omega, by have h := hy.2; simpa [World.setCell] using h⟩, Hc10.out.setCell (p := ⟨wb.heap.size, 0, none⟩) (.inr (Nat.le_refl _)) _⟩)
    · rintro a' wc ⟨x44, x45, x46, x47, x48, x49, x50, x43, x51, x52, x9, x10, rfl, ub, qu, nu, cu, ku, iu, rfl, hnu, hUc, hubl, hsu, hcc⟩
    
      have HFc := Lib.hid (row_kept hcc HFb.out id)
      have HPc := Lib.hid (row_kept hcc HPb.out id)
      have HTc := Lib.hid (row_kept hcc HTb.out id)
      have HUc := Lib.hid hUc
      have HsT := Lib.hid (Hsa.out.keep (Hat.out.trans hcc) fun _ _ => id)
      have HsU := Lib.hid hsu
      have Hnu := Lib.hid hnu
      have Hcc := Lib.hid (Hcb.out.trans hcc)
      have Hgl := Lib.hid (show g < wb.heap.size by have := Hg.out.2; have := Hca.out.size; have := Hat.out.size; omega)
      have Hubl := Lib.hid hubl
      have HccS := Lib.hid hcc.size
      have Htbl := Lib.hid (show tb < wb.heap.size ∧ w9.heap.size ≤ tb by have := Hxt.out; have := Hzt.out; have := Hca.out.size; omega)
      clear hUc hsu hnu hcc hubl
      go_wp2_with fail
      refine (HV.out wc Hcc.out).mono ?_
      intro e wd hp_
      obtain ⟨hcd, qv, nv, cv, hnv, rfl, hov⟩ := hp_.val
      have HFd := Lib.hid (row_kept hcd HFc.out id)
      have HPd := Lib.hid (row_kept hcd HPc.out id)
      have HTd := Lib.hid (row_kept hcd HTc.out id)
      have HUd := Lib.hid (row_kept hcd HUc.out id)
      have Hcd := Lib.hid hcd
      have Hov := Lib.hid hov
      have Hnv := Lib.hid hnv
      have Huc := Lib.hid (lt_of_block HUc.out)
      clear hp_ hcd hov hnv
      have hal_ := (Chg.refl NoB wd).alloc (.cells #[.slice qv nv cv] 26)
      have hb_ := heap_alloc_new wd (.cells #[.slice qv nv cv] 26)
      obtain ⟨vb, hxb_⟩ : ∃ b, b = wd.heap.size := ⟨_, rfl⟩
      obtain ⟨we, hw_⟩ : ∃ w_, wd.alloc (.cells #[.slice qv nv cv] 26) = w_ := ⟨_, rfl⟩
      have hz_ : we.heap.size = vb + 1 := by rw [← hw_, hxb_]; exact alloc_size _ _
      rw [hw_] at hal_ hb_
      rw [← hxb_] at hb_
      have Hwv := Lib.hid hw_
      have Hxv := Lib.hid hxb_
      have Hav := Lib.hid hal_
      have Hbv := Lib.hid hb_
      have Hzv := Lib.hid hz_
      clear hal_ hb_ hxb_ hw_ hz_
      go_upto_region 10 with fail
      rw [Hwv.out, ← Hxv.out]
      have HFe := Lib.hid (row_kept Hav.out HFd.out id)
      have HPe := Lib.hid (row_kept Hav.out HPd.out id)
      have HTe := Lib.hid (row_kept Hav.out HTd.out id)
      have HUe := Lib.hid (row_kept Hav.out HUd.out id)
      have HVe := Lib.hid Hbv.out
      have Hove := Lib.hid (ownsRow_chg Hov.out Hav.out fun _ _ => id)
      have Hce := Lib.hid (Hcd.out.trans Hav.out)
      have Hc9e := Lib.hid (Hcc.out.trans Hce.out)
      have HcWe := Lib.hid (Hc9.out.trans Hc9e.out)
      have Hvbl := Lib.hid (show wc.heap.size ≤ vb ∧ vb < we.heap.size by have := Hxv.out; have := Hzv.out; have := Hcd.out.size; omega)
      obtain ⟨p0, p1⟩ := var2 HPe.out
      
      refine wp_cutP (fun a a' w' => ∃ x62 x63 x64 x65 x66 x67 x68 x69 x70 x71 x72, a' = (((((((((((a.put (some 62) x62).put (some 63) x63).put (some 64) x64).put (some 65) x65).put (some 66) x66).put (some 67) x67).put (some 68) x68).put (some 69) x69).put (some 70) x70).put (some 71) x71).put (some 72) x72) ∧ x72 = .bool false ∧ Chg NoB we w') ?_ ?_
      · have hdr0 := (Chg.refl NoB we).alloc (.cells #[] 33)
        have hE := own_none we
        have HE1 := Lib.hid (ownsRow_chg hE (Chg.refl NoB _).drew fun _ _ => id)
        have HE2 := Lib.hid (ownsRow_chg HE1.out ((Chg.refl NoB _).alloc (.cells #[.string ⟨#[115, 112, 97, 114, 101]⟩, .string ⟨#[114, 111, 111, 109]⟩] 33)) fun _ _ => id)
        have HN1 := Lib.hid ((Hs.out _ (HcWe.out.trans hdr0.drew)).news)
        have HN2 := Lib.hid ((Hs.out _ (HcWe.out.trans (hdr0.drew.alloc (.cells #[.string ⟨#[115, 112, 97, 114, 101]⟩, .string ⟨#[114, 111, 111, 109]⟩] 33)))).news)
        rw [← Hn.out] at HN1 HN2
        have HW3 := Lib.hid (show Chg NoB we ((we.alloc (.cells #[.string ⟨#[115, 112, 97, 114, 101]⟩, .string ⟨#[114, 111, 111, 109]⟩] 33)).alloc (.cells #[] 33)).drew from (((Chg.refl NoB we).alloc (.cells #[.string ⟨#[115, 112, 97, 114, 101]⟩, .string ⟨#[114, 111, 111, 109]⟩] 33)).alloc (.cells #[] 33)).drew)
        have HE3 : Hid (((we.alloc (.cells #[.string ⟨#[115, 112, 97, 114, 101]⟩, .string ⟨#[114, 111, 111, 109]⟩] 33)).alloc (.cells #[] 33)).drew.ownsRow we.heap.size 33 2 (.slice (some ⟨we.heap.size + 1, 0, none⟩) 0 0) 0 []) := Lib.hid (own_none1 we)
        have HN3 := Lib.hid ((Hs.out _ (HcWe.out.trans HW3.out)).news)
        rw [← Hn.out] at HN3
        have HW1 := Lib.hid (show Chg NoB we (we.alloc (.cells #[] 33)).drew from hdr0.drew)
        have HW2 := Lib.hid (show Chg NoB we ((we.alloc (.cells #[] 33)).drew.alloc (.cells #[.string ⟨#[115, 112, 97, 114, 101]⟩, .string ⟨#[114, 111, 111, 109]⟩] 33)) from hdr0.drew.alloc (.cells #[.string ⟨#[115, 112, 97, 114, 101]⟩, .string ⟨#[114, 111, 111, 109]⟩] 33))
        have M1 := Lib.hid (show 0 + n ≤ maxLen by unfold maxLen; omega)
        have M2 := Lib.hid (show (0 + n) * 32 ≤ 140737488355328 by omega)
        have M3 := Lib.hid (show n + 1 ≤ maxLen by unfold maxLen; omega)
        have M4 := Lib.hid (show (n + 1) * 32 ≤ 140737488355328 by omega)
        have Hfl := Lib.hid (show (flatP l).length = n * 2 by rw [flatP_len, ← Hn.out])
        have H1c := Lib.hid (show ∀ u ∈ flatP l, u.oneCell' = true from flatP_one l)
        have HA1 : Hid (∀ b wz, we.heap.size ≤ b → Chg NoB we wz → ∀ v8 w8, w8.ownsRow we.heap.size 33 2 v8 (0 + n) ([] ++ flatP l) → wz.grownBy w8 (Value.slice (some ⟨b, 0, none⟩) 0 0).ownBlock → w8.ownsRow we.heap.size 33 2 v8 n (flatP l) ∧ Chg NoB we w8 ∧ (∀ u, u ≠ b → ∀ o, wz.heap[u]? = some o → w8.heap[u]? = some o)) := Lib.hid fun b wz hb hz v8 w8 ho hg => by
          rw [Nat.zero_add, List.nil_append] at ho
          have hgc : Chg (fun j => (Value.slice (some ⟨b, 0, none⟩) 0 0).ownBlock = some j) wz w8 := (Chg.refl _ _).grown hg fun j hj => .inl hj
          exact ⟨ho, hz.grown hg fun j hj => .inr (by cases hj; exact hb), fun u hu o ho => row_kept hgc ho fun e => hu (by cases e; rfl)⟩
        have HA2 : Hid (∀ wz v8, wz.ownsRow we.heap.size 33 2 v8 n (flatP l) → Chg NoB we wz → ∀ v19 w19, w19.ownsRow we.heap.size 33 2 v19 (n + 1) (flatP l ++ [.string ⟨#[115, 112, 97, 114, 101]⟩, .string ⟨#[114, 111, 111, 109]⟩]) → wz.grownBy w19 v8.ownBlock → w19.ownsRow we.heap.size 33 2 v19 (n + 1) (flatP (l ++ [spareL])) ∧ Chg NoB we w19) := Lib.hid fun wz v8 ho hz v19 w19 ho9 hg =>
          ⟨by rw [flatP_app]; exact ho9, hz.grown hg fun j hj => .inr (World.ownsRow.lt ho j hj).1⟩
        have hp0 := hdr0.keep p0
        have hp1 := hdr0.keep p1
        have hp0d := hdr0.drew.keep p0
        have hp1d := hdr0.drew.keep p1
        have Hpb := Lib.hid (lt_of_block HPe.out)
        have HPB := Lib.hid HPe.out
        clear hdr0 hE
        go_region_held3 (fun w' => w'.cell? ⟨pb, 0, none⟩ = some (.string ⟨#[115, 112, 97, 114, 101]⟩) ∧ w'.cell? ⟨pb, 1, none⟩ = some (.string ⟨#[114, 111, 111, 109]⟩))
          (first | exact ⟨hp0d, hp1d⟩ | exact ⟨hp0, hp1⟩ | exact hpU | exact hpT | exact hpS | go_keep) (first
            | (refine step_append_inp (by rfl) _ (.tmp 64) (.tmp 65) 22 (by rfl) we.heap.size 33 i0 (.agg #[.string ⟨#[]⟩, .string ⟨#[]⟩]) 2 32 Tryz.underlying22 Hi.out Hz0.out Hzb1.out Hzb2.out rfl (by decide) (.slice (some ⟨we.heap.size, 0, none⟩) 0 0) 0 [] (by rfl) HE1.out q n c (flatP l) (by rfl) HN1.out Hfl.out H1c.out M1.out M2.out HW1.out.size ?_; intro v8 w8 hown8 hgr8; obtain ⟨ho8, hc8, hk8⟩ := HA1.out _ _ (Nat.le_refl _) HW1.out _ _ hown8 hgr8; have hpS := var2 (row_kept hc8 HPB.out id); have Ho8 := Lib.hid ho8; have Hc8 := Lib.hid hc8; have Hk8 := Lib.hid hk8; clear hown8 hgr8 ho8 hc8 hk8)
            | (refine step_append_inp (by rfl) _ (.tmp 64) (.tmp 65) 22 (by rfl) we.heap.size 33 i0 (.agg #[.string ⟨#[]⟩, .string ⟨#[]⟩]) 2 32 Tryz.underlying22 Hi.out Hz0.out Hzb1.out Hzb2.out rfl (by decide) (.slice (some ⟨we.heap.size, 0, none⟩) 0 0) 0 [] (by rfl) HE2.out q n c (flatP l) (by rfl) HN2.out Hfl.out H1c.out M1.out M2.out HW2.out.size ?_; intro v8 w8 hown8 hgr8; obtain ⟨ho8, hc8, hk8⟩ := HA1.out _ _ (by omega) HW2.out _ _ hown8 hgr8; have hpS := var2 (row_kept hc8 HPB.out id); have Ho8 := Lib.hid ho8; have Hc8 := Lib.hid hc8; have Hk8 := Lib.hid hk8; clear hown8 hgr8 ho8 hc8 hk8)
            | (refine step_append_inp (by rfl) _ (.tmp 64) (.tmp 65) 22 (by rfl) we.heap.size 33 i0 (.agg #[.string ⟨#[]⟩, .string ⟨#[]⟩]) 2 32 Tryz.underlying22 Hi.out Hz0.out Hzb1.out Hzb2.out rfl (by decide) (.slice (some ⟨we.heap.size + 1, 0, none⟩) 0 0) 0 [] (by rfl) HE3.out q n c (flatP l) (by rfl) HN3.out Hfl.out H1c.out M1.out M2.out HW3.out.size ?_; intro v8 w8 hown8 hgr8; obtain ⟨ho8, hc8, hk8⟩ := HA1.out _ _ (Nat.le_succ _) HW3.out _ _ hown8 hgr8; have hpS := var2 (row_kept hc8 HPB.out id); have Ho8 := Lib.hid ho8; have Hc8 := Lib.hid hc8; have Hk8 := Lib.hid hk8; clear hown8 hgr8 ho8 hc8 hk8)
            | (refine step_append_at (by rfl) _ (.tmp 66) (.tmp 68) 22 (by rfl) we.heap.size 33 i0 (.agg #[.string ⟨#[]⟩, .string ⟨#[]⟩]) 2 32 Tryz.underlying22 Hi.out Hz0.out Hzb1.out Hzb2.out rfl (by decide) _ n _ (by rfl) (ownsRow_chg Ho8.out ((Chg.refl NoB w8).alloc (.cells #[.string ⟨#[115, 112, 97, 114, 101]⟩, .string ⟨#[114, 111, 111, 109]⟩] 33)) fun _ _ => id) ⟨w8.heap.size, 0, none⟩ 1 1 [.string ⟨#[115, 112, 97, 114, 101]⟩, .string ⟨#[114, 111, 111, 109]⟩] (by rfl) rfl (lit2 w8 _ _ _) (one2 _ _) M3.out M4.out (Hc8.out.alloc (.cells #[.string ⟨#[115, 112, 97, 114, 101]⟩, .string ⟨#[114, 111, 111, 109]⟩] 33)).size ?_; intro v19 w19 hown9 hgr9 hpl9; obtain ⟨ho9, hc9⟩ := HA2.out _ _ (ownsRow_chg Ho8.out ((Chg.refl NoB w8).alloc (.cells #[.string ⟨#[115, 112, 97, 114, 101]⟩, .string ⟨#[114, 111, 111, 109]⟩] 33)) fun _ _ => id) (Hc8.out.alloc (.cells #[.string ⟨#[115, 112, 97, 114, 101]⟩, .string ⟨#[114, 111, 111, 109]⟩] 33)) _ _ hown9 hgr9; obtain ⟨qz, cz, ez, -, -⟩ := row_shape ho9; subst ez; have Ho19 := Lib.hid ho9; have Hc19 := Lib.hid hc9; have hpT := var2 (row_kept hc9 HPB.out id); clear hown9 hgr9 hpl9 ho9 hc9)
            | (refine step_append_at (by rfl) _ (.tmp 66) (.tmp 68) 22 (by rfl) we.heap.size 33 i0 (.agg #[.string ⟨#[]⟩, .string ⟨#[]⟩]) 2 32 Tryz.underlying22 Hi.out Hz0.out Hzb1.out Hzb2.out rfl (by decide) _ n _ (by rfl) Ho8.out ⟨we.heap.size + 1, 0, none⟩ 1 1 [.string ⟨#[115, 112, 97, 114, 101]⟩, .string ⟨#[114, 111, 111, 109]⟩] (by first | rfl | simp) rfl (lit_at (Hk8.out _ (by omega) _ (lit_row we))) (one2 _ _) M3.out M4.out Hc8.out.size ?_; intro v19 w19 hown9 hgr9 hpl9; obtain ⟨ho9, hc9⟩ := HA2.out _ _ Ho8.out Hc8.out _ _ hown9 hgr9; obtain ⟨qz, cz, ez, -, -⟩ := row_shape ho9; subst ez; have Ho19 := Lib.hid ho9; have Hc19 := Lib.hid hc9; have hpT := var2 (row_kept hc9 HPB.out id); clear hown9 hgr9 hpl9 ho9 hc9)
            | (refine step_append_at (by rfl) _ (.tmp 66) (.tmp 68) 22 (by rfl) we.heap.size 33 i0 (.agg #[.string ⟨#[]⟩, .string ⟨#[]⟩]) 2 32 Tryz.underlying22 Hi.out Hz0.out Hzb1.out Hzb2.out rfl (by decide) _ n _ (by rfl) Ho8.out ⟨we.heap.size, 0, none⟩ 1 1 [.string ⟨#[115, 112, 97, 114, 101]⟩, .string ⟨#[114, 111, 111, 109]⟩] (by first | rfl | simp) rfl (lit_at (Hk8.out _ (by omega) _ (lit_row3 we))) (one2 _ _) M3.out M4.out Hc8.out.size ?_; intro v19 w19 hown9 hgr9 hpl9; obtain ⟨ho9, hc9⟩ := HA2.out _ _ Ho8.out Hc8.out _ _ hown9 hgr9; obtain ⟨qz, cz, ez, -, -⟩ := row_shape ho9; subst ez; have Ho19 := Lib.hid ho9; have Hc19 := Lib.hid hc9; have hpT := var2 (row_kept hc9 HPB.out id); clear hown9 hgr9 hpl9 ho9 hc9)
            | (go_at_call 13; obtain ⟨nb2, hns2⟩ := InpS.of_row (show w19.ownsRow we.heap.size 33 2 (.slice qz (n + 1) cz) (l ++ [spareL]).length (flatP (l ++ [spareL])) from by rw [List.length_append, ← Hn.out]; exact Ho19.out); have hsm := rsame_any (l ++ [spareL]) (l ++ [spareL]) _ _ _ _ nb 0 nb2 0 w19 HLL.out HLL.out (Hfull.out w19 (Hc9e.out.trans Hc19.out)) hns2; simp only [decide_true] at hsm; refine hsm.mono ?_; rintro e w20 ⟨rfl, hc20⟩; have Hc20 := Lib.hid (Hc19.out.trans hc20); have hpU := var2 (row_kept Hc20.out HPB.out id); clear hc20 hsm hns2))
        all_goals exact ⟨rfl, _, _, _, _, _, _, _, _, _, _, _, rfl, rfl, Hc20.out⟩
      · rintro a' wf ⟨x62, x63, x64, x65, x66, x67, x68, x69, x70, x71, x72, rfl, rfl, hcf⟩
        have HFf := Lib.hid (row_kept hcf HFe.out id)
        have HTf := Lib.hid (row_kept hcf HTe.out id)
        have HUf := Lib.hid (row_kept hcf HUe.out id)
        have HVf := Lib.hid (row_kept hcf HVe.out id)
        have Hovf := Lib.hid (ownsRow_chg Hove.out hcf fun _ _ => id)
        have Ho9f := Lib.hid (ownsRow_chg Ho9.out (Hc9e.out.trans hcf) fun _ _ => id)
        have Hcf := Lib.hid (Hce.out.trans hcf)
        have HcWf := Lib.hid (HcWe.out.trans hcf)
        have Hfsz := Lib.hid (show we.heap.size ≤ wf.heap.size from hcf.size)
        clear hcf p0 p1
        go_simp
        go_wp2_with fail
        go_loopw [75] (fun i wr => ∃ (k : Nat) (ys : List FileL), k ≤ m ∧ i = .int .i64 k ∧ ys.length = m ∧ wr.ownsRow w7.heap.size 33 2 (.slice (some ⟨g, 0, none⟩) m c9) m (flatP ys) ∧ Chg (fun y => y = g) wf wr) (fun i _ => m - (intOf i).toNat)
        case atStart => exact ⟨0, _, Nat.zero_le _, rfl, by rw [List.length_append, ← Hn.out, Hm.out]; rfl, Ho9f.out, Chg.refl _ _⟩
        case round =>
          obtain ⟨k, ys, hk, rfl, hyl, hrow, hch⟩ := hrel
          have Hrow := Lib.hid hrow
          have Hch := Lib.hid hch
          have Hyl := Lib.hid hyl
          clear hrow hch hyl
          by_cases hlt : k < m
          · obtain ⟨c0, c1⟩ := own_cells Hrow.out k (by rw [Hyl.out]; exact hlt)
            generalize ys[k]'(by rw [Hyl.out]; exact hlt) = y at c0 c1
            have fr := own_free Hrow.out
            have hki : (k : Int) < (m : Int) := by omega
            have hset := row_set Hrow.out hlt ([], [])
            have hsc := set_chg (w := wr) (g := g) (i := k) (.string ⟨#[]⟩) (.string ⟨#[]⟩)
            have Hset := Lib.hid (show ((wr.setCell ⟨g, k * 2, none⟩ (.string ⟨#[]⟩)).setCell ⟨g, k * 2 + 1, none⟩ (.string ⟨#[]⟩)).ownsRow w7.heap.size 33 2 (.slice (some ⟨g, 0, none⟩) m c9) m (flatP (ys.set k ([], []))) from hset)
            have Hsc := Lib.hid hsc
            clear hset hsc
            go_wp2_with fail
            go_roundw
            case rel => exact ⟨k + 1, ys.set k ([], []), by omega, by go_num, by rw [List.length_set]; exact Hyl.out, Hset.out, Hch.out.trans Hsc.out⟩
            case measure => simp [intOf]; omega
          · obtain rfl : k = m := by omega
            have HFh := Lib.hid (row_kept Hch.out HFf.out (by have := Hg.out; intro e; have e2 : fb = g := e; have := HFlo.out; omega))
            have HTh := Lib.hid (row_kept Hch.out HTf.out (by have := Htbl.out; have := Hg.out; intro e; have e2 : tb = g := e; omega))
            have HUh := Lib.hid (row_kept Hch.out HUf.out (by have := Hubl.out; have := Hgl.out; intro e; have e2 : ub = g := e; omega))
            have hvg : wb.heap.size ≤ wc.heap.size := HccS.out
            have HVh := Lib.hid (row_kept Hch.out HVf.out (by have := Hvbl.out; have := Hgl.out; intro e; have e2 : vb = g := e; omega))
            have Hovh := Lib.hid (ownsRow_chg Hovf.out Hch.out fun j hj e => by have h1 := (World.ownsRow.lt Hovf.out j hj).1; have e2 : j = g := e; have := Hgl.out; omega)
            have Hch' := Lib.hid ((Hcf.out.mono (T := fun y => y = g) fun _ _ => False.elim).trans Hch.out)
            have HcWh := Lib.hid (HcWf.out.above Hch.out fun y hy => by have h : y = g := hy; have := Hg.out; have := Hlo.out; omega)
            have v0 := var1 HVh.out
            clear hlt hvg
            obtain ⟨wh, rfl⟩ : ∃ w, w = wr := ⟨_, rfl⟩
            go_wp2_with fail
            clear v0
            go_loopw [86] (fun i wr => ∃ (k2 : Nat) (ys : List FileL), k2 ≤ nv ∧ i = .int .i64 k2 ∧ ys.length = nv ∧ wr.ownsRow wc.heap.size 33 2 (.slice qv nv cv) nv (flatP ys) ∧ Chg (fun y => (Value.slice qv nv cv).ownBlock = some y) wh wr) (fun i _ => nv - (intOf i).toNat)
            case atStart => exact ⟨0, _, Nat.zero_le _, rfl, Hnv.out.symm, Hovh.out, Chg.refl _ _⟩
            case round =>
              obtain ⟨k2, ys2, hk2, rfl, hyl2, hrow2, hch2⟩ := hrel
              have Hrow2 := Lib.hid hrow2
              have Hch2 := Lib.hid hch2
              have Hyl2 := Lib.hid hyl2
              have Hbk := Lib.hid (fun j (hj : (Value.slice qv nv cv).ownBlock = some j) => (World.ownsRow.lt hrow2 j hj).1)
              have Hwc7 := Lib.hid (show w7.heap.size ≤ g ∧ g < wb.heap.size ∧ wb.heap.size ≤ wc.heap.size from ⟨Hg.out.1, Hgl.out, HccS.out⟩)
              have hnvb : nv ≤ 9223372036854775807 := by obtain ⟨_, _, ez, h1, h2⟩ := row_shape Hov.out; cases ez; unfold maxLen at h2; omega
              clear hrow2 hch2 hyl2
              by_cases hlt : k2 < nv
              · obtain ⟨gv, rfl⟩ := own_addr Hrow2.out (by omega)
                obtain ⟨c0, c1⟩ := own_cells Hrow2.out k2 (by rw [Hyl2.out]; exact hlt)
                generalize ys2[k2]'(by rw [Hyl2.out]; exact hlt) = y at c0 c1
                have fr := own_free Hrow2.out
                have hki : (k2 : Int) < (nv : Int) := by omega
                have Hvb := Lib.hid (row_kept Hch2.out HVh.out (by rintro e; cases e; have h1 := (World.ownsRow.lt Hovh.out _ rfl).2; have h2 := (World.ownsRow.lt Hov.out _ rfl).2; have := Hxv.out; omega))
                have v0 := var1 Hvb.out
                have hset := row_set Hrow2.out hlt ([], [])
                have hsc := set_chg (w := wr) (g := gv) (i := k2) (.string ⟨#[]⟩) (.string ⟨#[]⟩)
                have Hset := Lib.hid (show ((wr.setCell ⟨gv, k2 * 2, none⟩ (.string ⟨#[]⟩)).setCell ⟨gv, k2 * 2 + 1, none⟩ (.string ⟨#[]⟩)).ownsRow wc.heap.size 33 2 (.slice (some ⟨gv, 0, none⟩) nv cv) nv (flatP (ys2.set k2 ([], []))) from hset)
                have Hsc := Lib.hid (hsc.mono (T := fun y => (Value.slice (some ⟨gv, 0, none⟩) nv cv).ownBlock = some y) fun y _ e => by have h : y = gv := e; subst h; rfl)
                clear hset hsc
                go_wp2_with fail
                go_roundw
                case rel => exact ⟨k2 + 1, ys2.set k2 ([], []), by omega, by go_num, by rw [List.length_set]; exact Hyl2.out, Hset.out, Hch2.out.trans Hsc.out⟩
                case measure => simp [intOf]; omega
              · obtain rfl : k2 = nv := by omega
                have HFi := Lib.hid (row_kept Hch2.out HFh.out (fun e => by have h1 := Hbk.out _ e; have := HFlo.out; have := Hwc7.out; omega))
                have HTi := Lib.hid (row_kept Hch2.out HTh.out (fun e => by have h1 := Hbk.out _ e; have := Htbl.out; have := Hwc7.out; omega))
                have HUi := Lib.hid (row_kept Hch2.out HUh.out (fun e => by have h1 := Hbk.out _ e; have := Huc.out; omega))
                have Hfin := Lib.hid (Hch'.out.over Hch2.out (fun j hj => Hbk.out j hj))
                have HcWi := Lib.hid (HcWh.out.above Hch2.out (fun j hj => by have h1 := Hbk.out j hj; have := Hwc7.out; have := Hlo.out; omega))
                have HsTi := Lib.hid (HsT.out.keep Hfin.out fun y hy e => by have h1 : w9.heap.size ≤ y := hy.1; have h2 : y = g := e; have := Hg.out; omega)
                have HsUi := Lib.hid (HsU.out.keep Hfin.out fun y hy e => by have h1 : wb.heap.size ≤ y := hy.1; have h2 : y = g := e; have := Hwc7.out; omega)
                clear hlt
                go_wp2_with fail
                refine (HRm.out wr HcWi.out).mono ?_
                intro e wj hp_
                obtain ⟨hcj, qj, nj, cj, kj, ij, hnj, rfl, hsj⟩ := hp_.val
                have HFj := Lib.hid (row_kept hcj HFi.out id)
                have HTj := Lib.hid (row_kept hcj HTi.out id)
                have HUj := Lib.hid (row_kept hcj HUi.out id)
                have Hcj := Lib.hid hcj
                have Hsj := Lib.hid hsj
                clear hp_ hcj hnj hsj
                have hal_ := (Chg.refl NoB wj).alloc (.cells #[.slice qj nj cj] 26)
                have hb_ := heap_alloc_new wj (.cells #[.slice qj nj cj] 26)
                obtain ⟨xb, hxb_⟩ : ∃ b, b = wj.heap.size := ⟨_, rfl⟩
                obtain ⟨wl, hw_⟩ : ∃ w_, wj.alloc (.cells #[.slice qj nj cj] 26) = w_ := ⟨_, rfl⟩
                have hz_ : wl.heap.size = xb + 1 := by rw [← hw_, hxb_]; exact alloc_size _ _
                rw [hw_] at hal_ hb_
                rw [← hxb_] at hb_
                have Hwx := Lib.hid hw_
                have Hxx := Lib.hid hxb_
                have Hax := Lib.hid hal_
                have Hbx := Lib.hid hb_
                have Hzx := Lib.hid hz_
                clear hal_ hb_ hxb_ hw_ hz_
                go_upto_region 23 with fail
                rw [Hwx.out, ← Hxx.out]
                have HFl := Lib.hid (row_kept Hax.out HFj.out id)
                have HTl := Lib.hid (row_kept Hax.out HTj.out id)
                have HUl := Lib.hid (row_kept Hax.out HUj.out id)
                have Hcl := Lib.hid (Hcj.out.trans Hax.out)
                have HcWl := Lib.hid (HcWi.out.trans Hcl.out)
                obtain ⟨f0, f0'⟩ := var2 HFl.out
                go_wp2_with fail
                refine (HRp.out wl HcWl.out).mono ?_
                intro e wn hp_
                obtain ⟨hcn, qn, nn, cn, kn, ikn, hnn, rfl, hsn⟩ := hp_.val
                have HTn := Lib.hid (row_kept hcn HTl.out id)
                have HUn := Lib.hid (row_kept hcn HUl.out id)
                have HXn := Lib.hid (row_kept hcn Hbx.out id)
                have Hcn := Lib.hid (Hcl.out.trans hcn)
                have Hcn' := Lib.hid (Hax.out.trans hcn)
                have Hsn := Lib.hid hsn
                clear hp_ hcn hnn hsn f0 f0'
                have hal_ := (Chg.refl NoB wn).alloc (.cells #[.slice qn nn cn] 26)
                have hb_ := heap_alloc_new wn (.cells #[.slice qn nn cn] 26)
                obtain ⟨yb, hxb_⟩ : ∃ b, b = wn.heap.size := ⟨_, rfl⟩
                obtain ⟨wo, hw_⟩ : ∃ w_, wn.alloc (.cells #[.slice qn nn cn] 26) = w_ := ⟨_, rfl⟩
                have hz_ : wo.heap.size = yb + 1 := by rw [← hw_, hxb_]; exact alloc_size _ _
                rw [hw_] at hal_ hb_
                rw [← hxb_] at hb_
                have Hwy := Lib.hid hw_
                have Hxy := Lib.hid hxb_
                have Hay := Lib.hid hal_
                have Hby := Lib.hid hb_
                have Hzy := Lib.hid hz_
                clear hal_ hb_ hxb_ hw_ hz_
                go_upto_region 24 with fail
                rw [Hwy.out, ← Hxy.out]
                have HcE := Lib.hid (Hcn.out.trans Hay.out)
                have HcWE := Lib.hid (HcWi.out.trans HcE.out)
                have t0 := var1 (row_kept Hay.out HTn.out id)
                have x0 := var1 (row_kept Hay.out HXn.out id)
                have HU2 := Lib.hid (row_kept Hay.out HUn.out id)
                have HY2 := Lib.hid Hby.out
                have HSm1 := Lib.hid (rsame_any _ _ _ _ _ _ _ _ _ _ wo HlT.out HlT.out (HsTi.out.keep HcE.out fun _ _ => id) (Hsj.out.keep (Hcn'.out.trans Hay.out) fun _ _ => id))
                simp only [decide_true] at HSm1
                go_wp2_with fail
                refine HSm1.out.mono ?_
                rintro e wp ⟨rfl, hcp⟩
                have u0 := var1 (row_kept hcp HU2.out id)
                have y0 := var1 (row_kept hcp HY2.out id)
                have HSm2 := Lib.hid (rsame_any _ _ _ _ _ _ _ _ _ _ wp HlU.out HlU.out (HsUi.out.keep (HcE.out.trans hcp) fun _ _ => id) (Hsn.out.keep (Hay.out.trans hcp) fun _ _ => id))
                simp only [decide_true] at HSm2
                have HcWp := Lib.hid (HcWE.out.trans hcp)
                clear t0 x0 hcp HSm1
                go_wp2_with fail
                refine HSm2.out.mono ?_
                rintro e wz ⟨rfl, hcz⟩
                have HcWz := Lib.hid (HcWp.out.trans hcz)
                clear u0 y0 hcz HSm2
                go_wp2_with fail
                go_ret
                exact ⟨rfl, HcWz.out⟩
  
/-FRAME-/
set_option maxRecDepth 100000 in
theorem treeKeeps_lifted (os : Os) (started : os.Started) (H : Type) (enc : TypeId × Value → H) :
    ReturnsInHanded {} Tryz.checked os 8 .any (fun w args => (Rows.treeKeepsSpec.pre enc Tryz.prog Tryz.f8 [] false w args ∧ laidMetH Tryz.prog Rows.treeKeepsRow.laid w) ∧ sizedMet enc Tryz.prog Tryz.f8 (OpenSpec.ofChange Rows.treeKeepsSpec) false w args)
      (Rows.treeKeepsSpec.post enc Tryz.prog Tryz.f8 false true false false) := by
  refine returns_both (C := Tryz.checked) (X := fun w _ => laidMetH Tryz.prog Rows.treeKeepsRow.laid w) (fun _ _ _ hh h => h.of_heap hh) Tryz.own started (by kernel_rfl) Tryz.func8
    (ChangeSpec.witness_shaped (enc := enc) (C := Tryz.checked) (os := os) (X := fun w _ => laidMetH Tryz.prog Rows.treeKeepsRow.laid w) false (World.laidAll Tryz.prog os Rows.treeKeepsRow.laid) #[.slice none 0 0, .agg #[.string ByteArray.empty, .string ByteArray.empty]] 8 (World.laidAll_os _ _ _)
      (World.shaped_of_ZipB (by kernel_rfl) (by kernel_rfl)) (by kernel_rfl) (by kernel_rfl) (by kernel_rfl)
      (by rw [MakeChecks.laidMetH_plain _ _ _ (by kernel_rfl)]; exact laidMet_laidAll _ (by kernel_rfl) (by kernel_rfl))) ?_
  intro W base args ds gs before hval0 hW _ hsz hL hsh _
  have hval : ∀ (j : Nat) t v, Tryz.f8.params[j]? = some t → args[j]? = some v → Value.okWide Tryz.prog W .any base t v := hval0
  have hW' := hW
  obtain ⟨p, q, hA0, hV, rfl, _, _⟩ := hW
  have hA : DataW.TrodAll enc Tryz.prog W 0 (fun _ => true) true Tryz.f8.params.toList args.toList ds p := hA0
  have hsz1 : (DataW.weightsEach Tryz.prog (Tryz.f8.params.toList ++ Rows.treeKeepsSpec.plain.varTypes Tryz.prog) (ds ++ gs)).all (· ≤ reachBytes) = true := hsz
  rw [Tryz.params8] at hA hval hsz1
  obtain ⟨v0, v1, d0, d1, p0, p1, rfl, rfl, rfl, h0, h1⟩ := trodAll_two hA
  obtain ⟨rfl, rfl⟩ := trodVars_none hV
  obtain ⟨l0, kb0, ko0, hn0, hr0⟩ := open_files (hval 0 22 v0 rfl rfl) h0 (fun m hm => of_decide_eq_true (List.all_eq_true.1 hsz1 m (DataW.weights_mem_each (j := 0) (t := 22) (d := d0) rfl rfl m hm)))
  obtain ⟨f1, rfl, hr1⟩ := open_file (hval 1 33 v1 rfl rfl) h1 (fun m hm => of_decide_eq_true (List.all_eq_true.1 hsz1 m (DataW.weights_mem_each (j := 1) (t := 33) (d := d1) rfl rfl m hm)))
  simp only [List.append_nil] at hW'
  rw [MakeChecks.laidMetH_plain _ _ _ (by kernel_rfl)] at hL
  have hL' : laidMet Tryz.prog [("math/bits.deBruijn32tab", Rows.laid_math_bits_deBruijn32tab), ("math/bits.deBruijn64tab", Rows.laid_math_bits_deBruijn64tab), ("internal/strconv.uint64pow10", Rows.laid_internal_strconv_uint64pow10), ("unicode/utf8.acceptRanges", Rows.laid_unicode_utf8_acceptRanges), ("unicode/utf8.first", Rows.laid_unicode_utf8_first)] W := hL
  have hlb : Lw W.heap.size W := lw_of hL' (.tail _ (.tail _ (.head _)))
  have hml : Pth.Ml W := wml_of hsh
  clear hA0 hval0
  refine (treeKeeps_all l0 _ kb0 ko0 f1 W hn0 hr0 hr1 hlb hml).mono fun e W' ⟨he, hb⟩ => ?_
  subst he
  exact ⟨_, rfl, _, _, _, [], _, [], hW', trodAll_mk1 (shut_bool Tryz.underlying4 _), (trodAll_cons_mk (files_stay h0 hb.below) (trodAll_cons_mk (file_stays h1 hb.below) trodAll_mk0)), rfl, hb.below.frame _, fun h => by cases h⟩
theorem treeKeeps_holds : Rows.TreeKeepsSaid :=
  OpenClaim.holds_of_wide 8 Tryz.f8 rfl rfl rfl rfl rfl rfl rfl ⟨rfl, rfl, rfl, rfl, rfl⟩ rfl rfl rfl rfl rfl (by kernel_rfl) Tryz.func8 (by kernel_rfl)
    (of_decide_eq_true (by kernel_rfl)) (by unfold Func.isWrapper; first | (rw [if_pos (by decide +kernel)]; kernel_rfl) | (rw [if_neg (by decide +kernel)]; exact ⟨rfl, rfl⟩))
    (fun os started H enc _ => treeKeeps_lifted os started H enc)
theorem treeKeeps_card : Rows.TreeKeepsCardSaid :=
  Claim7.holds_tied_plain_at .later [] [.data, .data, .data, .data, .pinned] true (true, "ae40126c67c6ca9ad63bc136dd30ebf461b3d4ff067546d356e722ee9505be06") true treeKeeps_holds (fun _ h => by cases h) (by kernel_rfl) (fun _ h => by cases h) treeKeeps_row_tie rfl ⟨rfl, rfl⟩ (by kernel_rfl) rfl
    (fun f fn hf hfn => by
      obtain rfl : f = 8 := Option.some.inj ((show Tryz.prog.funcNamed "sapling/saplinglaw05.TreeKeeps" = some 8 by kernel_rfl).symm.trans hf) |>.symm
      obtain rfl : fn = Tryz.f8 := (Option.some.inj (Tryz.func8.symm.trans hfn)).symm
      exact ⟨by kernel_rfl, fun j t ht => by
        rw [Tryz.params8] at ht
        have hm : t ∈ [22, 33] := by simpa using Array.mem_of_getElem? ht
        have hall : ([22, 33].all fun u => !Tryz.prog.wantsStandIn u) = true := by kernel_rfl
        exact (show Tryz.prog.wantsStandIn t = false by simpa using List.all_eq_true.1 hall t hm)⟩)
    (by kernel_rfl)
#print axioms treeKeeps_card
end Go.Proofs.YtilkcjcmcnlfnaaGreatDoor
