/- An append onto a new slice; stores into a slice of the call's own. Condition: the bytes are at most 2^20. -/
import Derived.Test.YtpjnbcecbppeoaaWalkF
namespace Go.Proofs.Ytpjnbcecbppeoaa
set_option linter.unusedVariables false
open Go.ChangeShapes Go.WideShapes Go.ChangeAt Go.RowKit
theorem append_new {ops : Array Oper} {rest : List Oper} {o : Oper} {a : Act} {Q : Exit → Act → World → Prop} (hgd : o.guard = none) (s x : Operand)
    (ho : o.op = .call { callee := .builtin .append, args := #[s, x], argTypes := #[22, 22] }) (w0 : World) (hs : a.eval s = .slice (some ⟨w0.heap.size, 0, none⟩) 0 0)
    (u : Value) (hx : a.eval x = u) (ys : List UInt8) (hsrc : Src w0 u ys) (hl : ys.length ≤ 1048576)
    (h : ∀ g cap w', Own w' w0.heap.size (.slice (some ⟨g, 0, none⟩) ys.length cap) ys → Chg NoB w0 w' → wpList Try.prog ops Q rest (a.put o.dst (.slice (some ⟨g, 0, none⟩) ys.length cap)) w') :
    wpList Try.prog ops Q (o :: rest) a (w0.alloc (.cells #[] 5)) := by
  obtain ⟨i0, hi, hz0, hz1, hz2⟩ := info_parts info5
  have hown : (w0.alloc (.cells #[] 5)).ownsRow w0.heap.size 5 1 (.slice (some ⟨w0.heap.size, 0, none⟩) 0 0) 0 [] := World.ownsRow_lit w0 #[] 0 (Nat.le_refl _) (by decide) rfl
  have hal : Chg NoB w0 (w0.alloc (.cells #[] 5)) := (Chg.refl NoB w0).alloc _
  rcases hsrc with ⟨rfl, rfl⟩ | ⟨ad, c, rfl, q1, q2, q3⟩
  · refine wpList_append_own_none hgd s x 22 ho w0.heap.size 5 i0 1 Try.underlying22 hi _ 0 [] hs hown hx ?_
    exact h w0.heap.size 0 _ hown hal
  · refine wpList_append_own _ hgd s x 22 ho w0.heap.size 5 i0 (.int .u8 0) 1 1 Try.underlying22 hi hz0 hz1 hz2 rfl (by decide) _ 0 [] hs hown ad ys.length c (bytesV ys) hx (by rw [bytesV_len]; omega) (fun j u hj => ?_) (bytesV_one ys) (by unfold maxLen; omega) (by omega) hal.size ?_
    · obtain ⟨hj', rfl⟩ := bytesV_at ys j u hj
      exact hal.keep (q3 j hj')
    · intro v' w' hown' hgr hnil
      rw [Nat.zero_add, List.nil_append] at hown'
      have hc : Chg NoB w0 w' := hal.grown hgr (by intro k hk; simp [Value.ownBlock] at hk; right; omega)
      rcases hown'.2 with ⟨x, hz⟩ | ⟨g, cp, cur, x, r⟩
      · have := (hnil.1 x).1
        simp at this
      · subst x
        exact h g cp w' hown' hc
/- a slice of the call's own at block g, and what changed: block g alone -/
def Mine (g cap n : Nat) (w0 w : World) : Prop := ∃ zs : List UInt8, zs.length = n ∧ Own w 0 (.slice (some ⟨g, 0, none⟩) n cap) zs ∧ Chg (fun k => k = g) w0 w
theorem Mine.cell {g cap n : Nat} {w0 w : World} (h : Mine g cap n w0 w) (k : Nat) (hk : k < n) : ∃ c : UInt8, w.cell? ⟨g, k, none⟩ = some (.int .u8 (c.toNat : Int)) ∧ w.frozen? ⟨g, k, none⟩ = false := by
  obtain ⟨zs, hl, ho, hc⟩ := h
  have hk' : k < zs.length := by omega
  refine ⟨zs[k], ?_, ?_⟩
  · have := World.ownsRow.cells ho (g := g) rfl k (.int .u8 (zs[k].toNat : Int)) (by simp [bytesV, List.getElem?_eq_getElem hk'])
    have e : (⟨g, 0, none⟩ : Addr).add k = ⟨g, k, none⟩ := by simp [Addr.add]; omega
    rwa [e] at this
  · unfold Own at ho
    rcases ho.2 with ⟨x, _⟩ | ⟨g', c', cur, x, hb, hh, r⟩
    · simp at x
    · simp only [Value.slice.injEq, Option.some.injEq, Addr.mk.injEq, and_true] at x
      obtain ⟨rfl, _, rfl⟩ := x
      exact fz hh k
theorem Mine.store {g cap n : Nat} {w0 w : World} (h : Mine g cap n w0 w) (k : Nat) (c : UInt8) (x : Int) (hx : x = (c.toNat : Int)) : Mine g cap n w0 (w.setCell ⟨g, k, none⟩ (.int .u8 x)) := by
  subst hx
  obtain ⟨zs, hl, ho, hc⟩ := h
  refine ⟨zs.set k c, by simpa using hl, ?_, hc.setCell (.inl rfl) _⟩
  subst hl
  have := (World.ownsRow.stored ho k (.int .u8 (c.toNat : Int))).1
  have e : bytesV (zs.set k c) = (bytesV zs).set k (.int .u8 (c.toNat : Int)) := by simp [bytesV, List.map_set]
  have l : (zs.set k c).length = zs.length := by simp
  unfold Own
  rw [e, l]
  exact this
theorem succ_u8 (c : UInt8) : IntKind.u8.wrap ((c.toNat : Int) + 1) = (((c + 1).toNat : Nat) : Int) := by
  have := c.toNat_lt
  rw [IntKind.wrap_u8', UInt8.toNat_add]
  simp
theorem Own.mine {w : World} {base g cap n : Nat} {zs : List UInt8} (h : Own w base (.slice (some ⟨g, 0, none⟩) n cap) zs) (hl : zs.length = n) : Mine g cap n w w := ⟨zs, hl, own_base0 h, Chg.refl _ _⟩
structure K (W w : World) (b b2 : Nat) (R R2 : Nat → Prop) (s s2 : RS) : Prop where
  chg : Chg NoB W w
  r1 : Rb w b R s
  r2 : Rb w b2 R2 s2
theorem K.set {W w w' : World} {b b2 g : Nat} {R R2 : Nat → Prop} {s s2 : RS} (h : K W w b b2 R R2 s s2) (hW : W.heap.size ≤ g) (h1 : ∀ k, R k → k ≠ g) (h2 : ∀ k, R2 k → k ≠ g) (hc : Chg (fun k => k = g) w w') : K W w' b b2 R R2 s s2 :=
  ⟨Chg.above h.chg hc fun k hk => by rw [hk]; exact hW, h.r1.chg hc h1, h.r2.chg hc h2⟩
theorem K.keep {W w w' : World} {b b2 : Nat} {R R2 : Nat → Prop} {s s2 : RS} (h : K W w b b2 R R2 s s2) (hc : Chg NoB w w') : K W w' b b2 R R2 s s2 :=
  ⟨h.chg.trans hc, h.r1.keep hc, h.r2.keep hc⟩
structure After6 (W w6 : World) (g1 c1 g2 c2 b b2 : Nat) (R R2 : Nat → Prop) (s s2 : RS) (xs ys : List UInt8) : Prop where
  k : K W w6 b b2 R R2 s s2
  o1 : Own w6 0 (.slice (some ⟨g1, 0, none⟩) xs.length c1) xs
  o2 : Own w6 0 (.slice (some ⟨g2, 0, none⟩) ys.length c2) ys
  ne : g2 ≠ g1
  l1 : W.heap.size ≤ g1
  l2 : W.heap.size ≤ g2
  a1 : ∀ k, R k → k ≠ g1 ∧ k ≠ g2 ∧ k < w6.heap.size
  a2 : ∀ k, R2 k → k ≠ g1 ∧ k ≠ g2 ∧ k < w6.heap.size
theorem keeps_after {W w1 w2 w3 w4 w5 w6 : World} {g1 c1 g2 c2 b b2 : Nat} {R R' R2 : Nat → Prop} {s s2 : RS} {xs ys : List UInt8}
    (hc1 : Chg NoB W w1) (hc3 : Chg NoB W w3) (hs12 : w1.heap.size ≤ w2.heap.size) (o1 : Own w2 w1.heap.size (.slice (some ⟨g1, 0, none⟩) xs.length c1) xs) (o1' : Own w3 w1.heap.size (.slice (some ⟨g1, 0, none⟩) xs.length c1) xs)
    (o2 : Own w3 w2.heap.size (.slice (some ⟨g2, 0, none⟩) ys.length c2) ys) (hc4 : Chg NoB w3 w4) (hR : ∀ k, R k → w3.heap.size ≤ k ∧ k < w4.heap.size) (hc5 : Chg NoB w4 w5)
    (hR2 : ∀ k, R2 k → w4.heap.size ≤ k ∧ k < w5.heap.size) (r2 : Rb w5 b2 R2 s2) (r1 : Rb w6 b R' s) (hw : Went R R' w5 w6) : After6 W w6 g1 c1 g2 c2 b b2 R' R2 s s2 xs ys := by
  have l1 := o1.lt g1 rfl
  have l2 := o2.lt g2 rfl
  have z1 := hc1.size
  have z4 := hc4.size
  have z5 := hc5.size
  have z6 := hw.chg.size
  have l1' := o1'.lt g1 rfl
  have c5 : Chg NoB w3 w5 := hc4.trans hc5
  refine ⟨⟨Chg.above (hc3.trans c5) hw.chg fun k hk => ?_, r1, r2.chg hw.chg fun k hk hk' => ?_⟩, ?_, ?_, ?_, ?_, ?_, ?_, ?_⟩
  · have := (hR k hk).1; have := hc3.size; omega
  · have := (hR2 k hk).1; have := (hR k hk').2; omega
  · refine (o1'.base0.chg c5 fun _ _ => id).chg hw.chg fun k hk hk' => ?_
    simp only [Value.ownBlock, Option.some.injEq] at hk
    have := (hR k hk').1; omega
  · refine (o2.base0.chg c5 fun _ _ => id).chg hw.chg fun k hk hk' => ?_
    simp only [Value.ownBlock, Option.some.injEq] at hk
    have := (hR k hk').1; omega
  · omega
  · omega
  · omega
  · intro k hk
    rcases hw.ext k hk with x | x
    · have := hR k x; exact ⟨by omega, by omega, by omega⟩
    · exact ⟨by omega, by omega, by omega⟩
  · intro k hk
    have := hR2 k hk
    exact ⟨by omega, by omega, by omega⟩
theorem keep_read (b : Nat) (R : Nat → Prop) (s : RS) (xs : List UInt8) (w : World) (h : Rb w b R s) (hx : s.xs = xs) (hd : s.down = false) :
    Calls Try.prog 22 #[.pointer (some ⟨b, 0, none⟩)] w (ReadP w xs) := by
  subst hx
  exact (read_up b R s w h hd).mono fun e w' hq => by
    obtain ⟨v, h1, h2, h3⟩ := hq
    rw [hd] at h2
    have hc : s.code = 0 := code_up hd
    rw [hc] at h1
    exact ⟨v, h1, h2, h3⟩
theorem gx_far {W w6 w8 : World} {g1 c1 g2 c2 b b2 gx : Nat} {R R2 : Nat → Prop} {s s2 : RS} {xs ys : List UInt8} (p : After6 W w6 g1 c1 g2 c2 b b2 R R2 s s2 xs ys) (h68 : w6.heap.size ≤ w8.heap.size) (hb : w8.heap.size ≤ gx) (h8 : W.heap.size ≤ w8.heap.size) :
    (∀ k, R k → k ≠ gx) ∧ (∀ k, R2 k → k ≠ gx) ∧ W.heap.size ≤ gx :=
  ⟨fun k hk => by have := (p.a1 k hk).2.2; omega, fun k hk => by have := (p.a2 k hk).2.2; omega, by omega⟩
theorem cat_size (xs ys : List UInt8) : (ByteArray.mk xs.toArray ++ ByteArray.mk ys.toArray).size = xs.length + ys.length := by
  rw [text_cat, text_size, List.length_append]
end Go.Proofs.Ytpjnbcecbppeoaa
