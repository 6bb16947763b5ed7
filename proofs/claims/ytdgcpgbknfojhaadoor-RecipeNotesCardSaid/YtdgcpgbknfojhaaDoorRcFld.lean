/- Fields in memory: in cells, in a row that is appended to; a recipe by value. No condition. -/
import Derived.Test.YtdgcpgbknfojhaaDoorRcExpr

namespace Go.Proofs.YtdgcpgbknfojhaaDoor
set_option linter.unusedVariables false
open Go.ChangeShapes Go.WideShapes Go.ChangeAt Go.RowKit
/- a field's seven cells at block b, from the o-th on -/
def FdC (w : World) (S : Nat → Prop) (b o : Nat) (f : FldL) : Prop := S b ∧ w.cell? ⟨b, o, none⟩ = some (.int .i64 f.kind) ∧ ExC w S b (o + 1) f.name ∧ ExC w S b (o + 4) f.range
structure FdS (w : World) (S : Nat → Prop) (v : Value) (fs : List FldL) (kb ko : Nat) : Prop where
  sh : ∃ q c, v = .slice q fs.length c ∧ fs.length ≤ c ∧ c ≤ maxLen ∧ (fs ≠ [] → q = some ⟨kb, ko, none⟩)
  at' : ∀ i (hi : i < fs.length), FdC w S kb (ko + i * 7) fs[i]
theorem FdC.keep {w w' : World} {S T : Nat → Prop} (hc : Chg T w w') (hST : ∀ k, S k → ¬ T k) {b o : Nat} {f : FldL} (h : FdC w S b o f) : FdC w' S b o f :=
  ⟨h.1, hc.cell h.2.1 (hST b h.1), h.2.2.1.keep hc hST, h.2.2.2.keep hc hST⟩
theorem FdC.mono {w : World} {S T : Nat → Prop} (hST : ∀ k, S k → T k) {b o : Nat} {f : FldL} (h : FdC w S b o f) : FdC w T b o f :=
  ⟨hST b h.1, h.2.1, h.2.2.1.mono hST, h.2.2.2.mono hST⟩
theorem FdS.keep {w w' : World} {S T : Nat → Prop} (hc : Chg T w w') (hST : ∀ k, S k → ¬ T k) {v : Value} {fs : List FldL} {kb ko : Nat} (h : FdS w S v fs kb ko) : FdS w' S v fs kb ko := ⟨h.sh, fun i hi => (h.at' i hi).keep hc hST⟩
theorem FdS.mono {w : World} {S T : Nat → Prop} (hST : ∀ k, S k → T k) {v : Value} {fs : List FldL} {kb ko : Nat} (h : FdS w S v fs kb ko) : FdS w T v fs kb ko := ⟨h.sh, fun i hi => (h.at' i hi).mono hST⟩
theorem FdS.nil (w : World) (S : Nat → Prop) : FdS w S (.slice none 0 0) [] 0 0 := ⟨⟨none, 0, rfl, Nat.le_refl _, Nat.zero_le _, fun h => absurd rfl h⟩, fun i hi => by simp at hi⟩
/- a recipe by value -/
def SrcV (w : World) (S : Nat → Prop) (v : Value) (r : RcpL) : Prop := ∃ d h f kb ko kb2 ko2 kf kg, v = .agg #[.int .i64 r.name.kind, .string (tx r.name.s), d, .int .i64 r.version.kind, .string (tx r.version.s), h, f] ∧ (r.name.s.length ≤ maxLen ∧ ExS w S d r.name.kids kb ko) ∧ (r.version.s.length ≤ maxLen ∧ ExS w S h r.version.kids kb2 ko2) ∧ FdS w S f r.fields kf kg
theorem SrcV.keep {w w' : World} {S T : Nat → Prop} (hc : Chg T w w') (hST : ∀ k, S k → ¬ T k) {v : Value} {r : RcpL} (h : SrcV w S v r) : SrcV w' S v r := by
  obtain ⟨d, h, f, kb, ko, kb2, ko2, kf, kg, e, ⟨h1, h2⟩, ⟨h3, h4⟩, h5⟩ := h
  exact ⟨d, h, f, kb, ko, kb2, ko2, kf, kg, e, ⟨h1, h2.keep hc hST⟩, ⟨h3, h4.keep hc hST⟩, h5.keep hc hST⟩
theorem SrcV.mono {w : World} {S T : Nat → Prop} (hST : ∀ k, S k → T k) {v : Value} {r : RcpL} (h : SrcV w S v r) : SrcV w T v r := by
  obtain ⟨d, h, f, kb, ko, kb2, ko2, kf, kg, e, ⟨h1, h2⟩, ⟨h3, h4⟩, h5⟩ := h
  exact ⟨d, h, f, kb, ko, kb2, ko2, kf, kg, e, ⟨h1, h2.mono hST⟩, ⟨h3, h4.mono hST⟩, h5.mono hST⟩
/- a row of fields that is appended to -/
def FdR (w : World) (S : Nat → Prop) : List FldL → List Value → Prop
  | [], [] => True
  | f :: fs, a :: b :: c :: d :: e :: g :: h :: vs => (a = .int .i64 f.kind ∧ (b = .int .i64 f.name.kind ∧ c = .string (tx f.name.s) ∧ f.name.s.length ≤ maxLen ∧ ∃ kb ko, ExS w S d f.name.kids kb ko) ∧ (e = .int .i64 f.range.kind ∧ g = .string (tx f.range.s) ∧ f.range.s.length ≤ maxLen ∧ ∃ kb ko, ExS w S h f.range.kids kb ko)) ∧ FdR w S fs vs
  | _, _ => False
theorem FdR.keep {w w' : World} {S S' T : Nat → Prop} (hc : Chg T w w') (hST : ∀ k, S k → ¬ T k) (hS : ∀ k, S k → S' k) : ∀ {fs : List FldL} {vs : List Value}, FdR w S fs vs → FdR w' S' fs vs
  | [], [], _ => trivial
  | f :: fs, a :: b :: c :: d :: e :: g :: h :: vs, ⟨⟨h1, ⟨h2, h3, h4, kb, ko, h5⟩, h6, h7, h8, kb2, ko2, h9⟩, hr⟩ => ⟨⟨h1, ⟨h2, h3, h4, kb, ko, (h5.keep hc hST).mono hS⟩, h6, h7, h8, kb2, ko2, (h9.keep hc hST).mono hS⟩, FdR.keep hc hST hS hr⟩
  | [], _ :: _, h => h.elim
  | _ :: _, [], h => h.elim
  | _ :: _, [_], h => h.elim
  | _ :: _, [_, _], h => h.elim
  | _ :: _, [_, _, _], h => h.elim
  | _ :: _, [_, _, _, _], h => h.elim
  | _ :: _, [_, _, _, _, _], h => h.elim
  | _ :: _, [_, _, _, _, _, _], h => h.elim
theorem FdR.snoc {w : World} {S : Nat → Prop} {f : FldL} {d h : Value} {kb ko kb2 ko2 : Nat} (h1 : f.name.s.length ≤ maxLen) (h2 : f.range.s.length ≤ maxLen) (hd : ExS w S d f.name.kids kb ko) (hh : ExS w S h f.range.kids kb2 ko2) : ∀ {fs : List FldL} {vs : List Value}, FdR w S fs vs → FdR w S (fs ++ [f]) (vs ++ [.int .i64 f.kind, .int .i64 f.name.kind, .string (tx f.name.s), d, .int .i64 f.range.kind, .string (tx f.range.s), h])
  | [], [], _ => ⟨⟨rfl, ⟨rfl, rfl, h1, kb, ko, hd⟩, rfl, rfl, h2, kb2, ko2, hh⟩, trivial⟩
  | m :: fs, a :: b :: c :: d2 :: e :: g :: h3 :: vs, ⟨k1, k2⟩ => ⟨k1, FdR.snoc h1 h2 hd hh k2⟩
  | [], _ :: _, h => h.elim
  | _ :: _, [], h => h.elim
  | _ :: _, [_], h => h.elim
  | _ :: _, [_, _], h => h.elim
  | _ :: _, [_, _, _], h => h.elim
  | _ :: _, [_, _, _, _], h => h.elim
  | _ :: _, [_, _, _, _, _], h => h.elim
  | _ :: _, [_, _, _, _, _, _], h => h.elim
theorem FdR.at' {w : World} {S : Nat → Prop} : ∀ {fs : List FldL} {vs : List Value}, FdR w S fs vs → ∀ (i : Nat) (hi : i < fs.length), ∃ d h, vs[i * 7]? = some (.int .i64 fs[i].kind) ∧ (vs[i * 7 + 1]? = some (.int .i64 fs[i].name.kind) ∧ vs[i * 7 + 2]? = some (.string (tx fs[i].name.s)) ∧ vs[i * 7 + 3]? = some d ∧ fs[i].name.s.length ≤ maxLen ∧ ∃ kb ko, ExS w S d fs[i].name.kids kb ko) ∧ (vs[i * 7 + 4]? = some (.int .i64 fs[i].range.kind) ∧ vs[i * 7 + 5]? = some (.string (tx fs[i].range.s)) ∧ vs[i * 7 + 6]? = some h ∧ fs[i].range.s.length ≤ maxLen ∧ ∃ kb ko, ExS w S h fs[i].range.kids kb ko)
  | [], [], _, i, hi => by simp at hi
  | f :: fs, a :: b :: c :: d :: e :: g :: h :: vs, ⟨⟨h1, ⟨h2, h3, h4, kb, ko, h5⟩, h6, h7, h8, kb2, ko2, h9⟩, hr⟩, i, hi => by
    cases i with
    | zero => exact ⟨d, h, by simp [h1], ⟨by simp [h2], by simp [h3], by simp, h4, kb, ko, h5⟩, by simp [h6], by simp [h7], by simp, h8, kb2, ko2, h9⟩
    | succ j =>
      obtain ⟨d', h', g1, ⟨g2, g3, g4, g5⟩, g6, g7, g8, g9⟩ := FdR.at' hr j (by simpa using hi)
      have e1 : (j + 1) * 7 = j * 7 + 7 := by omega
      refine ⟨d', h', ?_, ⟨?_, ?_, ?_, g5⟩, ?_, ?_, ?_, g9⟩
      · rw [e1]; simpa using g1
      · rw [e1]; simpa using g2
      · rw [e1]; simpa using g3
      · rw [e1]; simpa using g4
      · rw [e1]; simpa using g6
      · rw [e1]; simpa using g7
      · rw [e1]; simpa using g8
  | [], _ :: _, h, _, _ => h.elim
  | _ :: _, [], h, _, _ => h.elim
  | _ :: _, [_], h, _, _ => h.elim
  | _ :: _, [_, _], h, _, _ => h.elim
  | _ :: _, [_, _, _], h, _, _ => h.elim
  | _ :: _, [_, _, _, _], h, _, _ => h.elim
  | _ :: _, [_, _, _, _, _], h, _, _ => h.elim
  | _ :: _, [_, _, _, _, _, _], h, _, _ => h.elim
def Fb (w : World) (lo : Nat) (v : Value) (acc : List FldL) : Prop := lo ≤ w.heap.size ∧ ∃ xs, w.ownsRow lo 47 7 v acc.length xs ∧ FdR w (EbS lo v w) acc xs
theorem Fb.nil (w : World) (lo : Nat) (h : lo ≤ w.heap.size) : Fb w lo (.slice none 0 0) [] := ⟨h, [], World.ownsRow_nil _ _ _ _, trivial⟩
theorem Fb.keep {w w' : World} {lo : Nat} {v : Value} {acc : List FldL} {T : Nat → Prop} (h : Fb w lo v acc) (hc : Chg T w w') (hT : ∀ k, k < w.heap.size → lo ≤ k → ¬ T k) : Fb w' lo v acc := by
  obtain ⟨hl, xs, h1, h2⟩ := h
  refine ⟨Nat.le_trans hl hc.size, xs, ownsRow_chg h1 hc fun k hk => hT k (h1.lt k hk).2 (h1.lt k hk).1, h2.keep hc (fun k hk => hT k hk.1.2 hk.1.1) fun k hk => ⟨⟨hk.1.1, Nat.lt_of_lt_of_le hk.1.2 hc.size⟩, hk.2⟩⟩
theorem Fb.shape {w : World} {lo : Nat} {v : Value} {acc : List FldL} (h : Fb w lo v acc) : ∃ q cap, v = .slice q acc.length cap ∧ acc.length ≤ cap ∧ cap ≤ maxLen := by
  obtain ⟨_, xs, h1, _⟩ := h
  exact row_shape h1
theorem Fb.lt {w : World} {lo : Nat} {v : Value} {acc : List FldL} (h : Fb w lo v acc) : ∀ k, v.ownBlock = some k → lo ≤ k ∧ k < w.heap.size := by
  obtain ⟨_, xs, h1, _⟩ := h
  exact fun k hk => World.ownsRow.lt h1 k hk
theorem Fb.fds {w : World} {lo : Nat} {v : Value} {acc : List FldL} (h : Fb w lo v acc) : ∃ kb ko, FdS w (fun x => lo ≤ x ∧ x < w.heap.size) v acc kb ko := by
  obtain ⟨_, xs, h1, h2⟩ := h
  have hlt := h1.lt
  rcases h1.2 with ⟨rfl, h0⟩ | ⟨g, cap, cur, rfl, hb, hh, h3, h4, _⟩
  · have : acc = [] := List.eq_nil_of_length_eq_zero h0
    subst this
    exact ⟨0, 0, FdS.nil _ _⟩
  · refine ⟨g, 0, ⟨⟨_, cap, rfl, h3, h4, fun _ => rfl⟩, fun i hi => ?_⟩⟩
    obtain ⟨d, h, g1, ⟨g2, g3, g4, g5, kb, ko, g6⟩, k2, k3, k4, k5, kb2, ko2, k6⟩ := h2.at' i hi
    have hc : ∀ j u, xs[j]? = some u → w.cell? ⟨g, j, none⟩ = some u := fun j u hu => by
      have := World.ownsRow.cells h1 (g := g) rfl j u hu
      rwa [add_zero_off] at this
    rw [Nat.zero_add]
    exact ⟨hlt g rfl, hc _ _ g1, ExC.of (hlt g rfl) g5 (hc _ _ g2) (hc _ _ g3) (hc _ _ g4) (g6.mono fun x hx => hx.1), ExC.of (hlt g rfl) k5 (hc _ _ k2) (hc _ _ k3) (hc _ _ k4) (k6.mono fun x hx => hx.1)⟩
theorem Fb.push {w w2 w' : World} {lo N : Nat} {v v' : Value} {acc : List FldL} {xs : List Value} {f : FldL} {d h : Value} {kb ko kb2 ko2 : Nat} (hN : ∀ k, v.ownBlock = some k → k < N) (hl : lo ≤ N) (hlw : N ≤ w.heap.size) (hr : FdR w (EbS lo v w) acc xs)
    (h1 : f.name.s.length ≤ maxLen) (h2 : f.range.s.length ≤ maxLen) (hd : ExS w (fun x => N ≤ x ∧ x < w.heap.size) d f.name.kids kb ko) (hh : ExS w (fun x => N ≤ x ∧ x < w.heap.size) h f.range.kids kb2 ko2) (hc2 : Chg NoB w w2)
    (hown : w'.ownsRow lo 47 7 v' (acc.length + 1) (xs ++ [.int .i64 f.kind, .int .i64 f.name.kind, .string (tx f.name.s), d, .int .i64 f.range.kind, .string (tx f.range.s), h])) (hg : w2.grownBy w' v.ownBlock) (hp : v'.ownBlock = v.ownBlock ∨ v'.ownBlock = some w2.heap.size) : Fb w' lo v' (acc ++ [f]) := by
  have z2 := hc2.size
  have z3 := hg.size
  have hgc : Chg (fun k => v.ownBlock = some k) w2 w' := (Chg.refl _ w2).grown hg fun k hk => .inl hk
  have key : ∀ {u : Value} {ks : List ExL} {a b : Nat}, ExS w (fun x => N ≤ x ∧ x < w.heap.size) u ks a b → ExS w' (EbS lo v' w') u ks a b := fun hs => by
    refine ((hs.keep hc2 fun _ _ => id).keep hgc fun x hx hv => ?_).mono fun x hx => ⟨⟨by omega, by omega⟩, fun hv => ?_⟩
    · have := hN x hv; omega
    · rcases hp with hp | hp
      · rw [hp] at hv; have := hN x hv; omega
      · rw [hp] at hv; simp only [Option.some.injEq] at hv; omega
  refine ⟨by omega, _, by rw [List.length_append]; exact hown, ?_⟩
  refine FdR.snoc h1 h2 (key hd) (key hh) ?_
  refine (hr.keep hc2 (fun _ _ => id) (S' := EbS lo v w) fun _ => id).keep hgc (fun x hx hv => hx.2 hv) fun x hx => ⟨⟨hx.1.1, by have := hx.1.2; omega⟩, fun hv => ?_⟩
  rcases hp with hp | hp
  · rw [hp] at hv; exact hx.2 hv
  · rw [hp] at hv; simp only [Option.some.injEq] at hv; have := hx.1.2; omega
theorem one7 (a b e : Int) (c g : List UInt8) (q q2 : Option Addr) (n m n2 m2 : Nat) : ∀ u ∈ [Value.int .i64 a, .int .i64 b, .string (tx c), .slice q n m, .int .i64 e, .string (tx g), .slice q2 n2 m2], u.oneCell' = true := by
  intro u hu
  simp only [List.mem_cons, List.not_mem_nil, or_false] at hu
  rcases hu with rfl | rfl | rfl | rfl | rfl | rfl | rfl <;> rfl
theorem fdInfo : (Tryd.prog.info? 47).map (fun i => (i.zero, i.size, i.bytes)) = some (some (.agg #[.int .i64 0, .int .i64 0, .string ⟨#[]⟩, .slice none 0 0, .int .i64 0, .string ⟨#[]⟩, .slice none 0 0]), 7, 104) := by kernel_rfl
end Go.Proofs.YtdgcpgbknfojhaaDoor
