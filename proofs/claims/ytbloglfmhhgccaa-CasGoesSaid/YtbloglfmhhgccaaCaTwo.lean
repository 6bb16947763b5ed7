/- What holds of a store in which some texts were put, in lists; a row of texts grows by one. No condition. -/
import Derived.Test.YtbloglfmhhgccaaCaLaw
import Derived.Test.YtbloglfmhhgccaaTxApp
import Derived.Test.YtbloglfmhhgccaaBaseF
import Derived.RegionTactic
import Derived.Test.YtbloglfmhhgccaaKeepT


namespace Go.Proofs.Ytbloglfmhhgccaa
set_option linter.unusedVariables false
open Go.ChangeShapes Go.WideShapes Go.ChangeAt Go.RowKit Go.Shelf
structure HasO (W : Int) (os pr : List (List UInt8)) : Prop where
  all : ∀ b ∈ pr, b.length ≤ 65536 → b ∈ os
  from' : ∀ b ∈ os, b ∈ pr ∧ b.length ≤ 65536
theorem HasO.nil (W : Int) : HasO W [] [] := ⟨(fun b h => by cases h), (fun b h => by cases h)⟩
theorem put_of_zero {W : Int} {os : List (List UInt8)} {b : List UInt8} (h : tryF W os b = 0) : putK W os b = keyL W b := by unfold putK; rw [if_pos h]
theorem put_of_not {W : Int} {os : List (List UInt8)} {b : List UInt8} (h : tryF W os b ≠ 0) : putO W os b = os := by unfold putO; rw [if_neg (fun x => h x.1)]
theorem put_mem {W : Int} {os : List (List UInt8)} {b : List UInt8} (h : tryF W os b = 0) : b ∈ putO W os b ∧ (putO W os b = os ∨ putO W os b = os ++ [b]) := by
  obtain ⟨h1, h2⟩ := try_ok h
  unfold putO
  cases hg : (getO W os (keyL W b)).2 with
  | true =>
    rw [if_neg (by simp)]
    have he : getO W os (keyL W b) = (b, true) := Prod.ext (h2 hg) hg
    exact ⟨(getO_mem he).1, .inl rfl⟩
  | false => rw [if_pos ⟨h, rfl⟩]; exact ⟨by simp, .inr rfl⟩
theorem put_sub {W : Int} {os : List (List UInt8)} {b x : List UInt8} (h : x ∈ os) : x ∈ putO W os b := by
  unfold putO; split
  · exact List.mem_append_left _ h
  · exact h
theorem put_len_le (W : Int) (os : List (List UInt8)) (b : List UInt8) : (putO W os b).length ≤ os.length + 1 := by
  unfold putO; split <;> simp
theorem HasO.put {W : Int} {os pr : List (List UInt8)} (h : HasO W os pr) {b : List UInt8} (ht : tryF W os b ≠ 72) : HasO W (putO W os b) (pr ++ [b]) := by
  rcases try_three W os b with h0 | h3 | h7
  · obtain ⟨hm, hp⟩ := put_mem h0
    refine ⟨fun x hx hl => ?_, fun x hx => ?_⟩
    · rcases List.mem_append.1 hx with hx | hx
      · exact put_sub (h.all x hx hl)
      · rw [List.mem_singleton.1 hx]; exact hm
    · have : x ∈ os ∨ x = b := by
        rcases hp with e | e <;> rw [e] at hx
        · exact .inl hx
        · rcases List.mem_append.1 hx with hx | hx
          · exact .inl hx
          · exact .inr (List.mem_singleton.1 hx)
      rcases this with hx | rfl
      · exact ⟨List.mem_append_left _ (h.from' x hx).1, (h.from' x hx).2⟩
      · exact ⟨by simp, (try_ok h0).1⟩
  · rw [put_of_not (by rw [h3]; decide)]
    have hl : 65536 < b.length := by
      unfold tryF at h3
      by_cases hh : 65536 < b.length
      · exact hh
      · rw [if_neg hh] at h3; split at h3 <;> cases h3
    refine ⟨fun x hx hxl => ?_, fun x hx => ⟨List.mem_append_left _ (h.from' x hx).1, (h.from' x hx).2⟩⟩
    rcases List.mem_append.1 hx with hx | hx
    · exact h.all x hx hxl
    · rw [List.mem_singleton.1 hx] at hxl; omega
  · exact absurd h7 ht
theorem InvO.has {W : Int} {os : List (List UInt8)} {ps : List FileL} (h : InvO W os ps) {b : List UInt8} (hb : b ∈ os) : getO W os (keyL W b) = (b, true) := by
  rw [← h.get]
  exact getS_mem h.asc (x := (keyL W b, b)) (h.mem.2 ⟨hb, rfl⟩)
theorem InvO.nodup {W : Int} {os : List (List UInt8)} {ps : List FileL} (h : InvO W os ps) : os.Nodup := by
  have h1 : ps.Nodup := h.asc.imp fun {a b} hab e => by subst e; rw [bl_irr] at hab; cases hab
  have h2 := h.perm.nodup_iff.1 h1
  unfold pairsO at h2
  exact List.Pairwise.of_map _ (fun a b hab e => hab (by rw [e])) h2
theorem try_clash {W : Int} {os : List (List UInt8)} {b : List UInt8} (h : tryF W os b = 72) : (getO W os (keyL W b)).2 = true ∧ (getO W os (keyL W b)).1 ≠ b := by
  unfold tryF at h
  split at h
  · cases h
  · split at h
    · assumption
    · cases h
theorem ShO.keepC {w w' : World} {S : Nat → Prop} {lo ob : Nat} {ps : List FileL} (h : ShO w lo ob ps) (hc : Chg S w w') (h2 : ¬ S ob) (h3 : ∀ k, RowB w ob k → ¬ S k) : ShO w' lo ob ps := by
  obtain ⟨q, c, r1, r2, r3⟩ := h.row
  refine ⟨h.asc, q, c, row_kept hc r1 h2, ownsRow_chg r2 hc fun k hk => h3 k ?_, r3⟩
  rcases r2.2 with ⟨e, _⟩ | ⟨g', cap', cur', e, _⟩
  · simp only [Value.slice.injEq] at e
    rw [e.1] at hk; cases hk
  · simp only [Value.slice.injEq] at e
    rw [e.1] at r1 hk
    cases hk
    exact ⟨_, _, r1⟩
theorem StO.keepC {w w' : World} {S : Nat → Prop} {lo sb ob : Nat} {W : Int} {ps : List FileL} (h : StO w lo sb ob W ps) (hc : Chg S w w') (h1 : ¬ S sb) (h2 : ¬ S ob) (h3 : ∀ k, RowB w ob k → ¬ S k) : StO w' lo sb ob W ps :=
  ⟨row_kept hc h.row h1, h.sh.keepC hc h2 h3, h.ne.1, h.ne.2.1, h.ne.2.2.1, Nat.le_trans h.ne.2.2.2 hc.size⟩
theorem RowB.back {w w' : World} {S : Nat → Prop} {ob k : Nat} (h : RowB w' ob k) (hc : Chg S w w') (hlt : ob < w.heap.size) (hs : ¬ S ob) : RowB w ob k := h.same (hc.block ob hlt hs).symm
theorem wpList_txt1p {w : World} {ops : Array Oper} {rest : List Oper} {o : Oper} {a : Act} {Q : Exit → Act → World → Prop} (hgd : o.guard = none) (s x : Operand)
    (ho : o.op = .call { callee := .builtin .append, args := #[s, x], argTypes := #[22, 22] })
    {base n : Nat} {v : Value} {ts : List (List UInt8)} {b : Nat} {y : List UInt8} {f : Nat × Nat} (hs : a.eval s = v) (hx : a.eval x = .slice (some ⟨b, 0, none⟩) 1 1) {k : Nat} (hk : k = n + 1) (hown : w.ownsRow base 9 1 v n (txV ts)) (hb : w.heap[b]? = some (.cells #[.string (tx y)] 9 f)) (hl : n + 1 ≤ 1048576) (hbase : base ≤ w.heap.size)
    (h : ∀ v' w', w'.ownsRow base 9 1 v' k (txV (ts ++ [y])) → w.grownBy w' v.ownBlock → (v'.ownBlock = v.ownBlock ∨ v'.ownBlock = some w.heap.size) → wpList Try.prog ops Q rest (a.put o.dst v') w') : wpList Try.prog ops Q (o :: rest) a w := by
  obtain ⟨i0, hi, hz0, hz1, hz2⟩ := info_parts stringInfo
  refine wpList_append_at w hgd s x 22 ho base 9 i0 (.string ⟨#[]⟩) 1 16 Try.underlying22 hi hz0 hz1 hz2 rfl (by decide) v n (txV ts) hs hown ⟨b, 0, none⟩ 1 1 [.string (tx y)] hx rfl (fun j u hj => ?_) (fun u hu => by rw [List.mem_singleton.1 hu]; rfl) (by unfold maxLen; omega) (by omega) hbase ?_
  · match j, hj with
    | 0, hj => cases hj; rw [add_zero_off, cell_of_row w b _ _ _ f hb]; rfl
  · intro v' w' h1 h2 h3
    refine h v' w' ?_ h2 h3
    rw [txV_snoc, hk]
    exact h1
theorem put_small {W : Int} {os : List (List UInt8)} {b : List UInt8} (h : ∀ x ∈ os, x.length ≤ 65536) : ∀ x ∈ putO W os b, x.length ≤ 65536 := by
  unfold putO
  split
  · rename_i hz
    intro x hx
    rcases List.mem_append.1 hx with hx | hx
    · exact h x hx
    · rw [List.mem_singleton.1 hx]; exact (try_ok hz.1).1
  · exact h
theorem reads_finC {W wC V : World} {S : Nat → Prop} {rb D : Nat} {r : Bool} (h : Chg NoB W wC) (hrb : W.heap.size ≤ rb) (hch : Chg S wC V) (hS : ∀ k, S k → W.heap.size ≤ k) (hres : Boxed V rb 4 (.bool false)) (hK : V.heap[D]? = some (.deferred (some []))) (hD : wC.heap.size ≤ D) :
    (V.setCell ⟨rb, 0, none⟩ (.bool r)).heap[D]? = some (.deferred (some [])) ∧ ((V.setCell ⟨rb, 0, none⟩ (.bool r)).putObj D (.deferred none)).cell? ⟨rb, 0, none⟩ = some (.bool r) ∧ Chg NoB W ((V.setCell ⟨rb, 0, none⟩ (.bool r)).putObj D (.deferred none)) := by
  have hK' := (KeepsOthers.setCell V ⟨rb, 0, none⟩ (.bool r)).same D _ hK rfl
  have hr := (hres.set (.bool r)).cell
  have hV : Chg NoB W (V.setCell ⟨rb, 0, none⟩ (.bool r)) := (h.above hch hS).setCell (p := ⟨rb, 0, none⟩) (.inr hrb) (.bool r)
  have hg := grownBy_putObj' (V.setCell ⟨rb, 0, none⟩ (.bool r)) D (.deferred none)
  exact ⟨hK', cell_kept hr hg (fun r e => by cases e; exact ⟨_, hK', rfl⟩), hV.grown hg fun k e => .inr (by cases e; have := h.size; omega)⟩
end Go.Proofs.Ytbloglfmhhgccaa
