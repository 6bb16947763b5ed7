/- The contract of the writer's piece. Condition: the pieces have at most 2^40 bytes; what is written at most 2^16. -/
import Derived.Test.YtilkcjcmcnlfnaaGreatDoorNdCopies
import Derived.Lib.AppendStr
namespace Go.Proofs.YtilkcjcmcnlfnaaGreatDoor
set_option linter.unusedVariables false
open Go.ChangeShapes Go.WideShapes Go.ChangeAt Go.RowKit
theorem info5 : (Tryz.prog.info? 5).map (fun i => (i.zero, i.size, i.bytes)) = some (some (.int .u8 0), 1, 1) := by kernel_rfl
theorem str_bytes (s : ByteArray) : Lib.strCells s = bytesV s.data.toList := rfl
/- the writer at block b has these bytes; its row is of the call's own -/
def Wr (w : World) (base b : Nat) (xs : List UInt8) : Prop := base ≤ b ∧ ∃ v, w.heap[b]? = some (.cells #[v] 88 (0, 0)) ∧ Own w base v xs
def AbB (base : Nat) : Nat → Prop := fun k => base ≤ k
theorem own_ne {w : World} {base : Nat} {v : Value} {xs : List UInt8} {b : Nat} {cs : Array Value} {t : TypeId} (h : Own w base v xs) (hb : w.heap[b]? = some (.cells cs t (0, 0))) (ht : t ≠ 5) : ∀ k, v.ownBlock = some k → k ≠ b := by
  rintro k hk rfl
  rcases h.2 with ⟨rfl, _⟩ | ⟨g, cap, cur, rfl, _, hh, _⟩
  · simp [Value.ownBlock] at hk
  · simp only [Value.ownBlock, Option.some.injEq] at hk
    subst hk
    rw [hh] at hb
    simp only [Option.some.injEq, Obj.cells.injEq] at hb
    exact ht hb.2.1.symm
theorem Own.shape2 {w : World} {base : Nat} {v : Value} {xs : List UInt8} (h : Own w base v xs) : ∃ ad n cap, v = .slice ad n cap := by
  obtain ⟨ad, cap, e, _⟩ := h.shape
  exact ⟨ad, _, cap, e⟩
theorem Wr.keep {w w' : World} {S : Nat → Prop} {base b : Nat} {xs : List UInt8} (h : Wr w base b xs) (hc : Chg S w w') (hS : ∀ k, k < w.heap.size → base ≤ k → ¬ S k) : Wr w' base b xs := by
  obtain ⟨hb, v, hr, ho⟩ := h
  exact ⟨hb, v, row_kept hc hr (hS b (lt_of_block hr) hb), ho.chg hc fun k hk => hS k (ho.lt k hk).2 (ho.lt k hk).1⟩
/- all rows that are neither a writer nor bytes stand -/
def Kp (w w' : World) : Prop := ∀ (k : Nat) (cs : Array Value) (t : TypeId), t ≠ 88 → t ≠ 5 → w.heap[k]? = some (.cells cs t (0, 0)) → w'.heap[k]? = some (.cells cs t (0, 0))
theorem Kp.refl (w : World) : Kp w w := fun _ _ _ _ _ h => h
theorem Kp.trans {a b c : World} (h : Kp a b) (g : Kp b c) : Kp a c := fun k cs t h1 h2 hk => g k cs t h1 h2 (h k cs t h1 h2 hk)
theorem Wr.step {w w' : World} {base b : Nat} {v v' : Value} {xs ys : List UInt8} (hb : base ≤ b) (hr : w.heap[b]? = some (.cells #[v] 88 (0, 0))) (ho : Own w base v xs) (ho' : Own w' base v' ys) (hg : w.grownBy w' v.ownBlock) :
    Wr (w'.setCell ⟨b, 0, none⟩ v') base b ys ∧ Chg (AbB base) w (w'.setCell ⟨b, 0, none⟩ v') ∧ Kp w (w'.setCell ⟨b, 0, none⟩ v') := by
  have hne := own_ne ho hr (by decide)
  have hr' : w'.heap[b]? = some (.cells #[v] 88 (0, 0)) := (hg.block b (lt_of_block hr) (fun e => hne b e.symm rfl)).trans hr
  have hne' := own_ne ho' hr' (by decide)
  have hst : Chg (fun k => k = b) w' (w'.setCell ⟨b, 0, none⟩ v') := (Chg.refl (fun k => k = b) w').setCell (p := ⟨b, 0, none⟩) (.inl rfl) v'
  refine ⟨⟨hb, v', heap_set hr' v', ho'.chg hst hne'⟩, ?_, fun p cs t h1 h2 hp => ?_⟩
  · have h1 : Chg (AbB base) w w' := (Chg.refl (AbB base) w).grown hg fun k hk => .inl (ho.lt k hk).1
    exact h1.setCell (p := ⟨b, 0, none⟩) (.inl hb) _
  · have hnp := own_ne ho hp h2
    have hpb : p ≠ b := by
      rintro rfl
      rw [hr] at hp
      simp only [Option.some.injEq, Obj.cells.injEq] at hp
      exact h1 hp.2.1.symm
    have hp' := (hg.block p (lt_of_block hp) (fun e => hnp p e.symm rfl)).trans hp
    exact row_kept hst hp' hpb
/- what a writing answers -/
def PutP (base b : Nat) (r : Except Int (List UInt8)) (w : World) (e : Ending) (w' : World) : Prop := Chg (AbB base) w w' ∧ match r with
  | .error x => e = .returned (.int .i64 x)
  | .ok ys => e = .returned (.int .i64 0) ∧ Wr w' base b ys
def cat (ps : List ByteArray) : List UInt8 := (ps.map fun p => p.data.toList).flatten
theorem cat_take (ps : List ByteArray) (k : Nat) (h : k < ps.length) : cat (ps.take (k + 1)) = cat (ps.take k) ++ ps[k].data.toList := by
  unfold cat
  rw [List.take_add_one, List.getElem?_eq_getElem h, List.map_append, List.flatten_append]
  simp
theorem cat_le (ps : List ByteArray) (k : Nat) : (cat (ps.take k)).length ≤ (cat ps).length := by
  have h : cat ps = cat (ps.take k) ++ cat (ps.drop k) := by
    unfold cat
    rw [← List.flatten_append, ← List.map_append, List.take_append_drop]
  rw [h, List.length_append]; omega
set_option maxHeartbeats 1000000 in
theorem piece_kp (base b : Nat) (xs : List UInt8) (p : Nat) (ps : List ByteArray) (c : Nat) (w : World) (hw : Wr w base b xs) (hp : w.heap[p]? = some (.cells (ps.map Value.string).toArray 9 (0, 0)))
    (hc : ps.length ≤ c) (hcm : c ≤ maxLen) (htot : (cat ps).length ≤ 1099511627776) (hx : xs.length ≤ 65536) :
    Calls Tryz.prog 103 #[.pointer (some ⟨b, 0, none⟩), .slice (some ⟨p, 0, none⟩) ps.length c] w fun e w' => PutP base b (room (xs ++ cat ps)) w e w' ∧ Kp w w' := by
  have Hw := Lib.hid hw
  have Hp := Lib.hid hp
  obtain ⟨hb, v, hr, ho⟩ := hw
  have hpb : p ≠ b := by
    rintro rfl
    rw [hp] at hr
    simp at hr
  obtain ⟨ad, cap, rfl, hsx, hsc, _⟩ := ho.shape
  have hcl : w.cell? ⟨b, 0, none⟩ = some (.slice ad xs.length cap) := by rw [cell_of_row _ b 0 _ _ (0, 0) hr]; rfl
  have hparts : ∀ k (hk : k < ps.length), w.cell? ⟨p, k, none⟩ = some (.string ps[k]) := fun k hk => by
    rw [cell_of_row _ p k _ _ (0, 0) hp]; simp [List.getElem?_eq_getElem hk]
  have Hparts := Lib.hid hparts
  have Htot := Lib.hid htot
  unfold maxLen at hcm hsc
  clear hr ho hparts htot hp
  go_enter Tryz.func103, Tryz.ntmps103
  go_wp2_with fail
  go_loop [5, 7, 17] (fun sz pv i => ∃ k : Nat, k ≤ ps.length ∧ i = .int .i64 k ∧ sz = .int .i64 ((xs.length + (cat (ps.take k)).length : Nat) : Int)) (fun _ _ i => ps.length - (intOf i).toNat)
  case atStart => exact ⟨0, Nat.zero_le _, rfl, by simp [cat]⟩
  case round =>
    obtain ⟨k, hk, rfl, rfl⟩ := hrel
    have hle := cat_le ps k
    have htot := Htot.out
    by_cases hlt : k < ps.length
    · have hcell := Hparts.out k hlt
      have hle2 := cat_le ps (k + 1)
      have hct := congrArg List.length (cat_take ps k hlt)
      rw [List.length_append] at hct
      have hsz : ps[k].data.toList.length = ps[k].size := by simp
      have Hct := Lib.hid hct
      have Hsz := Lib.hid hsz
      obtain ⟨m, hm⟩ : ∃ m, m = (cat (ps.take k)).length := ⟨_, rfl⟩
      have hpk : ps[k].size ≤ 1099511627776 := by omega
      rw [← hm] at hle ⊢
      have Hm := Lib.hid hm
      clear hct hsz hm hle2
      generalize ps[k] = pk at *
      go_wp2_with fail
      go_round
      case rel => exact ⟨k + 1, by omega, by go_num, by have := Hct.out; have := Hsz.out; have := Hm.out; congr 1; push_cast; omega⟩
      case measure => simp [intOf]; omega
    · obtain rfl : k = ps.length := by omega
      rw [List.take_length]
      by_cases hbig : 65536 < (xs ++ cat ps).length
      · rw [List.length_append] at hbig
        go_wp2_with fail
        go_ret
        refine ⟨⟨Chg.refl _ _, ?_⟩, Kp.refl _⟩
        unfold room
        rw [if_pos (by rw [List.length_append]; omega)]
        rfl
      · have hroom : room (xs ++ cat ps) = .ok (xs ++ cat ps) := by unfold room; rw [if_neg hbig]
        rw [List.length_append] at hbig
        have Hroom := Lib.hid hroom
        have Hbig := Lib.hid hbig
        go_wp2_with fail
        clear hroom hcl hle htot
        go_loopw [9, 30] (fun pv i wr => ∃ k : Nat, k ≤ ps.length ∧ i = .int .i64 k ∧ Wr wr base b (xs ++ cat (ps.take k)) ∧ Chg (AbB base) w wr ∧ Kp w wr) (fun _ i _ => ps.length - (intOf i).toNat)
        case atStart => exact ⟨0, Nat.zero_le _, rfl, by simpa [cat] using Hw.out, Chg.refl _ _, Kp.refl _⟩
        case round =>
          obtain ⟨k, hk, rfl, hwr, hch, hkp⟩ := hrel
          have hpr := hkp p _ 9 (by decide) (by decide) Hp.out
          have Hkp := Lib.hid hkp
          clear hkp
          by_cases hlt : k < ps.length
          · have hcell : wr.cell? ⟨p, k, none⟩ = some (.string ps[k]) := by rw [cell_of_row _ p k _ _ (0, 0) hpr]; simp [List.getElem?_eq_getElem hlt]
            obtain ⟨_, v, hr, ho⟩ := hwr
            have hvc : wr.cell? ⟨b, 0, none⟩ = some v := by rw [cell_of_row _ b 0 _ _ (0, 0) hr]; rfl
            have hvf : wr.frozen? ⟨b, 0, none⟩ = false := by simp [World.frozen?, hr]
            have Hr := Lib.hid hr
            have Ho := Lib.hid ho
            have Hch := Lib.hid hch
            have Hpr := Lib.hid hpr
            have hct := cat_take ps k hlt
            have Hct := Lib.hid hct
            have hle := cat_le ps (k + 1)
            rw [hct, List.length_append] at hle
            have hsz : ps[k].data.toList.length = ps[k].size := by simp
            have Hsz := Lib.hid hsz
            have Hle := Lib.hid hle
            have hbs : base ≤ wr.heap.size := Nat.le_of_lt (Nat.lt_of_le_of_lt hb (lt_of_block hr))
            clear hr ho hch hpr hct hle hsz
            generalize ps[k] = pk at *
            obtain ⟨i0, hi, hz0, hz1, hz2⟩ := info_parts info5
            obtain ⟨n, hn⟩ : ∃ n, n = (xs ++ cat (ps.take k)).length := ⟨_, rfl⟩
            have hnb : n + pk.size ≤ 65536 := by
              have := Hle.out; have := Hsz.out; have := Hbig.out
              rw [hn, List.length_append]; omega
            have hown0 : wr.ownsRow base 5 1 v n (bytesV (xs ++ cat (ps.take k))) := by have := Ho.out; unfold Own at this; rw [← hn] at this; exact this
            have Hown0 := Lib.hid hown0
            have Hn := Lib.hid hn
            have hmx : n + pk.size ≤ maxLen := by unfold maxLen; omega
            have h47 : n + pk.size ≤ 140737488355328 := by omega
            clear hn hown0
            go_wp2_with (at_builtin; refine Lib.wpList_append_own_string _ rfl _ _ 86 9 rfl base 5 i0 Tryz.underlying86 Tryz.underlying9 hi hz0 hz1 hz2 v n _ rfl Hown0.out pk rfl hmx h47 hbs ?_)
            intro v' w' hown hgr hnil
            have ho' : Own w' base v' (xs ++ cat (ps.take k) ++ pk.data.toList) := by
              unfold Own
              rw [bytesV_append, List.length_append, Hsz.out]
              have hn := Hn.out
              rw [← hn]
              exact hown
            obtain ⟨s1, s2, s3⟩ := Wr.step hb Hr.out Ho.out ho' hgr
            have hr' := (hgr.block b (lt_of_block Hr.out) (fun e => own_ne Ho.out Hr.out (by decide) b e.symm rfl)).trans Hr.out
            have q1 : w'.cell? ⟨b, 0, none⟩ = some v := by rw [cell_of_row _ b 0 _ _ (0, 0) hr']; rfl
            have q2 : w'.frozen? ⟨b, 0, none⟩ = false := by simp [World.frozen?, hr']
            obtain ⟨ad', ln, cap', rfl⟩ := ho'.shape2
            have S1 := Lib.hid s1
            have S2 := Lib.hid s2
            have S3 := Lib.hid s3
            clear hown hgr hnil ho' s1 s2 s3 hr' hi hz0 hz1 hz2 hmx h47
            go_wp2_with fail
            go_roundw
            case rel =>
              refine ⟨k + 1, by omega, by go_num, ?_, Hch.out.trans S2.out, Hkp.out.trans S3.out⟩
              rw [Hct.out, ← List.append_assoc]
              exact S1.out
            case measure => simp [intOf]; omega
          · obtain rfl : k = ps.length := by omega
            rw [List.take_length] at hwr
            go_wp2_with fail
            go_ret
            refine ⟨⟨hch, ?_⟩, Hkp.out⟩
            rw [Hroom.out]
            exact ⟨rfl, hwr⟩
theorem piece_any (base b : Nat) (xs : List UInt8) (p : Nat) (ps : List ByteArray) (c : Nat) (w : World) (hw : Wr w base b xs) (hp : w.heap[p]? = some (.cells (ps.map Value.string).toArray 9 (0, 0)))
    (hc : ps.length ≤ c) (hcm : c ≤ maxLen) (htot : (cat ps).length ≤ 1099511627776) (hx : xs.length ≤ 65536) :
    Calls Tryz.prog 103 #[.pointer (some ⟨b, 0, none⟩), .slice (some ⟨p, 0, none⟩) ps.length c] w (PutP base b (room (xs ++ cat ps)) w) :=
  (piece_kp base b xs p ps c w hw hp hc hcm htot hx).mono fun e w' h => h.1
end Go.Proofs.YtilkcjcmcnlfnaaGreatDoor
