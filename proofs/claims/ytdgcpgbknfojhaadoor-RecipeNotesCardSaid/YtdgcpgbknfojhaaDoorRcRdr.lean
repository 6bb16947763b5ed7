/- A reader in memory; the contracts of fail, is, skip. Condition: the library's variable of lengths lies at block 1. -/
import Derived.Test.YtdgcpgbknfojhaaDoorRcName
import Derived.WalkLawsBesides
import Derived.Deep.QuietTactic
import Derived.StillTailTactics

namespace Go.Proofs.YtdgcpgbknfojhaaDoor
set_option linter.unusedVariables false
open Go.ChangeShapes Go.WideShapes Go.ChangeAt Go.RowKit
/- what a reader's five cells say -/
def rdV (src : List UInt8) (pos kind at' : Nat) (s : List UInt8) : Array Value := #[.string (tx src), .int .i64 pos, .int .i64 kind, .string (tx s), .int .i64 at']
structure RdM (w : World) (rb : Nat) (src : List UInt8) (st : RdL) : Prop where
  row : w.heap[rb]? = some (.cells (rdV src (src.length - st.rest.length) st.kind (src.length - st.rem) st.s) 59 (0, 0))
  suf : st.rest <:+ src
  rem : st.rem ≤ src.length
  len : st.s.length ≤ src.length
theorem RdM.keep {w w' : World} {rb : Nat} {src : List UInt8} {st : RdL} (h : RdM w rb src st) (hc : Chg NoB w w') : RdM w' rb src st := ⟨row_kept hc h.row id, h.suf, h.rem, h.len⟩
theorem RdM.chg {S : Nat → Prop} {w w' : World} {rb : Nat} {src : List UInt8} {st : RdL} (h : RdM w rb src st) (hc : Chg S w w') (hS : ¬ S rb) : RdM w' rb src st := ⟨row_kept hc h.row hS, h.suf, h.rem, h.len⟩
theorem suf_drop {r l : List UInt8} (h : r <:+ l) : l.drop (l.length - r.length) = r := (List.suffix_iff_eq_drop.1 h).symm
theorem cell5 {w : World} {b : Nat} {x0 x1 x2 x3 x4 : Value} {t : TypeId} (h : w.heap[b]? = some (.cells #[x0, x1, x2, x3, x4] t (0, 0))) :
    w.cell? ⟨b, 0, none⟩ = some x0 ∧ w.cell? ⟨b, 1, none⟩ = some x1 ∧ w.cell? ⟨b, 2, none⟩ = some x2 ∧ w.cell? ⟨b, 3, none⟩ = some x3 ∧ w.cell? ⟨b, 4, none⟩ = some x4 := by
  refine ⟨?_, ?_, ?_, ?_, ?_⟩ <;> rw [cell_of_row w b _ _ t (0, 0) h] <;> rfl
def quitF (at' e : Int) : Ending := .panicked [{ v := .iface 55 (.agg #[.int .i64 at', .int .i64 e]), recovered := false }]
theorem fail_at {w : World} {rb a : Nat} (h : w.cell? ⟨rb, 4, none⟩ = some (.int .i64 a)) (e : Int) : Calls Tryd.prog 52 #[.pointer (some ⟨rb, 0, none⟩), .int .i64 e] w fun x w' => x = quitF (a : Int) e ∧ w = w' := by
  go_enter Tryd.func52, Tryd.ntmps52
  go_wp2_with fail
  exact ⟨rfl, rfl, rfl⟩
theorem fail_any {w : World} {rb : Nat} {src : List UInt8} {st : RdL} (h : RdM w rb src st) (e : Int) : Calls Tryd.prog 52 #[.pointer (some ⟨rb, 0, none⟩), .int .i64 e] w fun x w' => x = quitF ((src.length - st.rem : Nat) : Int) e ∧ w = w' := fail_at (cell5 h.row).2.2.2.2 e
theorem is_any {w : World} {rb : Nat} {src : List UInt8} {st : RdL} (h : RdM w rb src st) (kind : Nat) (s : List UInt8) : Calls Tryd.prog 71 #[.pointer (some ⟨rb, 0, none⟩), .int .i64 kind, .string (tx s)] w (SayAt (.bool (st.is kind s)) w) := by
  obtain ⟨c0, c1, c2, c3, c4⟩ := cell5 h.row
  have en1 := txQ st.s
  have en2 := txQ s
  have Hi := Lib.hid (show st.is kind s = (decide (st.kind = kind) && (st.s == s)) from rfl)
  clear h
  by_cases hk : st.kind = kind
  · have hkb : ((st.kind : Int) == (kind : Int)) = true := by simp [hk]
    rw [decide_eq_true hk, Bool.true_and] at Hi
    clear hk
    go_enter Tryd.func71, Tryd.ntmps71
    go_wp2_with fail
    go_ret
    exact ⟨by rw [Hi.out]; rfl, rfl⟩
  · have hkb : ((st.kind : Int) == (kind : Int)) = false := by rw [beq_eq_false_iff_ne]; omega
    rw [decide_eq_false hk, Bool.false_and] at Hi
    clear hk
    go_enter Tryd.func71, Tryd.ntmps71
    go_wp2_with fail
    go_ret
    exact ⟨by rw [Hi.out]; rfl, rfl⟩
/- ahead of a token, in lists -/
def afterF (l : List UInt8) : List UInt8 := match cutC 10 l with
  | none => []
  | some (_, r) => r
theorem afterF_cut (l : List UInt8) : (Lib.cut l [10]).2.1 = afterF l := by
  rw [cut_eq]; unfold afterF; cases cutC 10 l <;> rfl
theorem skip_note : ∀ (l : List UInt8), skipF true l = skipF false (afterF l)
  | [] => rfl
  | c :: r => by
    rw [skipF, if_pos (.inl rfl)]
    by_cases h : c = 10
    · subst h
      rfl
    · have h10 : ¬ c.toNat = 10 := fun e => h (UInt8.toNat_inj.1 e)
      rw [show (decide (c.toNat = 35) || (true && decide (c.toNat ≠ 10))) = true by simp [h10], skip_note r]
      congr 1
      unfold afterF
      rw [cutC, if_neg h]
      cases cutC 10 r <;> rfl
theorem afterF_len (l : List UInt8) : (afterF l).length ≤ l.length := by
  unfold afterF
  cases h : cutC 10 l with
  | none => simp
  | some x =>
    obtain ⟨p, r⟩ := x
    obtain ⟨rfl, -⟩ := cutC_some.1 h
    simp; omega
theorem afterF_hash (r : List UInt8) : afterF (35 :: r) = afterF r := by
  unfold afterF
  rw [cutC, if_neg (by decide)]
  cases cutC 10 r <;> rfl
theorem skip_hash (r : List UInt8) : skipF false (35 :: r) = skipF false (afterF (35 :: r)) := by
  rw [skipF, if_pos (.inr (.inr (.inr (.inr rfl)))), afterF_hash, ← skip_note]
  rfl
theorem skip_trim : ∀ (l : List UInt8), skipF false (l.dropWhile blankC) = skipF false l
  | [] => rfl
  | c :: r => by
    rw [List.dropWhile_cons]
    by_cases h : blankC c = true
    · rw [if_pos h, skip_trim r]
      have h3 : c.toNat = 32 ∨ c.toNat = 10 ∨ c.toNat = 9 := by
        unfold blankC at h
        simp at h
        rcases h with rfl | rfl | rfl
        · exact .inl rfl
        · exact .inr (.inl rfl)
        · exact .inr (.inr rfl)
      rw [skipF, if_pos (.inr (by omega)), show (decide (c.toNat = 35) || (false && decide (c.toNat ≠ 10))) = false by simp; omega]
    · rw [if_neg h]
theorem dropB_head (l : List UInt8) : ∀ c r, l.dropWhile blankC = c :: r → blankC c = false := fun c r h => by
  induction l with
  | nil => cases h
  | cons d t ih =>
    rw [List.dropWhile_cons] at h
    by_cases hd : blankC d = true
    · rw [if_pos hd] at h; exact ih h
    · rw [if_neg hd] at h
      cases h
      simpa using hd
theorem skip_done {l : List UInt8} (h : ∀ c r, l = c :: r → blankC c = false ∧ c ≠ 35) : skipF false l = l := by
  cases l with
  | nil => rfl
  | cons c r =>
    obtain ⟨h1, h2⟩ := h c r rfl
    rw [skipF, if_neg]
    rintro (h | h | h | h | h)
    · cases h
    · rw [show c = 32 from UInt8.toNat_inj.1 h] at h1; cases h1
    · rw [show c = 10 from UInt8.toNat_inj.1 h] at h1; cases h1
    · rw [show c = 9 from UInt8.toNat_inj.1 h] at h1; cases h1
    · exact h2 (UInt8.toNat_inj.1 h)
theorem dropB_len (l : List UInt8) : (l.dropWhile blankC).length ≤ l.length := List.IsSuffix.length_le (List.dropWhile_suffix _)
theorem hash_any (l : List UInt8) (w : World) : Calls Tryd.prog 67 #[.string (tx l), .string ⟨#[35]⟩] w (SayAt (.bool (decide (l.head? = some 35))) w) := by
  refine (Tryd.strings_HasPrefix (tx l) ⟨#[35]⟩ w).mono ?_
  rintro e w' ⟨rfl, rfl⟩
  refine ⟨?_, rfl⟩
  congr 2
  rw [tx_list]
  cases l with
  | nil => rfl
  | cons c r =>
    by_cases h : c = 35
    · subst h; simp [Lib.hasPrefix]
    · have h2 : ¬ (35 : UInt8) = c := fun e => h e.symm
      show ([35] : List UInt8).isPrefixOf (c :: r) = decide ((c :: r).head? = some 35)
      rw [List.isPrefixOf]
      simp [h, h2]
/- the reader goes on to the first byte that is neither a blank nor in a note -/
def SkipP (rb : Nat) (src rest : List UInt8) (kind at' : Nat) (s : List UInt8) (w : World) (e : Ending) (w' : World) : Prop := e = .returned (.tuple #[]) ∧ w'.heap[rb]? = some (.cells (rdV src (src.length - (skipF false rest).length) kind at' s) 59 (0, 0)) ∧ Chg (fun k => k = rb) w w'
set_option maxHeartbeats 2000000 in
set_option maxRecDepth 20000 in
theorem skip_any {w : World} {rb : Nat} {src rest s : List UInt8} {kind at' : Nat} (base : Nat) (hr : w.heap[rb]? = some (.cells (rdV src (src.length - rest.length) kind at' s) 59 (0, 0))) (hs : rest <:+ src) (hl : src.length ≤ 8192) (hk : Kw base w) : Calls Tryd.prog 49 #[.pointer (some ⟨rb, 0, none⟩)] w (SkipP rb src rest kind at' s w) := by
  have hle := hs.length_le
  have hz : (tx src).size = src.length := tx_size src
  have hcut : (tx src).extract (src.length - rest.length) src.length = tx rest := by rw [cut_from src _ _ rfl (Nat.sub_le _ _), suf_drop hs]
  obtain ⟨pos, hpos⟩ : ∃ n, n = src.length - rest.length := ⟨_, rfl⟩
  rw [← hpos] at hr hcut
  have hpl : pos ≤ src.length := by omega
  have Hr := Lib.hid hr
  obtain ⟨c0, c1, c2, c3, c4⟩ := cell5 hr
  have Hk := Lib.hid hk
  have Hle := Lib.hid hle
  have HT := Lib.hid (fun l w => trim_any l w)
  have HH := Lib.hid (fun l w => hash_any l w)
  have HC := Lib.hid (fun (l : List UInt8) (W : World) (hl : l.length ≤ 8192) (hW : Chg NoB w W) => (Hk.out.keep hW).len.elim fun m hm => feed_any l m W (by omega) hm)
  clear hr hs hk hpos
  go_enter Tryd.func49, Tryd.ntmps49
  go_wp2_with fail
  go_still_tail 9, (by kernel_rfl)
  change wpList _ _ _ _ _ w.drew
  have Hcd := Lib.hid ((Chg.refl NoB w).drew)
  generalize w.drew = w1 at *
  go_wp2_with fail
  refine (HT.out rest _).mono ?_
  rintro e w2 ⟨rfl, hc2⟩
  have Hc2 := Lib.hid (Hcd.out.trans hc2)
  clear hc2 c0 c1 c2 c3 c4 Hcd
  go_wp2_with fail
  go_loopw [2] (fun v wr => ∃ l, v = .string (tx l) ∧ l.length ≤ rest.length ∧ skipF false l = skipF false rest ∧ (∀ c r, l = c :: r → blankC c = false) ∧ Chg NoB w wr) (fun v _ => strN v)
  case atStart => exact ⟨_, rfl, dropB_len rest, skip_trim rest, dropB_head rest, Hc2.out⟩
  case round =>
    obtain ⟨l, rfl, hll, hsk, hb, hch⟩ := hrel
    have Hsk := Lib.hid hsk
    have Hb := Lib.hid hb
    have Hch := Lib.hid hch
    have hzl : (tx l).size = l.length := tx_size l
    clear hsk hb hch
    go_wp2_with fail
    refine (HH.out l _).mono ?_
    rintro e w3 ⟨rfl, rfl⟩
    by_cases hh : l.head? = some 35
    · rw [decide_eq_true hh]
      obtain ⟨r, rfl⟩ : ∃ r, l = 35 :: r := by
        cases l with
        | nil => cases hh
        | cons c r => cases hh; exact ⟨r, rfl⟩
      have Hal := Lib.hid (show (afterF (35 :: r)).length ≤ r.length by rw [afterF_hash]; exact afterF_len r)
      have HCl := Lib.hid (HC.out (35 :: r) _ (by omega) Hch.out)
      rw [afterF_cut] at HCl
      have Hsk2 := Lib.hid (show skipF false ((afterF (35 :: r)).dropWhile blankC) = skipF false rest by rw [skip_trim, ← skip_hash, Hsk.out])
      rw [List.length_cons] at hll
      generalize (Lib.cut (35 :: r) [10]).1 = x1 at *
      generalize (Lib.cut (35 :: r) [10]).2.2 = x2 at *
      have Hdl := Lib.hid (dropB_len (afterF (35 :: r)))
      have Hdh := Lib.hid (dropB_head (afterF (35 :: r)))
      clear hh
      generalize afterF (35 :: r) = y at *
      go_wp2_with fail
      refine HCl.out.mono ?_
      rintro e w4 ⟨rfl, hc4⟩
      have Hc4 := Lib.hid (Hch.out.trans hc4)
      clear hc4
      go_wp2_with fail
      refine (HT.out y _).mono ?_
      rintro e w5 ⟨rfl, hc5⟩
      have Hc5 := Lib.hid (Hc4.out.trans hc5)
      clear hc5
      go_wp2_with fail
      go_roundw
      case rel => exact ⟨_, rfl, by have := Hdl.out; have := Hal.out; omega, Hsk2.out, Hdh.out, Hc5.out⟩
      case measure =>
        show (tx (y.dropWhile blankC)).size < (tx (35 :: r)).size
        rw [tx_size, tx_size, List.length_cons]
        have := Hdl.out; have := Hal.out; omega
    · rw [decide_eq_false hh]
      have Hdone := Lib.hid (show l = skipF false rest by
        rw [← Hsk.out]
        refine (skip_done fun c r e => ⟨Hb.out c r e, fun e2 => ?_⟩).symm
        subst e2
        exact hh (by rw [e]; rfl))
      have hr4 := row_kept Hch.out Hr.out id
      obtain ⟨c0, c1, c2, c3, c4⟩ := cell5 hr4
      have fr := row_free hr4
      have Hset := Lib.hid (heap_set hr4 (i := 1) (.int .i64 ((src.length - l.length : Nat) : Int)))
      have Hcs := Lib.hid (((Hch.out.mono fun _ _ h => h.elim : Chg (fun k => k = rb) w _)).setCell (p := ⟨rb, 1, none⟩) (.inl rfl) (.int .i64 ((src.length - l.length : Nat) : Int)))
      have hsub : ((src.length - l.length : Nat) : Int) = (src.length : Int) - (l.length : Int) := by omega
      rw [hsub] at Hset Hcs
      clear hr4 hh
      go_wp2_with fail
      go_end0
      refine ⟨rfl, ?_, Hcs.out⟩
      have := Hset.out
      rw [← hsub, Hdone.out] at this
      rw [← hsub, Hdone.out]
      exact this
end Go.Proofs.YtdgcpgbknfojhaaDoor
