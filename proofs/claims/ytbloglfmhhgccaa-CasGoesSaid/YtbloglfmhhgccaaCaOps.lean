/- The contracts of a store's calls. Condition: at most 2^20 objects, of at most 2^47 bytes. -/
import Derived.Test.YtbloglfmhhgccaaCaKey


namespace Go.Proofs.Ytbloglfmhhgccaa
set_option linter.unusedVariables false
open Go.ChangeShapes Go.WideShapes Go.ChangeAt Go.RowKit
theorem StO.row_le {w : World} {lo sb ob : Nat} {W : Int} {ps : List FileL} (h : StO w lo sb ob W ps) : sb < w.heap.size ∧ ob < w.heap.size := ⟨lt_of_block h.row, by obtain ⟨q, c, h1, -⟩ := h.sh.row; exact lt_of_block h1⟩
theorem StO.rowB {w : World} {lo sb ob : Nat} {W : Int} {ps : List FileL} (h : StO w lo sb ob W ps) {k : Nat} (hk : RowB w ob k) : lo ≤ k ∧ k < w.heap.size := by
  obtain ⟨q, c, h1, h2, -⟩ := h.sh.row
  have := hk.at h1
  subst this
  exact World.ownsRow.lt h2 k rfl
def NewC (W : Int) (w : World) (e : Ending) (w' : World) : Prop := Chg NoB w w' ∧ ∃ sb ob, e = .returned (.pointer (some ⟨sb, 0, none⟩)) ∧ (∀ w'' lo, Chg NoB w' w'' → w.heap.size + 2 ≤ lo → lo ≤ w''.heap.size → StO w'' lo sb ob W [] ∧ ∀ k, ¬ RowB w'' ob k) ∧ w.heap.size ≤ sb ∧ w.heap.size ≤ ob ∧ w'.heap.size = w.heap.size + 2 ∧ sb < w'.heap.size ∧ ob < w'.heap.size
theorem new_any (W : Int) (w : World) : Calls Try.prog 9 #[.int .i64 W] w (NewC W w) := by
  have HS := Lib.hid (snew_any w)
  go_enter Try.func9, Try.ntmps9
  go_wp2_with fail
  refine HS.out.mono ?_
  rintro e w2 ⟨hc2, rfl, hz2, hb2⟩
  have Hc2 := Lib.hid hc2
  have Hz2 := Lib.hid hz2
  have Hb2 := Lib.hid hb2
  clear hc2 hz2 hb2
  go_wp2_with fail
  go_ret
  have ha := (Chg.refl NoB w2).alloc (.cells #[.int .i64 W, .pointer (some ⟨w.heap.size, 0, none⟩)] 49)
  have hb := heap_alloc_new w2 (.cells #[.int .i64 W, .pointer (some ⟨w.heap.size, 0, none⟩)] 49)
  have hz := Hz2.out
  refine ⟨Hc2.out.trans ha, w2.heap.size, w.heap.size, rfl, fun w'' lo hc h1 h2 => ?_, by omega, Nat.le_refl _, by rw [aSize]; omega, by rw [aSize]; omega, by rw [aSize]; omega⟩
  have hob := row_kept hc (row_kept ha Hb2.out id) id
  exact ⟨⟨row_kept hc hb id, ⟨List.Pairwise.nil, none, 0, hob, World.ownsRow_nil _ _ _ _, fun g hg => by cases hg⟩, by omega, by omega, by omega, h2⟩, fun k hk => by have := hk.at hob; cases this⟩
theorem all_any (sb : Nat) (v : Value) (p : Option Addr) (w : World) (h : w.heap[sb]? = some (.cells #[v, .pointer p] 49 (0, 0))) : Calls Try.prog 28 #[.pointer (some ⟨sb, 0, none⟩)] w fun e w' => e = .returned (.pointer p) ∧ w = w' := by
  have s1 := (var2 h).2
  clear h
  go_enter Try.func28, Try.ntmps28
  go_wp2_with fail
  go_ret
  exact ⟨rfl, rfl⟩
theorem all_nil (w : World) : Calls Try.prog 28 #[.pointer none] w fun e w' => e = .returned (.pointer none) ∧ w = w' := by
  go_enter Try.func28, Try.ntmps28
  go_wp2_with fail
  go_ret
  exact ⟨rfl, rfl⟩
theorem get_any (ps : List FileL) (hl : ps.length ≤ 1048576) (lo sb ob : Nat) (W : Int) (k : List UInt8) (w : World) (h : StO w lo sb ob W ps) :
    Calls Try.prog 16 #[.pointer (some ⟨sb, 0, none⟩), .string (tx k)] w fun e w' => Chg NoB w w' ∧ e = .returned (.tuple #[.string (tx (getS ps k).1), .bool (getS ps k).2]) := by
  have HA := Lib.hid (all_any sb _ _ w h.row)
  have HG := Lib.hid (sget_any ps hl lo ob k w h.sh)
  generalize (getS ps k).1 = g1 at *
  generalize (getS ps k).2 = g2 at *
  clear h hl
  go_enter Try.func16, Try.ntmps16
  go_wp2_with fail
  refine HA.out.mono ?_
  rintro e w' ⟨rfl, rfl⟩
  go_wp2_with fail
  refine HG.out.mono ?_
  rintro e w2 ⟨hc2, rfl⟩
  have Hc2 := Lib.hid hc2
  clear hc2
  go_wp2_with fail
  go_ret2
  exact ⟨Hc2.out, rfl⟩
theorem get_nil (k : ByteArray) (w : World) : Calls Try.prog 16 #[.pointer none, .string k] w fun e w' => e = .returned (.tuple #[.string ⟨#[]⟩, .bool false]) ∧ w = w' := by
  have HA := Lib.hid (all_nil w)
  have HG := Lib.hid (sget_nil k w)
  go_enter Try.func16, Try.ntmps16
  go_wp2_with fail
  refine HA.out.mono ?_
  rintro e w' ⟨rfl, rfl⟩
  go_wp2_with fail
  refine HG.out.mono ?_
  rintro e w' ⟨rfl, rfl⟩
  go_wp2_with fail
  go_ret2
  exact ⟨rfl, rfl⟩
theorem len_any (ps : List FileL) (lo sb ob : Nat) (W : Int) (w : World) (h : StO w lo sb ob W ps) : Calls Try.prog 15 #[.pointer (some ⟨sb, 0, none⟩)] w fun e w' => e = .returned (.int .i64 (ps.length : Nat)) ∧ w = w' := by
  have HA := Lib.hid (all_any sb _ _ w h.row)
  have HG := Lib.hid (slen_any ps lo ob w h.sh)
  generalize ps.length = n at *
  clear h
  go_enter Try.func15, Try.ntmps15
  go_wp2_with fail
  refine HA.out.mono ?_
  rintro e w' ⟨rfl, rfl⟩
  go_wp2_with fail
  refine HG.out.mono ?_
  rintro e w' ⟨rfl, rfl⟩
  go_wp2_with fail
  go_ret
  exact ⟨rfl, rfl⟩
theorem len_nil (w : World) : Calls Try.prog 15 #[.pointer none] w fun e w' => e = .returned (.int .i64 0) ∧ w = w' := by
  have HA := Lib.hid (all_nil w)
  have HG := Lib.hid (slen_nil w)
  go_enter Try.func15, Try.ntmps15
  go_wp2_with fail
  refine HA.out.mono ?_
  rintro e w' ⟨rfl, rfl⟩
  go_wp2_with fail
  refine HG.out.mono ?_
  rintro e w' ⟨rfl, rfl⟩
  go_wp2_with fail
  go_ret
  exact ⟨rfl, rfl⟩
theorem goes_any (ps : List FileL) (hl : ps.length ≤ 1048576) (lo sb ob : Nat) (W : Int) (w : World) (h : StO w lo sb ob W ps) : Calls Try.prog 18 #[.pointer (some ⟨sb, 0, none⟩)] w (AllP ps w) := by
  have HA := Lib.hid (all_any sb _ _ w h.row)
  have HG := Lib.hid (sall_any ps hl lo ob w h.sh)
  clear h hl
  go_enter Try.func18, Try.ntmps18
  go_wp2_with fail
  refine HA.out.mono ?_
  rintro e w' ⟨rfl, rfl⟩
  go_wp2_with fail
  refine HG.out.mono ?_
  rintro e w2 ⟨hc2, pb, pv, nb, rfl, r⟩
  have Hr := Lib.hid (And.intro hc2 r)
  clear hc2 r
  go_wp2_with fail
  go_ret
  exact ⟨Hr.out.1, pb, pv, nb, rfl, Hr.out.2⟩
theorem goes_nil (w : World) : Calls Try.prog 18 #[.pointer none] w (AllP [] w) := by
  have HA := Lib.hid (all_nil w)
  have HG := Lib.hid (sall_nil w)
  go_enter Try.func18, Try.ntmps18
  go_wp2_with fail
  refine HA.out.mono ?_
  rintro e w' ⟨rfl, rfl⟩
  go_wp2_with fail
  refine HG.out.mono ?_
  rintro e w2 ⟨hc2, pb, pv, nb, rfl, r⟩
  have Hr := Lib.hid (And.intro hc2 r)
  clear hc2 r
  go_wp2_with fail
  go_ret
  exact ⟨Hr.out.1, pb, pv, nb, rfl, Hr.out.2⟩
set_option maxHeartbeats 1000000 in
theorem try_any (os : List (List UInt8)) (hl : os.length ≤ 1048576) (b : List UInt8) (hb : b.length ≤ 140737488351232) (lo sb ob : Nat) (W : Int) (ps : List FileL) (hi : InvO W os ps) (w : World) (h : StO w lo sb ob W ps) :
    Calls Try.prog 10 #[.pointer (some ⟨sb, 0, none⟩), .string (tx b)] w (SayI (tryF W os b) w) := by
  have HK := Lib.hid (fun w' (hc : Chg NoB w w') => key_any b hb sb W _ w' (h.keep hc).row)
  have HG := Lib.hid (fun w' (hc : Chg NoB w w') => get_any ps (by rw [hi.len]; exact hl) lo sb ob W (keyL W b) w' (h.keep hc))
  rw [hi.get] at HG
  obtain ⟨r, hr⟩ : ∃ r, r = tryF W os b := ⟨_, rfl⟩
  rw [← hr]
  unfold tryF at hr
  have hbz : (tx b).size = b.length := tx_size b
  obtain ⟨g1, hg1⟩ : ∃ g, g = (getO W os (keyL W b)).1 := ⟨_, rfl⟩
  obtain ⟨g2, hg2⟩ : ∃ g, g = (getO W os (keyL W b)).2 := ⟨_, rfl⟩
  rw [← hg1, ← hg2] at HG hr
  have Hr := Lib.hid hr
  obtain ⟨bl', hbl⟩ : ∃ n, n = b.length := ⟨_, rfl⟩
  rw [← hbl] at hbz hb Hr
  clear hi hl h hr hg1 hg2 hbl
  have he := tx_beq g1 b
  by_cases hbig : 65536 < bl'
  · go_enter Try.func10, Try.ntmps10
    go_wp2_with fail
    go_ret
    exact ⟨by rw [Hr.out, if_pos hbig]; rfl, Chg.refl _ _⟩
  · have Hr2 := Lib.hid (Hr.out.trans (if_neg hbig))
    cases g2 with
    | false =>
      go_enter Try.func10, Try.ntmps10
      go_wp2_with fail
      refine (HK.out _ (Chg.refl _ _)).mono ?_
      rintro e w2 ⟨rfl, hc2⟩
      have Hc2 := Lib.hid hc2
      clear hc2
      go_wp2_with fail
      refine (HG.out _ Hc2.out).mono ?_
      rintro e w3 ⟨hc3, rfl⟩
      have Hc3 := Lib.hid (Hc2.out.trans hc3)
      clear hc3
      go_wp2_with fail
      go_ret
      exact ⟨by rw [Hr2.out]; rfl, Hc3.out⟩
    | true =>
      by_cases hgb : g1 = b
      · rw [decide_eq_true hgb] at he
        have Hgb := Lib.hid hgb
        clear hgb
        go_enter Try.func10, Try.ntmps10
        go_wp2_with fail
        refine (HK.out _ (Chg.refl _ _)).mono ?_
        rintro e w2 ⟨rfl, hc2⟩
        have Hc2 := Lib.hid hc2
        clear hc2
        go_wp2_with fail
        refine (HG.out _ Hc2.out).mono ?_
        rintro e w3 ⟨hc3, rfl⟩
        have Hc3 := Lib.hid (Hc2.out.trans hc3)
        clear hc3
        go_wp2_with fail
        go_ret
        exact ⟨by rw [Hr2.out, if_neg (fun h => h.2 Hgb.out)]; rfl, Hc3.out⟩
      · rw [decide_eq_false hgb] at he
        have Hgb := Lib.hid hgb
        clear hgb
        go_enter Try.func10, Try.ntmps10
        go_wp2_with fail
        refine (HK.out _ (Chg.refl _ _)).mono ?_
        rintro e w2 ⟨rfl, hc2⟩
        have Hc2 := Lib.hid hc2
        clear hc2
        go_wp2_with fail
        refine (HG.out _ Hc2.out).mono ?_
        rintro e w3 ⟨hc3, rfl⟩
        have Hc3 := Lib.hid (Hc2.out.trans hc3)
        clear hc3
        go_wp2_with fail
        go_ret
        exact ⟨by rw [Hr2.out, if_pos ⟨by first | rfl | trivial, Hgb.out⟩]; rfl, Hc3.out⟩
theorem try_nil (b : ByteArray) (w : World) : Calls Try.prog 10 #[.pointer none, .string b] w fun e w' => e = .returned (.int .i64 2) ∧ w = w' := by
  go_enter Try.func10, Try.ntmps10
  go_wp2_with fail
  go_ret
  exact ⟨rfl, rfl⟩
theorem put_nil (b : ByteArray) (w : World) : Calls Try.prog 11 #[.pointer none, .string b] w fun e w' => e = .returned (.tuple #[.string ⟨#[]⟩, .int .i64 2]) ∧ w = w' := by
  have HT := Lib.hid (try_nil b w)
  go_enter Try.func11, Try.ntmps11
  go_wp2_with fail
  refine HT.out.mono ?_
  rintro e w' ⟨rfl, rfl⟩
  go_wp2_with fail
  go_ret2
  exact ⟨rfl, rfl⟩
theorem try_three (W : Int) (os : List (List UInt8)) (b : List UInt8) : tryF W os b = 0 ∨ tryF W os b = 3 ∨ tryF W os b = 72 := by
  unfold tryF
  split
  · exact .inr (.inl rfl)
  · split
    · exact .inr (.inr rfl)
    · exact .inl rfl
def PutC (W : Int) (os : List (List UInt8)) (b : List UInt8) (lo sb ob : Nat) (w : World) (e : Ending) (w' : World) : Prop :=
  e = .returned (.tuple #[.string (tx (putK W os b)), .int .i64 (tryF W os b)]) ∧ Chg (PutB ob w) w w' ∧ (∀ k, RowB w' ob k → RowB w ob k ∨ w.heap.size ≤ k) ∧ ∃ ps', InvO W (putO W os b) ps' ∧ StO w' lo sb ob W ps'
set_option maxHeartbeats 1000000 in
theorem put_any (os : List (List UInt8)) (hl : os.length ≤ 1048576) (b : List UInt8) (hb : b.length ≤ 140737488351232) (lo sb ob : Nat) (W : Int) (ps : List FileL) (hi : InvO W os ps) (w : World) (h : StO w lo sb ob W ps) :
    Calls Try.prog 11 #[.pointer (some ⟨sb, 0, none⟩), .string (tx b)] w (PutC W os b lo sb ob w) := by
  have HT := Lib.hid (try_any os hl b hb lo sb ob W ps hi w h)
  have HK := Lib.hid (fun w' (hc : Chg NoB w w') => key_any b hb sb W _ w' (h.keep hc).row)
  have Hst := Lib.hid h
  have Hi := Lib.hid hi
  obtain ⟨r, hr⟩ : ∃ r, r = tryF W os b := ⟨_, rfl⟩
  have h3 := try_three W os b
  rw [← hr] at HT h3
  have Hr := Lib.hid hr
  clear hi h hr
  by_cases h0 : r = 0
  · subst h0
    have hpk : putK W os b = keyL W b := by unfold putK; rw [if_pos Hr.out.symm]
    have hcase := Hi.out.put_cases Hr.out.symm
    have HP := Lib.hid (fun w' (hc : Chg NoB w w') => sput_any ps (by rw [Hi.out.len]; exact hl) lo ob (keyL W b, b) w' (Hst.out.keep hc).sh (hcase.imp (fun h => h.2.1) fun h => h.2.1) (Hst.out.keep hc).ne.2.2.2)
    change Hid (∀ w', Chg NoB w w' → Calls _ _ #[_, .string (tx (keyL W b)), .string (tx b)] w' _) at HP
    have Hpk := Lib.hid hpk
    have Hcase := Lib.hid hcase
    obtain ⟨k, hk⟩ : ∃ k, k = keyL W b := ⟨_, rfl⟩
    rw [← hk] at HP HK Hpk Hcase
    have Hk := Lib.hid hk
    clear hpk hcase h3 hk
    go_enter Try.func11, Try.ntmps11
    go_wp2_with fail
    refine HT.out.mono ?_
    rintro e w2 ⟨rfl, hc2⟩
    have Hc2 := Lib.hid hc2
    clear hc2
    go_wp2_with fail
    refine (HK.out _ Hc2.out).mono ?_
    rintro e w3 ⟨rfl, hc3⟩
    have Hc3 := Lib.hid (Hc2.out.trans hc3)
    have s1 := (var2 (Hst.out.keep Hc3.out).row).2
    clear hc3
    go_wp2_with fail
    refine (HP.out _ Hc3.out).mono ?_
    rintro e w4 ⟨hc4, hrw, rb, rh, rfl, hres⟩
    have hob3 : w3.heap[ob]? = w.heap[ob]? := Hc3.out.block ob Hst.out.row_le.2 id
    have hsz3 := Hc3.out.size
    have hrwN : ∀ k, RowB w4 ob k → RowB w ob k ∨ w.heap.size ≤ k := fun k hk => (hrw k hk).imp (fun h => h.same hob3.symm) fun h => Nat.le_trans hsz3 h
    have Hrw := Lib.hid hrwN
    have hc4 : Chg (PutB ob w) w3 w4 := hc4.mono fun k _ h => h.imp id fun h => h.same hob3.symm
    clear hrw hrwN hob3 hsz3
    have Hc4 := Lib.hid hc4
    have Hres := Lib.hid hres
    clear hc4 hres s1
    go_wp2_with fail
    go_ret2
    have hst3 := Hst.out.keep Hc3.out
    refine ⟨by rw [Hpk.out, ← Hr.out]; rfl, (Hc3.out.mono fun k _ h => h.elim).trans Hc4.out, Hrw.out, ?_⟩
    have hrow : w4.heap[sb]? = some (.cells #[.int .i64 W, .pointer (some ⟨ob, 0, none⟩)] 49 (0, 0)) := row_kept Hc4.out hst3.row (by rintro (h | h); exact hst3.ne.1 h; have := Hst.out.rowB h; have := hst3.ne.2.1; omega)
    have hne : sb ≠ ob ∧ sb < lo ∧ ob < lo ∧ lo ≤ w4.heap.size := ⟨hst3.ne.1, hst3.ne.2.1, hst3.ne.2.2.1, Nat.le_trans hst3.ne.2.2.2 Hc4.out.size⟩
    rcases Hcase.out with ⟨-, hm, hp⟩ | ⟨-, hno, hp, hinv⟩
    · rcases Hres.out with ⟨-, hsh⟩ | ⟨hno, -⟩
      · exact ⟨ps, by rw [hp]; exact Hi.out, hrow, hsh, hne⟩
      · exact absurd rfl (hno _ hm)
    · rcases Hres.out with ⟨hm, -⟩ | ⟨-, hsh⟩
      · exact absurd rfl (hno _ hm)
      · exact ⟨_, by rw [hp]; exact hinv, hrow, hsh, hne⟩
  · have hpk : putK W os b = [] := by unfold putK; rw [if_neg (by rw [← Hr.out]; exact h0)]
    have hpo : putO W os b = os := by unfold putO; rw [if_neg (fun h => h0 (by rw [Hr.out]; exact h.1))]
    have Hpk := Lib.hid hpk
    have Hpo := Lib.hid hpo
    have hne0 : (r == 0) = false := by rw [beq_eq_false_iff_ne]; exact h0
    have hne1 : (r != 0) = true := by simp [bne, hne0]
    clear hpk hpo h3 h0
    go_enter Try.func11, Try.ntmps11
    go_wp2_with fail
    refine HT.out.mono ?_
    rintro e w2 ⟨rfl, hc2⟩
    have Hc2 := Lib.hid hc2
    clear hc2
    go_wp2_with fail
    go_ret2
    have hob2 : w2.heap[ob]? = w.heap[ob]? := Hc2.out.block ob Hst.out.row_le.2 id
    exact ⟨by rw [Hpk.out, ← Hr.out]; rfl, Hc2.out.mono fun k _ h => h.elim, fun k hk => .inl (hk.same hob2.symm), ps, by rw [Hpo.out]; exact Hi.out, Hst.out.keep Hc2.out⟩
end Go.Proofs.Ytbloglfmhhgccaa
