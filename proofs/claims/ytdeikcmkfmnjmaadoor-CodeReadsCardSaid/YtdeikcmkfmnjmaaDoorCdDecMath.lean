/- What the bytes of a program are, in lists: a program that can be written is read back as it is, and what is read is written as these bytes. No condition. -/
import Derived.Test.YtdeikcmkfmnjmaaDoorCdInst
import Derived.Test.YtdeikcmkfmnjmaaDoorCdEnc
import Derived.Test.YtdeikcmkfmnjmaaDoorCdBackP
namespace Go.Proofs.YtdeikcmkfmnjmaaDoor
set_option linter.unusedVariables false
open Go.ChangeShapes Go.WideShapes Go.ChangeAt Go.RowKit
theorem digP_bounds {l : List UInt8} {n : Int} (h : digP l = some n) : (-9223372036854775808 ≤ n ∧ n ≤ 9223372036854775807) ∧ Lib.itoa n = l := by
  unfold digP at h
  split at h
  · rename_i m hm
    split at h
    · rename_i e
      cases h
      exact ⟨Lib.atoiAll_bounds hm, e⟩
    · cases h
  · cases h
theorem atoi_itoa (n : Int) (h0 : -9223372036854775808 ≤ n) (h1 : n ≤ 9223372036854775807) : Lib.atoiAll (Lib.itoa n) = .ok n := by
  by_cases hn : n < 0
  · have hv : (Lib.decDigits n.natAbs).foldl (fun n b => n * 10 + (b.toNat - 48)) 0 = n.natAbs := val_dec _
    have hp := parse_ok (Lib.decDigits n.natAbs) 0 (dec_in _) (by rw [hv]; omega)
    rw [hv] at hp
    unfold Lib.itoa
    rw [if_pos hn, Lib.atoiAll_minus]
    unfold Lib.parseMag
    rw [if_neg (dec_ne _), hp]
    simp only [Lib.signed]
    rw [if_neg (by omega)]
    congr 1
    omega
  · obtain ⟨m, rfl⟩ := Int.eq_ofNat_of_zero_le (by omega : 0 ≤ n)
    have hd := digP_dec m (by omega)
    have hi : Lib.itoa (m : Int) = Lib.decDigits m := by unfold Lib.itoa; rw [if_neg (by omega), Int.toNat_natCast]
    unfold digP at hd
    rw [hi]
    split at hd
    · rename_i k hk
      split at hd
      · cases hd; exact hk
      · cases hd
    · cases hd
theorem digP_itoa (n : Int) (h0 : -9223372036854775808 ≤ n) (h1 : n ≤ 9223372036854775807) : digP (Lib.itoa n) = some n := by
  unfold digP
  rw [atoi_itoa n h0 h1]
  simp
theorem opF_lt (l : List UInt8) : opF l < 31 := by
  unfold opF
  split
  · assumption
  · decide
theorem opF_ok {l : List UInt8} (h : opF l ≠ 0) : wordL (opF l : Int) = l := by
  have hlt := opF_lt l
  rw [wordL_in _ hlt]
  unfold opF at h hlt ⊢
  split at h
  · rename_i hi
    rw [if_pos hi]
    have hb : wordsB.findIdx (fun x => x == l) < wordsB.length := by rw [wordsB_len]; exact hi
    have := List.findIdx_getElem (w := hb)
    rw [List.getD_eq_getElem?_getD, List.getElem?_eq_getElem hb]
    exact eq_of_beq this
  · exact absurd rfl h
theorem atL_atomF (l : List UInt8) : atL (atomF l) = l := by
  show (tx l).data.toList = l
  simp [tx]
theorem nl_leaf (a b : List UInt8) : nlF [atomF a, atomF b] = none := rfl
theorem nl_one (a : List UInt8) : nlF [atomF a] = none := rfl
/- an instruction's list is read as it is -/
theorem inst_node {x : InsL} {size : Int} (hw : x.wf) (h : standsF x size = true) : instF (nodeF x) = (x, true) := by
  obtain ⟨op, n, s⟩ := x
  obtain ⟨⟨o1, o2⟩, ⟨n1, n2⟩, hs⟩ := hw
  simp only at o1 o2 n1 n2 hs
  unfold standsF at h
  simp only at h
  by_cases hwl : wordL op = []
  · rw [if_pos hwl] at h; cases h
  rw [if_neg hwl] at h
  have hin : 1 ≤ op ∧ op < 31 := Classical.byContradiction fun c => hwl ((wordL_nil op).2 c)
  have hop : (opF (wordL op) : Int) = op := opF_wordL op ⟨by omega, hin.2⟩
  have hk : (nodeF ⟨op, n, s⟩).kids = kidsF ⟨op, n, s⟩ := rfl
  by_cases t0 : takesF op = 0
  · rw [if_neg (by omega), if_neg (by omega), if_neg (by omega), if_neg (by omega)] at h
    obtain ⟨rfl, rfl⟩ := of_decide_eq_true h
    have e : kidsF ⟨op, 0, []⟩ = [atomF (wordL op)] := by unfold kidsF; rw [if_pos t0]
    rw [inst_zero (k := atomF (wordL op)) (r := []) (by rw [hk, e]) (by rw [hk, e]; rfl) (by rw [atL_atomF, hop]; exact t0), atL_atomF, hop]
    rfl
  by_cases t2 : takesF op = 2
  · rw [if_neg (by omega), if_pos t2] at h
    obtain ⟨rfl, _⟩ := of_decide_eq_true h
    have e : kidsF ⟨op, 0, s⟩ = [atomF (wordL op), atomF s] := by unfold kidsF; rw [if_neg t0, if_pos t2]
    rw [inst_text (k := atomF (wordL op)) (y := atomF s) (by rw [hk, e]) (by rw [hk, e]; rfl) (by rw [atL_atomF, hop]; exact t2), atL_atomF, atL_atomF, hop]
  · have hs0 : s = [] := by
      rw [if_neg t2] at h
      split at h
      · exact of_decide_eq_true h
      · split at h
        · exact (of_decide_eq_true h).1
        · split at h
          · exact (of_decide_eq_true h).1
          · exact (of_decide_eq_true h).1
    subst hs0
    have e : kidsF ⟨op, n, []⟩ = [atomF (wordL op), atomF (Lib.itoa n)] := by unfold kidsF; rw [if_neg t0, if_neg t2]
    rw [inst_num (k := atomF (wordL op)) (y := atomF (Lib.itoa n)) (m := n) (by rw [hk, e]) (by rw [hk, e]; rfl) (by rw [atL_atomF, hop]; exact t0) (by rw [atL_atomF, hop]; exact t2) (by rw [atL_atomF]; exact digP_itoa n n1 n2), atL_atomF, hop]
theorem nd_leaf {k : Nd} {d : Nat} (h : okN k d = true) (hl : k.leaf = true) : k = atomF (atL k) := by
  obtain ⟨l, a, ks⟩ := k
  have : l = true := hl
  subst this
  rw [okN] at h
  simp only [if_true] at h
  rw [List.isEmpty_iff.1 h]
  unfold atomF atL
  show Nd.mk true a [] = Nd.mk true (tx a.data.toList) []
  rw [tx_back]
theorem nd_list {k : Nd} {d : Nat} (h : okN k d = true) (hk : k.kids ≠ []) : k = .mk false ⟨#[]⟩ k.kids ∧ okL k.kids (d + 1) = true := by
  obtain ⟨l, a, ks⟩ := k
  rw [okN] at h
  cases l with
  | true => simp only [if_true] at h; exact absurd (List.isEmpty_iff.1 h) hk
  | false =>
    simp only [Bool.false_eq_true, if_false, Bool.and_eq_true, decide_eq_true_eq] at h
    refine ⟨?_, h.2⟩
    show Nd.mk false a ks = _
    rw [empty_of_size h.1.1]
    rfl
theorem nl_all {ks : List Nd} (h : (nlF ks).isSome = false) : ∀ k ∈ ks, k.leaf = true := by
  intro k hk
  unfold nlF at h
  have hn : ks.findIdx? (fun n => !n.leaf) = none := by simpa using h
  rw [List.findIdx?_eq_none_iff] at hn
  have := hn k hk
  simpa using this
theorem okL_mem {ks : List Nd} {d : Nat} (h : okL ks d = true) : ∀ k ∈ ks, okN k d = true := by
  induction ks with
  | nil => intro k hk; cases hk
  | cons a r ih =>
    rw [okL, Bool.and_eq_true] at h
    intro k hk
    rcases List.mem_cons.1 hk with rfl | hk
    · exact h.1
    · exact ih h.2 k hk
/- what is read as an instruction is its list -/
theorem node_inst {k : Nd} {d : Nat} {size : Int} (hk : okN k d = true) (h : (instF k).2 = true) (hs : standsF (instF k).1 size = true) : nodeF (instF k).1 = k := by
  by_cases h0 : k.kids = []
  · rw [inst_nil h0] at h; cases h
  obtain ⟨e, hok⟩ := nd_list hk h0
  by_cases hnl : (nlF k.kids).isSome = true
  · rw [inst_nl h0 hnl] at h; cases h
  have hnl : (nlF k.kids).isSome = false := by simpa using hnl
  have hlf := nl_all hnl
  obtain ⟨a, r, har⟩ : ∃ a r, k.kids = a :: r := by
    cases hh : k.kids with
    | nil => exact absurd hh h0
    | cons a r => exact ⟨a, r, rfl⟩
  have hat : ∀ y ∈ k.kids, y = atomF (atL y) := fun y hy => nd_leaf (okL_mem hok y hy) (hlf y hy)
  have ha := hat a (by rw [har]; simp)
  have hop0 : ∀ m s, standsF ⟨(opF (atL a) : Int), m, s⟩ size = true → wordL (opF (atL a) : Int) = atL a := by
    intro m s hst
    apply opF_ok
    intro e0
    rw [e0] at hst
    unfold standsF at hst
    rw [if_pos (show wordL ((0 : Nat) : Int) = [] by decide)] at hst
    cases hst
  by_cases t0 : takesF (opF (atL a)) = 0
  · rw [inst_zero har hnl t0] at h hs ⊢
    have hr : r = [] := of_decide_eq_true h
    rw [e, har, hr]
    unfold nodeF kidsF
    simp only
    rw [if_pos t0, hop0 _ _ hs, ← ha]
  · by_cases hl : r.length = 1
    · obtain ⟨y, rfl⟩ := List.length_eq_one_iff.1 hl
      have hy := hat y (by rw [har]; simp)
      by_cases t2 : takesF (opF (atL a)) = 2
      · rw [inst_text har hnl t2] at h hs ⊢
        rw [e, har]
        unfold nodeF kidsF
        simp only
        rw [if_neg t0, if_pos t2, hop0 _ _ hs, ← ha, ← hy]
      · cases hd : digP (atL y) with
        | none => rw [inst_bad har hnl t0 t2 hd] at h; cases h
        | some m =>
          rw [inst_num har hnl t0 t2 hd] at h hs ⊢
          rw [e, har]
          unfold nodeF kidsF
          simp only
          rw [if_neg t0, if_neg t2, hop0 _ _ hs, (digP_bounds hd).2, ← ha, ← hy]
    · rw [inst_many har hnl t0 hl] at h; cases h
theorem atom_enc {n : Nd} {d : Nat} (h : okN n d = true) : n.atom.size ≤ (encN n).length := by
  obtain ⟨l, a, ks⟩ := n
  have ha : a.data.toList.length = a.size := by simp
  rw [okN] at h
  rw [encN]
  show a.size ≤ _
  cases l with
  | true => simp only [if_true]; unfold atomB; simp only [List.length_append, List.length_cons]; omega
  | false =>
    simp only [Bool.false_eq_true, if_false, Bool.and_eq_true, decide_eq_true_eq] at h
    omega
theorem kid_enc {ks : List Nd} {k : Nd} (h : k ∈ ks) : (encN k).length ≤ (encL ks).length := by
  induction ks with
  | nil => cases h
  | cons a r ih =>
    rw [encL, List.length_append]
    rcases List.mem_cons.1 h with rfl | h
    · omega
    · have := ih h; omega
theorem kids_enc {n k : Nd} {d : Nat} (h : okN n d = true) (hk : k ∈ n.kids) : (encN k).length ≤ (encN n).length ∧ okN k (d + 1) = true := by
  have h0 : n.kids ≠ [] := fun e => by rw [e] at hk; cases hk
  obtain ⟨e, hok⟩ := nd_list h h0
  refine ⟨?_, okL_mem hok k hk⟩
  have := kid_enc hk
  rw [e, encN]
  simp only [Bool.false_eq_true, if_false, List.length_cons, List.length_append]
  omega
theorem len_enc {ks : List Nd} (d : Nat) (h : okL ks d = true) : ks.length ≤ (encL ks).length := by
  have h1 := counts_enc ks d h
  have h2 : ks.length ≤ Nd.counts ks := by
    clear h h1
    induction ks with
    | nil => exact Nat.zero_le _
    | cons a r ih => rw [Nd.counts]; have := Nd.count_pos a; simp only [List.length_cons]; omega
  omega
theorem kidslen_enc {n : Nd} {d : Nat} (h : okN n d = true) : n.kids.length ≤ (encN n).length := by
  by_cases h0 : n.kids = []
  · rw [h0]; exact Nat.zero_le _
  obtain ⟨e, hok⟩ := nd_list h h0
  have := len_enc _ hok
  rw [e, encN]
  simp only [Bool.false_eq_true, if_false, List.length_cons, List.length_append]
  show n.kids.length ≤ _
  omega
theorem inst_wf {k : Nd} {d : Nat} (hk : okN k d = true) (hl : (encN k).length ≤ 65536) : (instF k).1.wf := by
  have hz : InsL.wf insZ := ⟨⟨by decide, by decide⟩, ⟨by decide, by decide⟩, Nat.zero_le _⟩
  by_cases h0 : k.kids = []
  · rw [inst_nil h0]; exact hz
  by_cases hnl : (nlF k.kids).isSome = true
  · rw [inst_nl h0 hnl]; exact hz
  have hnl : (nlF k.kids).isSome = false := by simpa using hnl
  obtain ⟨a, r, har⟩ : ∃ a r, k.kids = a :: r := by
    cases hh : k.kids with
    | nil => exact absurd hh h0
    | cons a r => exact ⟨a, r, rfl⟩
  have hop := opF_lt (atL a)
  have hw : ∀ (m : Int) (s : List UInt8), -9223372036854775808 ≤ m ∧ m ≤ 9223372036854775807 → s.length ≤ 281474976710656 → InsL.wf ⟨(opF (atL a) : Int), m, s⟩ := fun m s h1 h2 => ⟨⟨by show -9223372036854775808 ≤ (opF (atL a) : Int); omega, by show (opF (atL a) : Int) ≤ _; omega⟩, h1, h2⟩
  by_cases t0 : takesF (opF (atL a)) = 0
  · rw [inst_zero har hnl t0]; exact hw 0 [] ⟨by decide, by decide⟩ (Nat.zero_le _)
  by_cases hlr : r.length = 1
  · obtain ⟨y, rfl⟩ := List.length_eq_one_iff.1 hlr
    by_cases t2 : takesF (opF (atL a)) = 2
    · rw [inst_text har hnl t2]
      have hy := kids_enc hk (show y ∈ k.kids by rw [har]; simp)
      have := atom_enc hy.2
      refine hw 0 _ ⟨by decide, by decide⟩ ?_
      have e : (atL y).length = y.atom.size := by simp [atL]
      omega
    · cases hd : digP (atL y) with
      | none => rw [inst_bad har hnl t0 t2 hd]; exact hw 0 [] ⟨by decide, by decide⟩ (Nat.zero_le _)
      | some m => rw [inst_num har hnl t0 t2 hd]; exact hw m [] (digP_bounds hd).1 (Nat.zero_le _)
  · rw [inst_many har hnl t0 hlr]; exact hz
/- a list of instructions out of nodes -/
def instsF : List Nd → Option (List InsL)
  | [] => some []
  | k :: r => if (instF k).2 = true then (instsF r).map ((instF k).1 :: ·) else none
theorem insts_all {ks : List Nd} : instsF ks = if ∀ k ∈ ks, (instF k).2 = true then some (ks.map fun k => (instF k).1) else none := by
  induction ks with
  | nil => simp [instsF]
  | cons a r ih =>
    rw [instsF]
    by_cases ha : (instF a).2 = true
    · rw [if_pos ha, ih]
      by_cases hr : ∀ k ∈ r, (instF k).2 = true
      · rw [if_pos hr, if_pos (by intro k hk; rcases List.mem_cons.1 hk with rfl | hk; exact ha; exact hr k hk)]
        rfl
      · rw [if_neg hr, if_neg (fun h => hr fun k hk => h k (List.mem_cons_of_mem _ hk))]
        rfl
    · rw [if_neg ha, if_neg (fun h => ha (h a (by simp)))]
def cdecF (s : List UInt8) : Except Int (List InsL) := match decR s with
  | .error y => .error y
  | .ok n => match instsF n.kids with
    | none => .error 5
    | some ps => if (checkF ps).2 = 0 then .ok ps else .error 5
theorem cdecF_ok {s : List UInt8} {ps : List InsL} (h : cdecF s = .ok ps) : decR s = .ok (progF ps) ∧ (checkF ps).2 = 0 ∧ ∀ x ∈ ps, x.wf := by
  unfold cdecF at h
  split at h
  · cases h
  · rename_i n hn
    obtain ⟨hl, hs, hok⟩ := decR_ok hn
    split at h
    · cases h
    · rename_i qs hq
      split at h
      · rename_i hc
        cases h
        rw [insts_all] at hq
        split at hq
        · rename_i hall
          cases hq
          have h0 : n.kids ≠ [] := by
            intro e
            rw [e] at hc
            revert hc
            decide
          obtain ⟨e, hokL⟩ := nd_list hok h0
          obtain ⟨_, hst⟩ := check_ok hc
          have hnode : ∀ k ∈ n.kids, nodeF (instF k).1 = k := by
            intro k hk
            obtain ⟨i, hi, rfl⟩ := List.getElem_of_mem hk
            have := hst i (by simpa using hi)
            rw [List.getElem_map] at this
            exact node_inst (okL_mem hokL _ (List.getElem_mem hi)) (hall _ (List.getElem_mem hi)) this
          refine ⟨?_, hc, ?_⟩
          · rw [hn]
            congr 1
            rw [e]
            unfold progF
            congr 1
            rw [List.map_map]
            show n.kids = _
            conv => lhs; rw [← List.map_id n.kids]
            exact List.map_congr_left fun k hk => (hnode k hk).symm
          · intro x hx
            obtain ⟨k, hk, rfl⟩ := List.mem_map.1 hx
            have hke := kids_enc hok hk
            exact inst_wf hke.2 (by rw [← hs] at hke; omega)
        · cases hq
      · cases h
theorem cdecF_of {s : List UInt8} {ps : List InsL} (h : decR s = .ok (progF ps)) (hc : (checkF ps).2 = 0) (hw : ∀ x ∈ ps, x.wf) : cdecF s = .ok ps := by
  unfold cdecF
  rw [h]
  simp only
  obtain ⟨_, hst⟩ := check_ok hc
  have hi : ∀ x ∈ ps, instF (nodeF x) = (x, true) := by
    intro x hx
    obtain ⟨i, hi, rfl⟩ := List.getElem_of_mem hx
    exact inst_node (hw _ hx) (hst i hi)
  have hk : (progF ps).kids = ps.map nodeF := rfl
  rw [insts_all, hk, if_pos (by
    intro k hk
    obtain ⟨x, hx, rfl⟩ := List.mem_map.1 hk
    rw [hi x hx])]
  have hm : (ps.map nodeF).map (fun k => (instF k).1) = ps := by
    rw [List.map_map]
    conv => rhs; rw [← List.map_id ps]
    exact List.map_congr_left fun x hx => by show (instF (nodeF x)).1 = x; rw [hi x hx]
  rw [hm]
  simp only
  rw [if_pos hc]
theorem cdecF_err {s : List UInt8} {y : Int} (h : cdecF s = .error y) : 0 < y ∧ y < 10 := by
  unfold cdecF at h
  split at h
  · rename_i e he
    cases h
    exact decR_err he
  · split at h
    · cases h; decide
    · split at h
      · cases h
      · cases h; decide
theorem encO_ok {r : Except Int (List UInt8)} {s : ByteArray} (h : encO r = (s, 0)) (hr : ∀ e, r = .error e → e ≠ 0) : ∃ l, r = .ok l ∧ s = tx l := by
  cases r with
  | error e => simp only [encO, Prod.mk.injEq] at h; exact absurd h.2 (hr e rfl)
  | ok l => simp only [encO, Prod.mk.injEq] at h; exact ⟨l, rfl, h.1.symm⟩
end Go.Proofs.YtdeikcmkfmnjmaaDoor
