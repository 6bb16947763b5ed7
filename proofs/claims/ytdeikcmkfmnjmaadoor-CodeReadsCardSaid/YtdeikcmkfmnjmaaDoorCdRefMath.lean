/- What the document reads as a program, in lists. Condition: of Atoi, that the library variables read as listed. -/
import Derived.Test.YtdeikcmkfmnjmaaDoorCdDec
import Derived.Test.YtdeikcmkfmnjmaaDoorSxDecT
import Derived.Test.YtdeikcmkfmnjmaaDoorSxSameN
import Derived.Test.YtdeikcmkfmnjmaaDoorCdRef
import Derived.Test.YtdeikcmkfmnjmaaDoorCdGreat
import Derived.Deep.RegionHeld3
namespace Go.Proofs.YtdeikcmkfmnjmaaDoor
set_option linter.unusedVariables false
open Go.ChangeShapes Go.WideShapes Go.ChangeAt Go.RowKit
def atoiV (l : List UInt8) : Int := match Lib.atoiAll l with
  | .ok n => n
  | .range => Lib.atoiSat l
  | _ => 0
def AtoiP (l : List UInt8) (w : World) (e : Ending) (w' : World) : Prop := Chg NoB w w' ∧ ∃ ev : Value, e = .returned (.tuple #[.int .i64 (atoiV l), ev])
theorem atoiV_in (l : List UInt8) : -9223372036854775808 ≤ atoiV l ∧ atoiV l ≤ 9223372036854775807 := by
  unfold atoiV
  cases h : Lib.atoiAll l with
  | ok n => exact Lib.atoiAll_bounds h
  | range => unfold Lib.atoiSat; simp only; split <;> decide
  | _ => exact ⟨by show (-9223372036854775808 : Int) ≤ 0; decide, by show (0 : Int) ≤ 9223372036854775807; decide⟩
theorem atoi_say {l : List UInt8} {n : Int} {ev : Value} {e : Ending} (hn : atoiV l = n) (he : e = .returned (.tuple #[.int .i64 n, ev])) : ∃ ev, e = .returned (.tuple #[.int .i64 (atoiV l), ev]) := ⟨ev, by rw [he, hn]⟩
theorem atoiV_itoa (n : Int) (h0 : -9223372036854775808 ≤ n) (h1 : n ≤ 9223372036854775807) : atoiV (Lib.itoa n) = n := by
  unfold atoiV
  rw [atoi_itoa n h0 h1]
theorem atoi_any (s : ByteArray) (base : Nat) (w : World) (h : Lb base w) (hs : s.size ≤ 281474976710656) : Calls Tryd.prog 36 #[.string s] w (AtoiP s.data.toList w) := by
  cases ha : Lib.atoiAll s.data.toList with
  | ok n =>
    refine (Tryd.strconv_Atoi_ok s (by omega) n ha w).mono fun e w' ⟨he, hw⟩ => ⟨?_, atoi_say (by unfold atoiV; rw [ha]) he⟩
    rcases hw with rfl | ⟨t, rfl⟩
    · exact Chg.refl _ _
    · exact chg_of_below (Lib.bytesWorld_below _ _ _)
  | range =>
    obtain ⟨tp, p, hv⟩ := h.rng
    refine (Tryd.strconv_Atoi_range_var s hs ha tp p w (hv w (Below.refl _ _))).mono fun e w' ⟨M, he, _, _, g⟩ => ⟨chg_of_below g, atoi_say (by unfold atoiV; rw [ha]) he⟩
  | _ =>
    obtain ⟨tp, p, hv⟩ := h.syn
    refine (Tryd.strconv_Atoi_bad_var s hs (by rw [ha]; intro h; cases h) (fun v => by rw [ha]; intro h; cases h) tp p w (hv w (Below.refl _ _))).mono fun e w' ⟨M, he, _, _, g⟩ => ⟨chg_of_below g, atoi_say (by unfold atoiV; rw [ha]) he⟩
def rinstF (n : Nd) : InsL := match n.kids with
  | [] => insZ
  | k :: [] => ⟨opF (atL k), 0, []⟩
  | k :: y :: _ => if takesF (opF (atL k)) = 2 then ⟨opF (atL k), 0, atL y⟩ else ⟨opF (atL k), atoiV (atL y), []⟩
theorem rinst_one {n k : Nd} (h : n.kids = [k]) : rinstF n = ⟨opF (atL k), 0, []⟩ := by unfold rinstF; rw [h]
theorem rinst_text {n k y : Nd} {r : List Nd} (h : n.kids = k :: y :: r) (h2 : takesF (opF (atL k)) = 2) : rinstF n = ⟨opF (atL k), 0, atL y⟩ := by unfold rinstF; rw [h]; simp only; rw [if_pos h2]
theorem rinst_num {n k y : Nd} {r : List Nd} (h : n.kids = k :: y :: r) (h2 : takesF (opF (atL k)) ≠ 2) : rinstF n = ⟨opF (atL k), atoiV (atL y), []⟩ := by unfold rinstF; rw [h]; simp only; rw [if_neg h2]
/- an instruction's list is read as it is by the document, too -/
theorem rinst_node {x : InsL} {size : Int} (hw : x.wf) (h : standsF x size = true) : rinstF (nodeF x) = x := by
  obtain ⟨op, n, s⟩ := x
  obtain ⟨⟨o1, o2⟩, ⟨n1, n2⟩, hs⟩ := hw
  simp only at o1 o2 n1 n2 hs
  unfold standsF at h
  simp only at h
  by_cases hwl : wordL op = []
  · rw [if_pos hwl] at h; cases h
  rw [if_neg hwl] at h
  have hin : 1 ≤ op ∧ op < 31 := Classical.byContradiction fun c => hwl ((wordL_nil op).2 c)
  have hop : (opF (wordL op) : Int) = op := opF_wordL op ⟨by omega, hin.2⟩
  have hk : (nodeF ⟨op, n, s⟩).kids = kidsF ⟨op, n, s⟩ := rfl
  by_cases t0 : takesF op = 0
  · rw [if_neg (by omega), if_neg (by omega), if_neg (by omega), if_neg (by omega)] at h
    obtain ⟨rfl, rfl⟩ := of_decide_eq_true h
    have e : kidsF ⟨op, 0, []⟩ = [atomF (wordL op)] := by unfold kidsF; rw [if_pos t0]
    rw [rinst_one (k := atomF (wordL op)) (by rw [hk, e]), atL_atomF, hop]
  by_cases t2 : takesF op = 2
  · rw [if_neg (by omega), if_pos t2] at h
    obtain ⟨rfl, _⟩ := of_decide_eq_true h
    have e : kidsF ⟨op, 0, s⟩ = [atomF (wordL op), atomF s] := by unfold kidsF; rw [if_neg t0, if_pos t2]
    rw [rinst_text (k := atomF (wordL op)) (y := atomF s) (r := []) (by rw [hk, e]) (by rw [atL_atomF, hop]; exact t2), atL_atomF, atL_atomF, hop]
  · have hs0 : s = [] := by
      rw [if_neg t2] at h
      split at h
      · exact of_decide_eq_true h
      · split at h
        · exact (of_decide_eq_true h).1
        · split at h
          · exact (of_decide_eq_true h).1
          · exact (of_decide_eq_true h).1
    subst hs0
    have e : kidsF ⟨op, n, []⟩ = [atomF (wordL op), atomF (Lib.itoa n)] := by unfold kidsF; rw [if_neg t0, if_neg t2]
    rw [rinst_num (k := atomF (wordL op)) (y := atomF (Lib.itoa n)) (r := []) (by rw [hk, e]) (by rw [atL_atomF, hop]; exact t2), atL_atomF, atL_atomF, hop, atoiV_itoa n n1 n2]
theorem rinst_wf {k : Nd} {d : Nat} (hk : okN k d = true) (hl : (encN k).length ≤ 65536) : (rinstF k).wf := by
  have hw : ∀ (a : Nd) (m : Int) (s : List UInt8), -9223372036854775808 ≤ m ∧ m ≤ 9223372036854775807 → s.length ≤ 281474976710656 → InsL.wf ⟨(opF (atL a) : Int), m, s⟩ := fun a m s h1 h2 => by
    have := opF_lt (atL a)
    exact ⟨⟨by show -9223372036854775808 ≤ (opF (atL a) : Int); omega, by show (opF (atL a) : Int) ≤ _; omega⟩, h1, h2⟩
  match h : k.kids with
  | [] =>
    unfold rinstF
    rw [h]
    exact ⟨⟨by decide, by decide⟩, ⟨by decide, by decide⟩, Nat.zero_le _⟩
  | [a] => rw [rinst_one h]; exact hw a 0 [] ⟨by decide, by decide⟩ (Nat.zero_le _)
  | a :: y :: r =>
    by_cases t2 : takesF (opF (atL a)) = 2
    · rw [rinst_text h t2]
      have hy := kids_enc hk (show y ∈ k.kids by rw [h]; simp)
      have := atom_enc hy.2
      refine hw a 0 _ ⟨by decide, by decide⟩ ?_
      have e : (atL y).length = y.atom.size := by simp [atL]
      omega
    · rw [rinst_num h t2]
      exact hw a _ [] (atoiV_in _) (Nat.zero_le _)
def rfirsts (ks : List Nd) : List InsL := ks.map rinstF
theorem rfirsts_take (ks : List Nd) (k : Nat) (h : k < ks.length) : rfirsts (ks.take (k + 1)) = rfirsts (ks.take k) ++ [rinstF ks[k]] := by
  unfold rfirsts
  rw [List.take_add_one, List.getElem?_eq_getElem h, List.map_append]; rfl
theorem rfirsts_len (ks : List Nd) : (rfirsts ks).length = ks.length := by simp [rfirsts]
/- where the document refuses, so does the program -/
theorem cdecF_five {s : List UInt8} {n : Nd} (h : decR s = .ok n) (hn : ∀ ps, cdecF s = .ok ps → False) : cdecF s = .error 5 := by
  cases hc : cdecF s with
  | ok ps => exact (hn ps hc).elim
  | error y =>
    unfold cdecF at hc
    rw [h] at hc
    simp only at hc
    split at hc
    · exact hc.symm
    · split at hc
      · cases hc
      · exact hc.symm
theorem cdecF_is {s : List UInt8} {n : Nd} {ps : List InsL} (h : decR s = .ok n) (hc : cdecF s = .ok ps) : n = progF ps ∧ (checkF ps).2 = 0 ∧ rfirsts n.kids = ps := by
  obtain ⟨h1, h2, h3⟩ := cdecF_ok hc
  rw [h] at h1
  cases h1
  refine ⟨rfl, h2, ?_⟩
  obtain ⟨_, hst⟩ := check_ok h2
  show rfirsts (ps.map nodeF) = ps
  unfold rfirsts
  rw [List.map_map]
  conv => rhs; rw [← List.map_id ps]
  refine List.map_congr_left fun x hx => ?_
  obtain ⟨i, hi, rfl⟩ := List.getElem_of_mem hx
  exact rinst_node (h3 _ hx) (hst i hi)
theorem cdecF_kid {s : List UInt8} {n k : Nd} (h : decR s = .ok n) (hk : k ∈ n.kids) (h0 : k.kids = []) : cdecF s = .error 5 := cdecF_five h fun ps hc => by
  obtain ⟨rfl, _, _⟩ := cdecF_is h hc
  obtain ⟨x, _, rfl⟩ := List.mem_map.1 (show k ∈ ps.map nodeF from hk)
  have h1 : kidsF x = [] := h0
  unfold kidsF at h1
  split at h1
  · cases h1
  · split at h1 <;> cases h1
theorem cdecF_many {s : List UInt8} {n : Nd} (h : decR s = .ok n) (hl : 256 < n.kids.length) : cdecF s = .error 5 := cdecF_five h fun ps hc => by
  obtain ⟨_, h2, h3⟩ := cdecF_is h hc
  have := (check_ok h2).1.2
  rw [← h3, rfirsts_len] at this
  omega
theorem cdecF_bad {s : List UInt8} {n : Nd} (h : decR s = .ok n) (hc : (checkF (rfirsts n.kids)).2 ≠ 0) : cdecF s = .error 5 := cdecF_five h fun ps h1 => by
  obtain ⟨_, h2, h3⟩ := cdecF_is h h1
  rw [h3] at hc
  exact hc h2
theorem cdecF_other {s : List UInt8} {n : Nd} (h : decR s = .ok n) (hc : n ≠ progF (rfirsts n.kids)) : cdecF s = .error 5 := cdecF_five h fun ps h1 => by
  obtain ⟨h0, _, h3⟩ := cdecF_is h h1
  rw [h3] at hc
  exact hc h0
end Go.Proofs.YtdeikcmkfmnjmaaDoor
