/- The contracts of the reading of digits and of the splitting. Conditions: the library's table of powers of ten and its error read as laid. -/
import Derived.Test.YtnipiphhkcafhaaGreatDoorVerLow
import Derived.Test.YtnipiphhkcafhaaGreatDoorShelf
import Derived.Lib.AtoiBound
namespace Go.Proofs.YtnipiphhkcafhaaGreatDoor.Ver
set_option linter.unusedVariables false
open Go.ChangeShapes Go.WideShapes Go.ChangeAt Go.RowKit Go.Sort
theorem gSyn : Tryz.prog.globalNamed "strconv.ErrSyntax" = some 2 := by kernel_rfl
def Er (w : World) : Prop := ∃ tp p, w.var? Tryz.prog "strconv.ErrSyntax" = some #[.iface tp p]
theorem Er.keep {w w' : World} (h : Er w) (g : Gr w w') : Er w' := by
  obtain ⟨tp, p, h⟩ := h
  exact ⟨tp, p, Joins.var_stays gSyn h g (Nat.le_refl _)⟩
theorem digits_none (s : ByteArray) (w : World) (hl : s.size ≤ 18) (h : digR s.data.toList = none) (he : Er w) (ht : Tb w) : Calls Tryz.prog 48 #[.string s] w (Digits 0 false w) := by
  obtain ⟨tp, p, hv⟩ := he
  unfold digR at h
  cases ha : Lib.atoi s.data.toList with
  | none =>
    have hc := Tryz.strconv_Atoi_err_var s hl ha tp p w hv
    have Hc := Lib.hid hc
    clear hc ha hv h
    go_enter Tryz.func48, Tryz.ntmps48
    go_wp2_with fail
    refine Hc.out.mono ?_
    rintro e w1 ⟨N, rfl, _, _, g⟩
    have G := Lib.hid (show Gr w w1 from g)
    clear g
    go_wp2_with fail
    go_ret2
    exact ⟨rfl, G.out⟩
  | some n =>
    rw [ha] at h
    simp only at h
    have hne : ¬ Lib.itoa n = s.data.toList := fun e => by rw [if_pos e] at h; cases h
    have hx : (!Lib.itoa n == s.toList) = true := by rw [Lib.toList_data]; simp [hne]
    have hbn := Lib.atoi_bound ha (by simpa using hl)
    clear h hne
    go_enter Tryz.func48, Tryz.ntmps48
    go_wp2_with fail
    refine (atoi_gr s n hl ha w).mono ?_
    rintro e w1 ⟨rfl, hg⟩
    have G := Lib.hid hg
    clear hg
    go_wp2_with fail
    refine (itoa_gr n (by omega) (by omega) _ (ht.keep G.out)).mono ?_
    rintro e w2 ⟨rfl, hg2⟩
    have G2 := Lib.hid hg2
    clear hg2
    go_wp2_with fail
    go_ret2
    exact ⟨rfl, grown_trans G.out G2.out⟩
theorem digits_some (s : ByteArray) (n : Int) (w : World) (hl : s.size ≤ 18) (h : digR s.data.toList = some n) (ht : Tb w) : Calls Tryz.prog 48 #[.string s] w (Digits n true w) := by
  unfold digR at h
  cases ha : Lib.atoi s.data.toList with
  | none => rw [ha] at h; cases h
  | some m =>
    rw [ha] at h
    simp only at h
    split at h
    · rename_i hx
      cases h
      have hbn := Lib.atoi_bound ha (by simpa using hl)
      have hy : (ByteArray.mk (Lib.itoa n).toArray) = s := by rw [hx]
      have Hy := Lib.hid hy
      clear hx hy
      go_enter Tryz.func48, Tryz.ntmps48
      go_wp2_with fail
      refine (atoi_gr s n hl ha w).mono ?_
      rintro e w1 ⟨rfl, hg⟩
      have G := Lib.hid hg
      clear hg
      go_wp2_with fail
      refine (itoa_gr n (by omega) (by omega) _ (ht.keep G.out)).mono ?_
      rintro e w2 ⟨rfl, hg2⟩
      rw [Hy.out]
      have G2 := Lib.hid hg2
      clear hg2
      go_wp2_with fail
      go_ret2
      exact ⟨rfl, grown_trans G.out G2.out⟩
    · cases h
theorem split_any (s : ByteArray) (m : Int) (w : World) (hs : s.size ≤ 65536) (hm : w.cell? ⟨1, 0, none⟩ = some (.int .i64 m)) :
    Calls Tryz.prog 47 #[.string s, .string ⟨#[46]⟩] w fun e w' => ∃ ps : List ByteArray, ps.map (·.data.toList) = pcs 46 s.data.toList ∧ Sp ps w e w' := by
  refine (Tryz.strings_Split s ⟨#[46]⟩ m w (by omega) hm (by decide)).mono fun e w' ⟨q1, q2⟩ => ?_
  obtain ⟨e1, e2⟩ := split_pcs 46 _ s.data.toList (Nat.le_refl _)
  refine ⟨Lib.splitB ⟨#[46]⟩ 0 (Lib.countB s ⟨#[46]⟩) s, ?_, ?_⟩
  · rw [Lib.splitB_data]; exact e1
  · have hl : (Lib.splitB ⟨#[46]⟩ 0 (Lib.countB s ⟨#[46]⟩) s).length = Lib.countB s ⟨#[46]⟩ + 1 := Lib.splitB_all _ (by decide) 0 _ s rfl
    refine ⟨?_, q2⟩
    rw [q1, hl]
end Go.Proofs.YtnipiphhkcafhaaGreatDoor.Ver
namespace Go.Proofs.YtnipiphhkcafhaaGreatDoor.Ver
set_option linter.unusedVariables false
open Go.ChangeShapes Go.WideShapes Go.ChangeAt Go.RowKit Go.Sort
def partI (l : List UInt8) : Int := if okP l then (val l : Int) else -1
def Pa (x : Int) (w : World) (e : Ending) (w' : World) : Prop := e = .returned (.int .i64 x) ∧ w' = w
theorem byte_ne {a b : UInt8} (h : ¬ a = b) : ((a.toNat : Int) == (b.toNat : Int)) = false := by
  rw [beq_eq_false_iff_ne]; intro e; exact h (UInt8.toNat_inj.1 (by omega))
theorem eq_mk (s : ByteArray) (l : List UInt8) (h : s.data.toList = l) : s = ⟨l.toArray⟩ := by
  apply ByteArray.ext; apply Array.ext'; exact h
theorem okP_head {s : ByteArray} (h0 : 0 < s.size) (hh : s[0] = 48) (hl : 1 < s.size) : okP s.data.toList = false := by
  cases h : okP s.data.toList with
  | false => rfl
  | true =>
    have := (okP_parts h).2.2.2 (by
      have e : s.data.toList[0]? = some s[0] := by rw [List.getElem?_eq_getElem (by simpa using h0)]; rfl
      rw [List.head?_eq_getElem?, e, hh])
    have hs : s.data.toList.length = s.size := by simp
    omega
theorem okP_bad {s : ByteArray} {k : Nat} (hk : k < s.size) (h : ¬ (48 ≤ s[k].toNat ∧ s[k].toNat ≤ 57)) : okP s.data.toList = false := by
  cases h' : okP s.data.toList with
  | false => rfl
  | true => exact absurd ((okP_parts h').2.2.1 s[k] (by
      have : s.data.toList[k]'(by simpa using hk) ∈ s.data.toList := List.getElem_mem _
      exact this)) h
theorem part_no {l : List UInt8} (h : okP l = false) : partI l = -1 := by unfold partI; rw [h]; rfl
theorem part_yes {l : List UInt8} (h : okP l = true) : partI l = val l := by unfold partI; rw [h]; rfl
def AllD (l : List UInt8) : Prop := ∀ b ∈ l, 48 ≤ b.toNat ∧ b.toNat ≤ 57
theorem val_lt (l : List UInt8) (h : AllD l) : val l < 10 ^ l.length := by
  refine rev_ind (p := fun l => AllD l → val l < 10 ^ l.length) (fun _ => by simp [val]) (fun l b ih hd => ?_) l h
  have h1 := ih (fun x hx => hd x (List.mem_append_left _ hx))
  have h2 := hd b (by simp)
  rw [val_snoc, List.length_append, List.length_singleton, Nat.pow_succ]
  omega
set_option maxHeartbeats 1000000 in
set_option maxRecDepth 10000 in
theorem part_loop (s : ByteArray) (w : World) (h0 : 0 < s.size) (h3 : s.size ≤ 3) (hz : ¬ (s[0] = 48 ∧ 1 < s.size)) : Calls Tryz.prog 32 #[.string s] w (Pa (partI s.data.toList) w) := by
  have hsl : s.data.toList.length = s.size := by simp
  have e1 : (s.toList == []) = false := by
    rw [Lib.toList_data]
    cases hl : s.data.toList with
    | nil => rw [hl] at hsl; simp at hsl; omega
    | cons a b => rfl
  have Hsl := Lib.hid hsl
  have Hok : AllD s.data.toList → okP s.data.toList = true := fun hd => by
    have hne : s.data.toList.isEmpty = false := by
      cases hl : s.data.toList with
      | nil => rw [hl] at hsl; simp at hsl; omega
      | cons a b => rfl
    have hall : s.data.toList.all (fun b => decide (48 ≤ b.toNat ∧ b.toNat ≤ 57)) = true := by
      rw [List.all_eq_true]; intro b hb; simpa using hd b hb
    have hlast : (decide (s.data.toList.head? ≠ some 48) || decide (s.data.toList.length = 1)) = true := by
      have e : s.data.toList.head? = some s[0] := by
        rw [List.head?_eq_getElem?, List.getElem?_eq_getElem (by simpa using h0)]; rfl
      rw [e, hsl]
      by_cases hh : s[0] = 48
      · have : s.size = 1 := by
          have : ¬ 1 < s.size := fun e => hz ⟨hh, e⟩
          omega
        rw [this]; simp
      · simp [hh]
    unfold okP
    rw [hne, hall, hlast, hsl, decide_eq_true h3]
    rfl
  have hcase : ¬ ((s[0]).toNat : Int) = 48 ∨ (((s[0]).toNat : Int) = 48 ∧ (s.size : Int) ≤ 1) := by
    by_cases hh : ((s[0]).toNat : Int) = 48
    · right
      refine ⟨hh, ?_⟩
      have h48 : s[0] = 48 := UInt8.toNat_inj.1 (by rw [show (48 : UInt8).toNat = 48 from rfl]; omega)
      have : ¬ 1 < s.size := fun e => hz ⟨h48, e⟩
      omega
    · exact .inl hh
  clear hz hsl
  rcases hcase with hh | ⟨hh, hs1⟩
  ·   go_enter Tryz.func32, Tryz.ntmps32
      go_wp2_with fail
      go_loop [3, 4] (fun n i => ∃ k : Nat, k ≤ s.size ∧ i = .int .i64 k ∧ n = .int .i64 (val (s.data.toList.take k) : Nat) ∧ AllD (s.data.toList.take k)) (fun _ i => s.size - (intOf i).toNat)
      case atStart => exact ⟨0, by omega, rfl, rfl, by intro b hb; simp at hb⟩
      case round =>
        obtain ⟨k, hk, rfl, rfl, hd⟩ := hrel
        have hvl := val_lt _ hd
        have hlk : (s.data.toList.take k).length = k := by rw [List.length_take, Hsl.out]; omega
        have hv : val (s.data.toList.take k) < 1000 := by
          rw [hlk] at hvl
          exact Nat.lt_of_lt_of_le hvl (show 10 ^ k ≤ 10 ^ 3 from Nat.pow_le_pow_right (by omega) (show k ≤ 3 by omega))
        have Hd := Lib.hid hd
        clear hd hvl hlk
        by_cases hlt : k < s.size
        · have hmore := Lib.hid (take_more s k hlt)
          by_cases hlo : (48 : Int) ≤ ((s[k]).toNat : Int)
          · by_cases hhi : ((s[k]).toNat : Int) ≤ 57
            · have hw8 : IntKind.u8.wrap (((s[k]).toNat : Int) - 48) = ((s[k]).toNat : Int) - 48 := by rw [IntKind.wrap_u8]; omega
              go_wp2_with fail
              go_round
              case rel =>
                refine ⟨k + 1, by omega, by go_num, ?_, ?_⟩
                · rw [hmore.out, val_snoc]
                  go_num
                · rw [hmore.out]
                  intro b hb
                  rcases List.mem_append.1 hb with hb | hb
                  · exact Hd.out b hb
                  · simp at hb; subst hb; omega
              case measure => simp [intOf]; omega
            · have hb := okP_bad hlt (by omega)
              go_wp2_with fail
              go_ret
              exact ⟨ret_i64 (part_no hb).symm, rfl⟩
          · have hb := okP_bad hlt (by omega)
            go_wp2_with fail
            go_ret
            exact ⟨ret_i64 (part_no hb).symm, rfl⟩
        · obtain rfl : k = s.size := by omega
          have hall : s.data.toList.take s.size = s.data.toList := List.take_of_length_le (by simp)
          rw [hall] at hv Hd ⊢
          have hok := Hok Hd.out
          have Hok2 := Lib.hid hok
          clear hok
          go_wp2_with fail
          go_ret
          exact ⟨ret_i64 (part_yes Hok2.out).symm, rfl⟩
  ·   go_enter Tryz.func32, Tryz.ntmps32
      go_wp2_with fail
      go_loop [3, 4] (fun n i => ∃ k : Nat, k ≤ s.size ∧ i = .int .i64 k ∧ n = .int .i64 (val (s.data.toList.take k) : Nat) ∧ AllD (s.data.toList.take k)) (fun _ i => s.size - (intOf i).toNat)
      case atStart => exact ⟨0, by omega, rfl, rfl, by intro b hb; simp at hb⟩
      case round =>
        obtain ⟨k, hk, rfl, rfl, hd⟩ := hrel
        have hvl := val_lt _ hd
        have hlk : (s.data.toList.take k).length = k := by rw [List.length_take, Hsl.out]; omega
        have hv : val (s.data.toList.take k) < 1000 := by
          rw [hlk] at hvl
          exact Nat.lt_of_lt_of_le hvl (show 10 ^ k ≤ 10 ^ 3 from Nat.pow_le_pow_right (by omega) (show k ≤ 3 by omega))
        have Hd := Lib.hid hd
        clear hd hvl hlk
        by_cases hlt : k < s.size
        · have hmore := Lib.hid (take_more s k hlt)
          by_cases hlo : (48 : Int) ≤ ((s[k]).toNat : Int)
          · by_cases hhi : ((s[k]).toNat : Int) ≤ 57
            · have hw8 : IntKind.u8.wrap (((s[k]).toNat : Int) - 48) = ((s[k]).toNat : Int) - 48 := by rw [IntKind.wrap_u8]; omega
              go_wp2_with fail
              go_round
              case rel =>
                refine ⟨k + 1, by omega, by go_num, ?_, ?_⟩
                · rw [hmore.out, val_snoc]
                  go_num
                · rw [hmore.out]
                  intro b hb
                  rcases List.mem_append.1 hb with hb | hb
                  · exact Hd.out b hb
                  · simp at hb; subst hb; omega
              case measure => simp [intOf]; omega
            · have hb := okP_bad hlt (by omega)
              go_wp2_with fail
              go_ret
              exact ⟨ret_i64 (part_no hb).symm, rfl⟩
          · have hb := okP_bad hlt (by omega)
            go_wp2_with fail
            go_ret
            exact ⟨ret_i64 (part_no hb).symm, rfl⟩
        · obtain rfl : k = s.size := by omega
          have hall : s.data.toList.take s.size = s.data.toList := List.take_of_length_le (by simp)
          rw [hall] at hv Hd ⊢
          have hok := Hok Hd.out
          have Hok2 := Lib.hid hok
          clear hok
          go_wp2_with fail
          go_ret
          exact ⟨ret_i64 (part_yes Hok2.out).symm, rfl⟩
theorem part_any (s : ByteArray) (w : World) : Calls Tryz.prog 32 #[.string s] w (Pa (partI s.data.toList) w) := by
  have hsl : s.data.toList.length = s.size := by simp
  by_cases h0 : 0 < s.size
  · by_cases h3 : s.size ≤ 3
    · by_cases hz : s[0] = 48 ∧ 1 < s.size
      · rw [part_no (okP_head h0 hz.1 hz.2)]
        have e1 : (s.toList == []) = false := by
          rw [Lib.toList_data]
          cases hl : s.data.toList with
          | nil => rw [hl] at hsl; simp at hsl; omega
          | cons a b => rfl
        have hh : ((s[0]).toNat : Int) = 48 := by rw [hz.1]; rfl
        have hs1 : (1 : Int) < (s.size : Int) := by omega
        clear hz hsl
        go_enter Tryz.func32, Tryz.ntmps32
        go_wp2_with fail
        go_ret
        exact ⟨rfl, rfl⟩
      · exact part_loop s w h0 h3 hz
    · have hb : okP s.data.toList = false := by
        cases h : okP s.data.toList with
        | false => rfl
        | true => have := (okP_parts h).2.1; omega
      rw [part_no hb]
      have e1 : (s.toList == []) = false := by
        rw [Lib.toList_data]
        cases hl : s.data.toList with
        | nil => rw [hl] at hsl; simp at hsl; omega
        | cons a b => rfl
      have hs1 : (3 : Int) < (s.size : Int) := by omega
      clear hsl hb
      go_enter Tryz.func32, Tryz.ntmps32
      go_wp2_with fail
      go_ret
      exact ⟨rfl, rfl⟩
  · have hnil : s.data.toList = [] := List.eq_nil_of_length_eq_zero (by omega)
    have hs := eq_mk s [] hnil
    subst hs
    rw [part_no (by rfl)]
    clear hnil hsl h0
    go_enter Tryz.func32, Tryz.ntmps32
    go_wp2_with fail
    go_ret
    exact ⟨rfl, rfl⟩
end Go.Proofs.YtnipiphhkcafhaaGreatDoor.Ver
namespace Go.Proofs.YtnipiphhkcafhaaGreatDoor.Ver
set_option linter.unusedVariables false
open Go.ChangeShapes Go.WideShapes Go.ChangeAt Go.RowKit Go.Sort
def ParseT (x y z f : Int) (w : World) (e : Ending) (w' : World) : Prop := e = .returned (.tuple #[.agg #[.int .i64 x, .int .i64 y, .int .i64 z], .int .i64 f]) ∧ Gr w w'
structure U (w w' : World) (A B C : ByteArray) (x y z : Int) : Prop where
  a : w'.heap[w.heap.size]? = some (.cells #[.int .i64 0, .int .i64 0, .int .i64 0] 24 (0, 0))
  b : w'.heap[w.heap.size + 1]? = some (.cells #[.int .i64 x, .int .i64 y, .int .i64 z] 24 (0, 0))
  c : w'.heap[w.heap.size + 1 + 1]? = some (.cells #[.string A, .string B, .string C] 9 (0, 0))
  g : Gr w w'
theorem U.gr {w w1 w2 : World} {A B C : ByteArray} {x y z : Int} (h : U w w1 A B C x y z) (g : Gr w1 w2) : U w w2 A B C x y z := ⟨g.heap h.a, g.heap h.b, g.heap h.c, grown_trans h.g g⟩
theorem U.s0 {w w1 : World} {A B C : ByteArray} {x y z : Int} (h : U w w1 A B C x y z) (u : Int) : U w (w1.setCell ⟨w.heap.size + 1, 0, none⟩ (.int .i64 u)) A B C u y z :=
  ⟨set3_other h.a (by omega) _, set3_0 h.b _, set3_other h.c (by omega) _, h.g.set (by omega) _⟩
theorem U.s1 {w w1 : World} {A B C : ByteArray} {x y z : Int} (h : U w w1 A B C x y z) (u : Int) : U w (w1.setCell ⟨w.heap.size + 1, 1, none⟩ (.int .i64 u)) A B C x u z :=
  ⟨set3_other h.a (by omega) _, set3_1 h.b _, set3_other h.c (by omega) _, h.g.set (by omega) _⟩
theorem U.s2 {w w1 : World} {A B C : ByteArray} {x y z : Int} (h : U w w1 A B C x y z) (u : Int) : U w (w1.setCell ⟨w.heap.size + 1, 2, none⟩ (.int .i64 u)) A B C x y u :=
  ⟨set3_other h.a (by omega) _, set3_2 h.b _, set3_other h.c (by omega) _, h.g.set (by omega) _⟩
theorem U.cells {w w' : World} {A B C : ByteArray} {x y z : Int} (h : U w w' A B C x y z) : w'.cell? ⟨w.heap.size + 1, 0, none⟩ = some (.int .i64 x) ∧ w'.cell? ⟨w.heap.size + 1, 1, none⟩ = some (.int .i64 y) ∧ w'.cell? ⟨w.heap.size + 1, 2, none⟩ = some (.int .i64 z) :=
  ⟨by rw [cell_of_row w' _ 0 _ 24 (0, 0) h.b]; rfl, by rw [cell_of_row w' _ 1 _ 24 (0, 0) h.b]; rfl, by rw [cell_of_row w' _ 2 _ 24 (0, 0) h.b]; rfl⟩
theorem U.parts {w w' : World} {A B C : ByteArray} {x y z : Int} (h : U w w' A B C x y z) : w'.cell? ⟨w.heap.size + 1 + 1, 0, none⟩ = some (.string A) ∧ w'.cell? ⟨w.heap.size + 1 + 1, 1, none⟩ = some (.string B) ∧ w'.cell? ⟨w.heap.size + 1 + 1, 2, none⟩ = some (.string C) :=
  ⟨by rw [cell_of_row w' _ 0 _ 9 (0, 0) h.c]; rfl, by rw [cell_of_row w' _ 1 _ 9 (0, 0) h.c]; rfl, by rw [cell_of_row w' _ 2 _ 9 (0, 0) h.c]; rfl⟩
theorem U.outs {w w' : World} {A B C : ByteArray} {x y z : Int} (h : U w w' A B C x y z) : w'.cell? ⟨w.heap.size, 0, none⟩ = some (.int .i64 0) ∧ w'.cell? ⟨w.heap.size, 1, none⟩ = some (.int .i64 0) ∧ w'.cell? ⟨w.heap.size, 2, none⟩ = some (.int .i64 0) :=
  ⟨by rw [cell_of_row w' _ 0 _ 24 (0, 0) h.a]; rfl, by rw [cell_of_row w' _ 1 _ 24 (0, 0) h.a]; rfl, by rw [cell_of_row w' _ 2 _ 24 (0, 0) h.a]; rfl⟩
set_option maxHeartbeats 2000000 in
set_option maxRecDepth 10000 in
theorem parse3_bad0 (m : Int) (s A B C : ByteArray) (w : World) (hm : w.cell? ⟨1, 0, none⟩ = some (.int .i64 m)) (he : Er w) (ht : Tb w) (hl : (s.size : Int) ≤ 11)
    (hs : ∀ w, w.cell? ⟨1, 0, none⟩ = some (.int .i64 m) → Calls Tryz.prog 47 #[.string s, .string { data := #[46] }] w (Sp [A, B, C] w)) (hA : ∀ w, Er w → Tb w → Calls Tryz.prog 48 #[.string A] w (Digits 0 false w)) :
    Calls Tryz.prog 23 #[.string s] w (ParseT 0 0 0 20 w) := by
  have Hm := Lib.hid hm
  have Hs := Lib.hid hs
  have He := Lib.hid he
  have Ht := Lib.hid ht
  clear hm hs he ht
  go_enter Tryz.func23, Tryz.ntmps23
  go_wp2_with fail
  refine (Hs.out _ (((Gr.refl w).alloc _ _).alloc _ _ |>.keep Hm.out)).mono ?_
  rintro e w1 ⟨rfl, rfl⟩
  go_wp2_with fail
  obtain ⟨ha, hb, hc⟩ := three w (.cells #[.int .i64 0, .int .i64 0, .int .i64 0] 24) (.cells #[.int .i64 0, .int .i64 0, .int .i64 0] 24) (.cells #[.string A, .string B, .string C] 9)
  have Hv0 := Lib.hid (U.mk (w := w) ha hb hc ((((Gr.refl w).alloc #[.int .i64 0, .int .i64 0, .int .i64 0] 24).alloc #[.int .i64 0, .int .i64 0, .int .i64 0] 24).alloc #[.string A, .string B, .string C] 9))
  clear ha hb hc
  refine wp_loop_rounds 1 ?_
  rw [rounds_succ]
  go_wp2_with fail
  refine (hA _ (He.out.keep Hv0.out.g) (Ht.out.keep Hv0.out.g)).mono ?_
  rintro e w2 ⟨rfl, hg⟩
  have Hv2 := Lib.hid (Hv0.out.gr hg)
  clear hg Hv0
  obtain ⟨c0, c1, c2⟩ := Hv2.out.outs
  have f := fz Hv2.out.a
  go_wp2_with fail
  refine bodyPost_ret (v := .tuple #[.agg #[.int .i64 0, .int .i64 0, .int .i64 0], .int .i64 20]) (by simp [results, Tryz.results23, go_sem, c0, c1, c2]) rfl ⟨rfl, ?_⟩
  exact ((Hv2.out.g.set (Nat.le_refl _) _).set (Nat.le_refl _) _).set (Nat.le_refl _) _
set_option maxHeartbeats 2000000 in
set_option maxRecDepth 10000 in
theorem parse3_bad1 (m : Int) (s A B C : ByteArray) (n0 : Int) (w : World) (hm : w.cell? ⟨1, 0, none⟩ = some (.int .i64 m)) (he : Er w) (ht : Tb w) (hl : (s.size : Int) ≤ 11)
    (hs : ∀ w, w.cell? ⟨1, 0, none⟩ = some (.int .i64 m) → Calls Tryz.prog 47 #[.string s, .string { data := #[46] }] w (Sp [A, B, C] w)) (hA : ∀ w, Er w → Tb w → Calls Tryz.prog 48 #[.string A] w (Digits n0 true w)) (hB : ∀ w, Er w → Tb w → Calls Tryz.prog 48 #[.string B] w (Digits 0 false w)) :
    Calls Tryz.prog 23 #[.string s] w (ParseT 0 0 0 20 w) := by
  have Hm := Lib.hid hm
  have Hs := Lib.hid hs
  have He := Lib.hid he
  have Ht := Lib.hid ht
  clear hm hs he ht
  go_enter Tryz.func23, Tryz.ntmps23
  go_wp2_with fail
  refine (Hs.out _ (((Gr.refl w).alloc _ _).alloc _ _ |>.keep Hm.out)).mono ?_
  rintro e w1 ⟨rfl, rfl⟩
  go_wp2_with fail
  obtain ⟨ha, hb, hc⟩ := three w (.cells #[.int .i64 0, .int .i64 0, .int .i64 0] 24) (.cells #[.int .i64 0, .int .i64 0, .int .i64 0] 24) (.cells #[.string A, .string B, .string C] 9)
  have Hv0 := Lib.hid (U.mk (w := w) ha hb hc ((((Gr.refl w).alloc #[.int .i64 0, .int .i64 0, .int .i64 0] 24).alloc #[.int .i64 0, .int .i64 0, .int .i64 0] 24).alloc #[.string A, .string B, .string C] 9))
  clear ha hb hc
  refine wp_loop_rounds 2 ?_
  rw [rounds_succ]
  go_wp2_with fail
  refine (hA _ (He.out.keep Hv0.out.g) (Ht.out.keep Hv0.out.g)).mono ?_
  rintro e w2 ⟨rfl, hg⟩
  have Hv2 := Lib.hid (Hv0.out.gr hg)
  clear hg Hv0
  have f := fz Hv2.out.b
  obtain ⟨c0, _, _⟩ := Hv2.out.cells
  go_wp2_with fail
  have Hv3 := Lib.hid (Hv2.out.s0 n0)
  clear f c0 Hv2
  generalize w2.setCell ⟨w.heap.size + 1, 0, none⟩ (.int .i64 n0) = w3 at *
  obtain ⟨_, p1, _⟩ := Hv3.out.parts
  rw [rounds_succ]
  go_wp2_with fail
  refine (hB _ (He.out.keep Hv3.out.g) (Ht.out.keep Hv3.out.g)).mono ?_
  rintro e w4 ⟨rfl, hg⟩
  have Hv4 := Lib.hid (Hv3.out.gr hg)
  clear hg p1 Hv3
  obtain ⟨c0, c1, c2⟩ := Hv4.out.outs
  have f := fz Hv4.out.a
  go_wp2_with fail
  refine bodyPost_ret (v := .tuple #[.agg #[.int .i64 0, .int .i64 0, .int .i64 0], .int .i64 20]) (by simp [results, Tryz.results23, go_sem, c0, c1, c2]) rfl ⟨rfl, ?_⟩
  exact ((Hv4.out.g.set (Nat.le_refl _) _).set (Nat.le_refl _) _).set (Nat.le_refl _) _
set_option maxHeartbeats 2000000 in
set_option maxRecDepth 10000 in
theorem parse3_bad2 (m : Int) (s A B C : ByteArray) (n0 n1 : Int) (w : World) (hm : w.cell? ⟨1, 0, none⟩ = some (.int .i64 m)) (he : Er w) (ht : Tb w) (hl : (s.size : Int) ≤ 11)
    (hs : ∀ w, w.cell? ⟨1, 0, none⟩ = some (.int .i64 m) → Calls Tryz.prog 47 #[.string s, .string { data := #[46] }] w (Sp [A, B, C] w)) (hA : ∀ w, Er w → Tb w → Calls Tryz.prog 48 #[.string A] w (Digits n0 true w)) (hB : ∀ w, Er w → Tb w → Calls Tryz.prog 48 #[.string B] w (Digits n1 true w)) (hC : ∀ w, Er w → Tb w → Calls Tryz.prog 48 #[.string C] w (Digits 0 false w)) :
    Calls Tryz.prog 23 #[.string s] w (ParseT 0 0 0 20 w) := by
  have Hm := Lib.hid hm
  have Hs := Lib.hid hs
  have He := Lib.hid he
  have Ht := Lib.hid ht
  clear hm hs he ht
  go_enter Tryz.func23, Tryz.ntmps23
  go_wp2_with fail
  refine (Hs.out _ (((Gr.refl w).alloc _ _).alloc _ _ |>.keep Hm.out)).mono ?_
  rintro e w1 ⟨rfl, rfl⟩
  go_wp2_with fail
  obtain ⟨ha, hb, hc⟩ := three w (.cells #[.int .i64 0, .int .i64 0, .int .i64 0] 24) (.cells #[.int .i64 0, .int .i64 0, .int .i64 0] 24) (.cells #[.string A, .string B, .string C] 9)
  have Hv0 := Lib.hid (U.mk (w := w) ha hb hc ((((Gr.refl w).alloc #[.int .i64 0, .int .i64 0, .int .i64 0] 24).alloc #[.int .i64 0, .int .i64 0, .int .i64 0] 24).alloc #[.string A, .string B, .string C] 9))
  clear ha hb hc
  refine wp_loop_rounds 3 ?_
  rw [rounds_succ]
  go_wp2_with fail
  refine (hA _ (He.out.keep Hv0.out.g) (Ht.out.keep Hv0.out.g)).mono ?_
  rintro e w2 ⟨rfl, hg⟩
  have Hv2 := Lib.hid (Hv0.out.gr hg)
  clear hg Hv0
  have f := fz Hv2.out.b
  obtain ⟨c0, _, _⟩ := Hv2.out.cells
  go_wp2_with fail
  have Hv3 := Lib.hid (Hv2.out.s0 n0)
  clear f c0 Hv2
  generalize w2.setCell ⟨w.heap.size + 1, 0, none⟩ (.int .i64 n0) = w3 at *
  obtain ⟨_, p1, _⟩ := Hv3.out.parts
  rw [rounds_succ]
  go_wp2_with fail
  refine (hB _ (He.out.keep Hv3.out.g) (Ht.out.keep Hv3.out.g)).mono ?_
  rintro e w4 ⟨rfl, hg⟩
  have Hv4 := Lib.hid (Hv3.out.gr hg)
  clear hg p1 Hv3
  have f := fz Hv4.out.b
  obtain ⟨_, c1, _⟩ := Hv4.out.cells
  go_wp2_with fail
  have Hv5 := Lib.hid (Hv4.out.s1 n1)
  clear f c1 Hv4
  generalize w4.setCell ⟨w.heap.size + 1, 1, none⟩ (.int .i64 n1) = w5 at *
  obtain ⟨_, _, p2⟩ := Hv5.out.parts
  rw [rounds_succ]
  go_wp2_with fail
  refine (hC _ (He.out.keep Hv5.out.g) (Ht.out.keep Hv5.out.g)).mono ?_
  rintro e w6 ⟨rfl, hg⟩
  have Hv6 := Lib.hid (Hv5.out.gr hg)
  clear hg p2 Hv5
  obtain ⟨c0, c1, c2⟩ := Hv6.out.outs
  have f := fz Hv6.out.a
  go_wp2_with fail
  refine bodyPost_ret (v := .tuple #[.agg #[.int .i64 0, .int .i64 0, .int .i64 0], .int .i64 20]) (by simp [results, Tryz.results23, go_sem, c0, c1, c2]) rfl ⟨rfl, ?_⟩
  exact ((Hv6.out.g.set (Nat.le_refl _) _).set (Nat.le_refl _) _).set (Nat.le_refl _) _
set_option maxHeartbeats 2000000 in
set_option maxRecDepth 10000 in
theorem parse3_bad (m : Int) (s A B C : ByteArray) (n0 n1 n2 : Int) (w : World) (hm : w.cell? ⟨1, 0, none⟩ = some (.int .i64 m)) (he : Er w) (ht : Tb w) (hl : (s.size : Int) ≤ 11)
    (hs : ∀ w, w.cell? ⟨1, 0, none⟩ = some (.int .i64 m) → Calls Tryz.prog 47 #[.string s, .string { data := #[46] }] w (Sp [A, B, C] w)) (hA : ∀ w, Er w → Tb w → Calls Tryz.prog 48 #[.string A] w (Digits n0 true w)) (hB : ∀ w, Er w → Tb w → Calls Tryz.prog 48 #[.string B] w (Digits n1 true w)) (hC : ∀ w, Er w → Tb w → Calls Tryz.prog 48 #[.string C] w (Digits n2 true w)) (hgood : goodB n0 n1 n2 = false) :
    Calls Tryz.prog 23 #[.string s] w (ParseT 0 0 0 20 w) := by
  have Hm := Lib.hid hm
  have Hs := Lib.hid hs
  have He := Lib.hid he
  have Ht := Lib.hid ht
  clear hm hs he ht
  go_enter Tryz.func23, Tryz.ntmps23
  go_wp2_with fail
  refine (Hs.out _ (((Gr.refl w).alloc _ _).alloc _ _ |>.keep Hm.out)).mono ?_
  rintro e w1 ⟨rfl, rfl⟩
  go_wp2_with fail
  obtain ⟨ha, hb, hc⟩ := three w (.cells #[.int .i64 0, .int .i64 0, .int .i64 0] 24) (.cells #[.int .i64 0, .int .i64 0, .int .i64 0] 24) (.cells #[.string A, .string B, .string C] 9)
  have Hv0 := Lib.hid (U.mk (w := w) ha hb hc ((((Gr.refl w).alloc #[.int .i64 0, .int .i64 0, .int .i64 0] 24).alloc #[.int .i64 0, .int .i64 0, .int .i64 0] 24).alloc #[.string A, .string B, .string C] 9))
  clear ha hb hc
  refine wp_loop_rounds 4 ?_
  rw [rounds_succ]
  go_wp2_with fail
  refine (hA _ (He.out.keep Hv0.out.g) (Ht.out.keep Hv0.out.g)).mono ?_
  rintro e w2 ⟨rfl, hg⟩
  have Hv2 := Lib.hid (Hv0.out.gr hg)
  clear hg Hv0
  have f := fz Hv2.out.b
  obtain ⟨c0, _, _⟩ := Hv2.out.cells
  go_wp2_with fail
  have Hv3 := Lib.hid (Hv2.out.s0 n0)
  clear f c0 Hv2
  generalize w2.setCell ⟨w.heap.size + 1, 0, none⟩ (.int .i64 n0) = w3 at *
  obtain ⟨_, p1, _⟩ := Hv3.out.parts
  rw [rounds_succ]
  go_wp2_with fail
  refine (hB _ (He.out.keep Hv3.out.g) (Ht.out.keep Hv3.out.g)).mono ?_
  rintro e w4 ⟨rfl, hg⟩
  have Hv4 := Lib.hid (Hv3.out.gr hg)
  clear hg p1 Hv3
  have f := fz Hv4.out.b
  obtain ⟨_, c1, _⟩ := Hv4.out.cells
  go_wp2_with fail
  have Hv5 := Lib.hid (Hv4.out.s1 n1)
  clear f c1 Hv4
  generalize w4.setCell ⟨w.heap.size + 1, 1, none⟩ (.int .i64 n1) = w5 at *
  obtain ⟨_, _, p2⟩ := Hv5.out.parts
  rw [rounds_succ]
  go_wp2_with fail
  refine (hC _ (He.out.keep Hv5.out.g) (Ht.out.keep Hv5.out.g)).mono ?_
  rintro e w6 ⟨rfl, hg⟩
  have Hv6 := Lib.hid (Hv5.out.gr hg)
  clear hg p2 Hv5
  have f := fz Hv6.out.b
  obtain ⟨_, _, c2⟩ := Hv6.out.cells
  go_wp2_with fail
  have Hv7 := Lib.hid (Hv6.out.s2 n2)
  clear f c2 Hv6
  generalize w6.setCell ⟨w.heap.size + 1, 2, none⟩ (.int .i64 n2) = w7 at *
  obtain ⟨c0, c1, c2⟩ := Hv7.out.cells
  rw [rounds_succ]
  go_wp2_with fail
  refine (good_any n0 n1 n2 _).mono ?_
  rintro e w8 ⟨rfl, hg⟩
  rw [hgood]
  have Hv8 := Lib.hid (Hv7.out.gr hg)
  clear c0 c1 c2 hg Hv7
  obtain ⟨c0, c1, c2⟩ := Hv8.out.outs
  have f := fz Hv8.out.a
  go_wp2_with fail
  refine bodyPost_ret (v := .tuple #[.agg #[.int .i64 0, .int .i64 0, .int .i64 0], .int .i64 20]) (by simp [results, Tryz.results23, go_sem, c0, c1, c2]) rfl ⟨rfl, ?_⟩
  exact ((Hv8.out.g.set (Nat.le_refl _) _).set (Nat.le_refl _) _).set (Nat.le_refl _) _
set_option maxHeartbeats 2000000 in
set_option maxRecDepth 10000 in
theorem parse3_good (m : Int) (s A B C : ByteArray) (n0 n1 n2 : Int) (w : World) (hm : w.cell? ⟨1, 0, none⟩ = some (.int .i64 m)) (he : Er w) (ht : Tb w) (hl : (s.size : Int) ≤ 11)
    (hs : ∀ w, w.cell? ⟨1, 0, none⟩ = some (.int .i64 m) → Calls Tryz.prog 47 #[.string s, .string { data := #[46] }] w (Sp [A, B, C] w)) (hA : ∀ w, Er w → Tb w → Calls Tryz.prog 48 #[.string A] w (Digits n0 true w)) (hB : ∀ w, Er w → Tb w → Calls Tryz.prog 48 #[.string B] w (Digits n1 true w)) (hC : ∀ w, Er w → Tb w → Calls Tryz.prog 48 #[.string C] w (Digits n2 true w)) (hgood : goodB n0 n1 n2 = true) :
    Calls Tryz.prog 23 #[.string s] w (ParseT n0 n1 n2 0 w) := by
  have Hm := Lib.hid hm
  have Hs := Lib.hid hs
  have He := Lib.hid he
  have Ht := Lib.hid ht
  clear hm hs he ht
  go_enter Tryz.func23, Tryz.ntmps23
  go_wp2_with fail
  refine (Hs.out _ (((Gr.refl w).alloc _ _).alloc _ _ |>.keep Hm.out)).mono ?_
  rintro e w1 ⟨rfl, rfl⟩
  go_wp2_with fail
  obtain ⟨ha, hb, hc⟩ := three w (.cells #[.int .i64 0, .int .i64 0, .int .i64 0] 24) (.cells #[.int .i64 0, .int .i64 0, .int .i64 0] 24) (.cells #[.string A, .string B, .string C] 9)
  have Hv0 := Lib.hid (U.mk (w := w) ha hb hc ((((Gr.refl w).alloc #[.int .i64 0, .int .i64 0, .int .i64 0] 24).alloc #[.int .i64 0, .int .i64 0, .int .i64 0] 24).alloc #[.string A, .string B, .string C] 9))
  clear ha hb hc
  refine wp_loop_rounds 4 ?_
  rw [rounds_succ]
  go_wp2_with fail
  refine (hA _ (He.out.keep Hv0.out.g) (Ht.out.keep Hv0.out.g)).mono ?_
  rintro e w2 ⟨rfl, hg⟩
  have Hv2 := Lib.hid (Hv0.out.gr hg)
  clear hg Hv0
  have f := fz Hv2.out.b
  obtain ⟨c0, _, _⟩ := Hv2.out.cells
  go_wp2_with fail
  have Hv3 := Lib.hid (Hv2.out.s0 n0)
  clear f c0 Hv2
  generalize w2.setCell ⟨w.heap.size + 1, 0, none⟩ (.int .i64 n0) = w3 at *
  obtain ⟨_, p1, _⟩ := Hv3.out.parts
  rw [rounds_succ]
  go_wp2_with fail
  refine (hB _ (He.out.keep Hv3.out.g) (Ht.out.keep Hv3.out.g)).mono ?_
  rintro e w4 ⟨rfl, hg⟩
  have Hv4 := Lib.hid (Hv3.out.gr hg)
  clear hg p1 Hv3
  have f := fz Hv4.out.b
  obtain ⟨_, c1, _⟩ := Hv4.out.cells
  go_wp2_with fail
  have Hv5 := Lib.hid (Hv4.out.s1 n1)
  clear f c1 Hv4
  generalize w4.setCell ⟨w.heap.size + 1, 1, none⟩ (.int .i64 n1) = w5 at *
  obtain ⟨_, _, p2⟩ := Hv5.out.parts
  rw [rounds_succ]
  go_wp2_with fail
  refine (hC _ (He.out.keep Hv5.out.g) (Ht.out.keep Hv5.out.g)).mono ?_
  rintro e w6 ⟨rfl, hg⟩
  have Hv6 := Lib.hid (Hv5.out.gr hg)
  clear hg p2 Hv5
  have f := fz Hv6.out.b
  obtain ⟨_, _, c2⟩ := Hv6.out.cells
  go_wp2_with fail
  have Hv7 := Lib.hid (Hv6.out.s2 n2)
  clear f c2 Hv6
  generalize w6.setCell ⟨w.heap.size + 1, 2, none⟩ (.int .i64 n2) = w7 at *
  obtain ⟨c0, c1, c2⟩ := Hv7.out.cells
  rw [rounds_succ]
  go_wp2_with fail
  refine (good_any n0 n1 n2 _).mono ?_
  rintro e w8 ⟨rfl, hg⟩
  rw [hgood]
  have Hv8 := Lib.hid (Hv7.out.gr hg)
  clear c0 c1 c2 hg Hv7
  obtain ⟨c0, c1, c2⟩ := Hv8.out.cells
  obtain ⟨a0, a1, a2⟩ := Hv8.out.outs
  have f := fz Hv8.out.a
  go_wp2_with fail
  refine bodyPost_ret (v := .tuple #[.agg #[.int .i64 n0, .int .i64 n1, .int .i64 n2], .int .i64 0]) (by simp [results, Tryz.results23, go_sem, a0, a1, a2]) rfl ⟨rfl, ?_⟩
  exact ((Hv8.out.g.set (Nat.le_refl _) _).set (Nat.le_refl _) _).set (Nat.le_refl _) _
end Go.Proofs.YtnipiphhkcafhaaGreatDoor.Ver
namespace Go.Proofs.YtnipiphhkcafhaaGreatDoor.Ver
set_option linter.unusedVariables false
open Go.ChangeShapes Go.WideShapes Go.ChangeAt Go.RowKit Go.Sort
theorem two (w : World) (x y : Obj) : ((w.alloc x).alloc y).heap[w.heap.size]? = some x ∧ ((w.alloc x).alloc y).heap[w.heap.size + 1]? = some y := by
  have s1 : (w.alloc x).heap.size = w.heap.size + 1 := by show (w.heap.push _).size = _; simp
  refine ⟨?_, ?_⟩
  · rw [Below.heap_alloc _ _ _ (by omega)]; exact heap_alloc_new w x
  · rw [← s1]; exact heap_alloc_new _ y
set_option maxHeartbeats 1000000 in
set_option maxRecDepth 10000 in
theorem parse_long (s : ByteArray) (w : World) (hl : (11 : Int) < (s.size : Int)) : Calls Tryz.prog 23 #[.string s] w (ParseT 0 0 0 20 w) := by
  obtain ⟨ha, hb⟩ := two w (.cells #[.int .i64 0, .int .i64 0, .int .i64 0] 24) (.cells #[.int .i64 0, .int .i64 0, .int .i64 0] 24)
  obtain ⟨c0, c1, c2⟩ := three_cells ha
  obtain ⟨d0, d1, d2⟩ := three_cells hb
  have f := fz ha
  have Hg := Lib.hid (((Gr.refl w).alloc #[.int .i64 0, .int .i64 0, .int .i64 0] 24).alloc #[.int .i64 0, .int .i64 0, .int .i64 0] 24)
  clear ha hb
  go_enter Tryz.func23, Tryz.ntmps23
  go_wp2_with fail
  refine bodyPost_ret (v := .tuple #[.agg #[.int .i64 0, .int .i64 0, .int .i64 0], .int .i64 20]) (by simp [results, Tryz.results23, go_sem, c0, c1, c2]) rfl ⟨rfl, ?_⟩
  exact Hg.out
set_option maxHeartbeats 1000000 in
set_option maxRecDepth 10000 in
theorem parse_count (m : Int) (s : ByteArray) (ps : List ByteArray) (w : World) (hm : w.cell? ⟨1, 0, none⟩ = some (.int .i64 m)) (hl : (s.size : Int) ≤ 11) (hn : ¬ ps.length = 3)
    (hs : ∀ w, w.cell? ⟨1, 0, none⟩ = some (.int .i64 m) → Calls Tryz.prog 47 #[.string s, .string { data := #[46] }] w (Sp ps w)) : Calls Tryz.prog 23 #[.string s] w (ParseT 0 0 0 20 w) := by
  have Hm := Lib.hid hm
  have Hs := Lib.hid hs
  have hn' : ((ps.length : Int) == 3) = false := by rw [beq_eq_false_iff_ne]; omega
  clear hm hs
  go_enter Tryz.func23, Tryz.ntmps23
  go_wp2_with fail
  refine (Hs.out _ (((Gr.refl w).alloc _ _).alloc _ _ |>.keep Hm.out)).mono ?_
  rintro e w1 ⟨rfl, rfl⟩
  obtain ⟨ha, hb, hc⟩ := three w (.cells #[.int .i64 0, .int .i64 0, .int .i64 0] 24) (.cells #[.int .i64 0, .int .i64 0, .int .i64 0] 24) (.cells (ps.map Value.string).toArray 9)
  obtain ⟨c0, c1, c2⟩ := three_cells ha
  obtain ⟨d0, d1, d2⟩ := three_cells hb
  have f := fz ha
  have Hg := Lib.hid ((((Gr.refl w).alloc #[.int .i64 0, .int .i64 0, .int .i64 0] 24).alloc #[.int .i64 0, .int .i64 0, .int .i64 0] 24).alloc (ps.map Value.string).toArray 9)
  clear ha hb hc
  go_wp2_with fail
  refine bodyPost_ret (v := .tuple #[.agg #[.int .i64 0, .int .i64 0, .int .i64 0], .int .i64 20]) (by simp [results, Tryz.results23, go_sem, c0, c1, c2]) rfl ⟨rfl, ?_⟩
  exact Hg.out
def ParseO (r : Option (Nat × Nat × Nat)) (w : World) (e : Ending) (w' : World) : Prop := match r with
  | some (a, b, c) => ParseT a b c 0 w e w'
  | none => ParseT 0 0 0 20 w e w'
theorem mk_bytes (A : ByteArray) : (⟨A.data.toList.toArray⟩ : ByteArray) = A := by apply ByteArray.ext; simp
theorem map_inj {ps qs : List ByteArray} (h : ps.map (·.data.toList) = qs.map (·.data.toList)) : ps = qs := by
  induction ps generalizing qs with
  | nil => cases qs with
    | nil => rfl
    | cons a b => simp at h
  | cons p ps ih => cases qs with
    | nil => simp at h
    | cons q qs =>
      simp only [List.map_cons, List.cons.injEq] at h
      rw [ih h.2, ByteArray.ext (Array.ext' h.1)]
theorem split_is (s : ByteArray) (m : Int) (ps : List ByteArray) (hs : s.size ≤ 65536) (h : ps.map (·.data.toList) = pcs 46 s.data.toList) :
    ∀ w, w.cell? ⟨1, 0, none⟩ = some (.int .i64 m) → Calls Tryz.prog 47 #[.string s, .string { data := #[46] }] w (Sp ps w) := fun w hm =>
  (split_any s m w hs hm).mono fun e w' ⟨qs, h1, h2⟩ => by
    have : qs = ps := map_inj (h1.trans h.symm)
    rwa [this] at h2
theorem parse_any (m : Int) (s : ByteArray) (w : World) (hm : w.cell? ⟨1, 0, none⟩ = some (.int .i64 m)) (he : Er w) (ht : Tb w) (hl : s.size ≤ 65536) :
    Calls Tryz.prog 23 #[.string s] w (ParseO (verL s.data.toList) w) := by
  have hsl : s.data.toList.length = s.size := by simp
  by_cases h11 : s.size ≤ 11
  · obtain ⟨ps, hps⟩ : ∃ ps : List ByteArray, ps.map (·.data.toList) = pcs 46 s.data.toList := ⟨(pcs 46 s.data.toList).map fun l => ⟨l.toArray⟩, by simp [List.map_map, Function.comp_def]⟩
    have hsp := split_is s m ps hl hps
    have hlen : ps.length = (pcs 46 s.data.toList).length := by rw [← hps]; simp
    by_cases h3 : ps.length = 3
    · match ps, h3 with
      | [A, B, C], _ =>
        have e3 : pcs 46 s.data.toList = [A.data.toList, B.data.toList, C.data.toList] := hps.symm
        have hsz := congrArg List.length (pcs_three e3)
        simp only [List.length_append, List.length_cons] at hsz
        have hA : A.data.toList.length = A.size := by simp
        have hB : B.data.toList.length = B.size := by simp
        have hC : C.data.toList.length = C.size := by simp
        have hi : (s.size : Int) ≤ 11 := by omega
        have ev : verL s.data.toList = if okP A.data.toList && (okP B.data.toList && okP C.data.toList) then some (val A.data.toList, val B.data.toList, val C.data.toList) else none := by
          unfold verL; rw [e3]
        cases hk : okP A.data.toList && (okP B.data.toList && okP C.data.toList) with
        | true =>
          rw [ev, hk, if_pos rfl]
          simp only [Bool.and_eq_true] at hk
          obtain ⟨k1, k2, k3⟩ := hk
          have b1 := (okP_back k1).2
          have b2 := (okP_back k2).2
          have b3 := (okP_back k3).2
          exact parse3_good m s A B C _ _ _ w hm he ht hi hsp (fun w _ t => digits_some A _ w (by omega) (digR_ok k1) t) (fun w _ t => digits_some B _ w (by omega) (digR_ok k2) t) (fun w _ t => digits_some C _ w (by omega) (digR_ok k3) t) (good_yes (by omega))
        | false =>
          rw [ev, hk, if_neg (by simp)]
          cases d0 : digR A.data.toList with
          | none => exact parse3_bad0 m s A B C w hm he ht hi hsp (fun w e t => digits_none A w (by omega) d0 e t)
          | some n0 =>
            cases d1 : digR B.data.toList with
            | none => exact parse3_bad1 m s A B C n0 w hm he ht hi hsp (fun w _ t => digits_some A n0 w (by omega) d0 t) (fun w e t => digits_none B w (by omega) d1 e t)
            | some n1 =>
              cases d2 : digR C.data.toList with
              | none => exact parse3_bad2 m s A B C n0 n1 w hm he ht hi hsp (fun w _ t => digits_some A n0 w (by omega) d0 t) (fun w _ t => digits_some B n1 w (by omega) d1 t) (fun w e t => digits_none C w (by omega) d2 e t)
              | some n2 =>
                refine parse3_bad m s A B C n0 n1 n2 w hm he ht hi hsp (fun w _ t => digits_some A n0 w (by omega) d0 t) (fun w _ t => digits_some B n1 w (by omega) d1 t) (fun w _ t => digits_some C n2 w (by omega) d2 t) (good_no fun hg => ?_)
                rw [digR_in d0 hg.1 hg.2.1, digR_in d1 hg.2.2.1 hg.2.2.2.1, digR_in d2 hg.2.2.2.2.1 hg.2.2.2.2.2] at hk
                cases hk
    · have ev : verL s.data.toList = none := by
        unfold verL
        split
        · rename_i p q r e; rw [e] at hlen; simp at hlen; exact absurd hlen h3
        · rfl
      rw [ev]
      exact parse_count m s ps w hm (by omega) h3 hsp
  · have ev : verL s.data.toList = none := by
      unfold verL
      split
      · rename_i p q r e
        split
        · rename_i hk
          simp only [Bool.and_eq_true] at hk
          have h1 := (okP_parts hk.1).2.1
          have h2 := (okP_parts hk.2.1).2.1
          have h3 := (okP_parts hk.2.2).2.1
          have hsz := congrArg List.length (pcs_three e)
          simp only [List.length_append, List.length_cons] at hsz
          omega
        · rfl
      · rfl
    rw [ev]
    exact parse_long s w (by omega)
end Go.Proofs.YtnipiphhkcafhaaGreatDoor.Ver
namespace Go.Proofs.YtnipiphhkcafhaaGreatDoor.Ver
set_option linter.unusedVariables false
open Go.ChangeShapes Go.WideShapes Go.ChangeAt Go.RowKit Go.Sort
structure T3 (w w' : World) (g p : Nat) (A B C : ByteArray) (x y z : Int) : Prop where
  b0 : w'.heap[w.heap.size]? = some (.cells #[.int .i64 0, .int .i64 0, .int .i64 0] 24 (0, 0))
  b1 : w'.heap[p]? = some (.cells #[.int .i64 x, .int .i64 y, .int .i64 z] 24 (0, 0))
  row : ∃ cap, w'.ownsRow (w.heap.size + 1) 9 1 (.slice (some ⟨g, 0, none⟩) 3 cap) 3 [.string A, .string B, .string C]
  gr : Gr w w'
  hp : w.heap.size < p
  hg : g < p
  hg0 : w.heap.size < g
theorem ownsRow_other {w : World} {base g n cap p i : Nat} {xs : List Value} {u : Value} (h : w.ownsRow base 9 1 (.slice (some ⟨g, 0, none⟩) n cap) n xs) (hne : g ≠ p) :
    (w.setCell ⟨p, i, none⟩ u).ownsRow base 9 1 (.slice (some ⟨g, 0, none⟩) n cap) n xs := by
  refine ⟨h.1, ?_⟩
  rcases h.2 with h2 | ⟨g', cap', cur, e, h3, h4, h5⟩
  · exact .inl h2
  · refine .inr ⟨g', cap', cur, e, h3, ?_, h5⟩
    simp at e
    obtain ⟨rfl, _⟩ := e
    rw [Below.heap_setCell _ _ _ _ hne]
    exact h4
section
variable {w w1 w2 : World} {g p : Nat} {A B C : ByteArray} {x y z : Int}
theorem T3.s0 (h : T3 w w1 g p A B C x y z) (u : Int) : T3 w (w1.setCell ⟨p, 0, none⟩ (.int .i64 u)) g p A B C u y z :=
  have := h.hp
  have := h.hg
  ⟨set3_other h.b0 (by omega) _, set3_0 h.b1 _, h.row.imp fun _ r => ownsRow_other r (by omega), h.gr.set (by omega) _, h.hp, h.hg, h.hg0⟩
theorem T3.s1 (h : T3 w w1 g p A B C x y z) (u : Int) : T3 w (w1.setCell ⟨p, 1, none⟩ (.int .i64 u)) g p A B C x u z :=
  have := h.hp
  have := h.hg
  ⟨set3_other h.b0 (by omega) _, set3_1 h.b1 _, h.row.imp fun _ r => ownsRow_other r (by omega), h.gr.set (by omega) _, h.hp, h.hg, h.hg0⟩
theorem T3.s2 (h : T3 w w1 g p A B C x y z) (u : Int) : T3 w (w1.setCell ⟨p, 2, none⟩ (.int .i64 u)) g p A B C x y u :=
  have := h.hp
  have := h.hg
  ⟨set3_other h.b0 (by omega) _, set3_2 h.b1 _, h.row.imp fun _ r => ownsRow_other r (by omega), h.gr.set (by omega) _, h.hp, h.hg, h.hg0⟩
theorem T3.strs (h : T3 w w1 g p A B C x y z) : w1.cell? ⟨g, 0, none⟩ = some (.string A) ∧ w1.cell? ⟨g, 1, none⟩ = some (.string B) ∧ w1.cell? ⟨g, 2, none⟩ = some (.string C) := by
  obtain ⟨cap, r⟩ := h.row
  exact ⟨r.cellAt 0 (by omega), r.cellAt 1 (by omega), r.cellAt 2 (by omega)⟩
end
theorem gr_block {w w1 : World} {o : Obj} {k : Nat} (g : Gr w w1) (h : w.heap[k]? = some o) : w1.heap[k]? = some o := g.heap h
set_option maxHeartbeats 2000000 in
set_option maxRecDepth 10000 in
theorem parseR_count (s : ByteArray) (w : World) (hl : s.size ≤ 65536) (hn : ¬ (pcs 46 s.data.toList).length = 3) : Calls Tryz.prog 13 #[.string s] w (ParseT 0 0 0 20 w) := by
  go_enter Tryz.func13, Tryz.ntmps13
  go_wp2_with fail
  refine (pieces_any s 46 _ hl).mono ?_
  rintro e w1 ⟨v, rfl, hsl⟩
  obtain ⟨ini, q, hpq⟩ := pcs_ne 46 s.data.toList
  have hpos : 0 < (pcs 46 s.data.toList).length := by rw [hpq]; simp
  obtain ⟨g, cap, rfl, hg, hcap⟩ := hsl.form hpos
  have ha := hsl.2.heap (heap_alloc_new w (.cells #[.int .i64 0, .int .i64 0, .int .i64 0] 24))
  obtain ⟨c0, c1, c2⟩ := three_cells ha
  have f := fz ha
  have G := Lib.hid (grown_trans ((Gr.refl w).alloc #[.int .i64 0, .int .i64 0, .int .i64 0] 24) hsl.2)
  clear ha hsl hpq hpos
  generalize (pcs 46 s.data.toList).length = n at *
  have hn' : ((n : Int) == 3) = false := by rw [beq_eq_false_iff_ne]; omega
  go_wp2_with fail
  refine bodyPost_ret (v := .tuple #[.agg #[.int .i64 0, .int .i64 0, .int .i64 0], .int .i64 20]) (by simp [results, Tryz.results13, go_sem, c0, c1, c2]) rfl ⟨rfl, ?_⟩
  first | exact G.out | exact ((G.out.set (Nat.le_refl _) _).set (Nat.le_refl _) _).set (Nat.le_refl _) _
set_option maxHeartbeats 2000000 in
set_option maxRecDepth 10000 in
theorem parseR_three (s A B C : ByteArray) (w : World) (hl : s.size ≤ 65536) (hps : pcs 46 s.data.toList = [A.data.toList, B.data.toList, C.data.toList]) (x y z : Int)
    (hx : partI A.data.toList = x) (hy : partI B.data.toList = y) (hz : partI C.data.toList = z) (hgood : goodB x y z = true) :
    Calls Tryz.prog 13 #[.string s] w (ParseT x y z 0 w) := by
  have hA := part_any A
  have hB := part_any B
  have hC := part_any C
  rw [hx] at hA
  rw [hy] at hB
  rw [hz] at hC
  clear hx hy hz
  go_enter Tryz.func13, Tryz.ntmps13
  go_wp2_with fail
  refine (pieces_any s 46 _ hl).mono ?_
  rintro e w1 ⟨v, rfl, hsl⟩
  rw [hps] at hsl
  obtain ⟨g, cap, rfl, hg, hcap⟩ := hsl.form (by simp)
  have e0 : (w.alloc (.cells #[.int .i64 0, .int .i64 0, .int .i64 0] 24)).heap.size = w.heap.size + 1 := by show (w.heap.push _).size = _; simp
  rw [e0] at hg
  have hglt : g < w1.heap.size := (hsl.1.lt g rfl).2
  have hs1 := hsl.2.size
  have HT := Lib.hid (T3.mk (w := w) (w' := w1.alloc (.cells #[.int .i64 0, .int .i64 0, .int .i64 0] 24)) (g := g) (p := w1.heap.size) (A := A) (B := B) (C := C) (x := 0) (y := 0) (z := 0)
    (((Gr.refl w1).alloc _ _).heap (hsl.2.heap (heap_alloc_new w _))) (heap_alloc_new w1 _)
    ⟨cap, by
      have r := hsl.1.alloc (.cells #[.int .i64 0, .int .i64 0, .int .i64 0] 24)
      rw [e0] at r
      simpa [strs, mk_bytes] using r⟩
    (grown_trans (grown_trans ((Gr.refl w).alloc _ _) hsl.2) ((Gr.refl w1).alloc _ _)) (by omega) hglt (by omega))
  clear hsl e0
  simp only [List.length_cons, List.length_nil, Nat.zero_add, Nat.reduceAdd] at hcap ⊢
  go_wp2_with fail
  generalize w1.alloc (.cells #[.int .i64 0, .int .i64 0, .int .i64 0] 24) = w3 at *
  generalize w1.heap.size = p at *
  clear hs1
  have hpw := HT.out.hp
  refine wp_loop_rounds 4 ?_
  obtain ⟨q0, _, _⟩ := HT.out.strs
  obtain ⟨c0, _, _⟩ := three_cells HT.out.b1
  have f := fz HT.out.b1
  rw [rounds_succ]
  go_wp2_with fail
  refine (hA _).mono ?_
  rintro e w' ⟨rfl, rfl⟩
  go_wp2_with fail
  have HT1 := Lib.hid (HT.out.s0 x)
  clear q0 c0 f HT
  generalize w'.setCell ⟨p, 0, none⟩ (.int .i64 x) = w4 at *
  obtain ⟨_, q1, _⟩ := HT1.out.strs
  obtain ⟨_, c1, _⟩ := three_cells HT1.out.b1
  have f := fz HT1.out.b1
  rw [rounds_succ]
  go_wp2_with fail
  refine (hB _).mono ?_
  rintro e w' ⟨rfl, rfl⟩
  go_wp2_with fail
  have HT2 := Lib.hid (HT1.out.s1 y)
  clear q1 c1 f HT1
  generalize w'.setCell ⟨p, 1, none⟩ (.int .i64 y) = w5 at *
  obtain ⟨_, _, q2⟩ := HT2.out.strs
  obtain ⟨_, _, c2⟩ := three_cells HT2.out.b1
  have f := fz HT2.out.b1
  rw [rounds_succ]
  go_wp2_with fail
  refine (hC _).mono ?_
  rintro e w' ⟨rfl, rfl⟩
  go_wp2_with fail
  have HT3 := Lib.hid (HT2.out.s2 z)
  clear q2 c2 f HT2
  generalize w'.setCell ⟨p, 2, none⟩ (.int .i64 z) = w6 at *
  obtain ⟨c0, c1, c2⟩ := three_cells HT3.out.b1
  rw [rounds_succ]
  go_wp2_with fail
  refine (goodR_any x y z _).mono ?_
  rintro e w7 ⟨rfl, hg7⟩
  rw [hgood]
  have e1 := hg7.heap HT3.out.b1
  have e2 := hg7.heap HT3.out.b0
  have G := Lib.hid (grown_trans HT3.out.gr hg7)
  clear HT3 hg7 c0 c1 c2
  obtain ⟨c0, c1, c2⟩ := three_cells e1
  obtain ⟨a0, a1, a2⟩ := three_cells e2
  have f := fz e2
  clear e1 e2
  go_wp2_with fail
  refine bodyPost_ret (v := .tuple #[.agg #[.int .i64 x, .int .i64 y, .int .i64 z], .int .i64 0]) (by simp [results, Tryz.results13, go_sem, a0, a1, a2]) rfl ⟨rfl, ?_⟩
  exact ((G.out.set (Nat.le_refl _) _).set (Nat.le_refl _) _).set (Nat.le_refl _) _
set_option maxHeartbeats 2000000 in
set_option maxRecDepth 10000 in
theorem parseR_bad (s A B C : ByteArray) (w : World) (hl : s.size ≤ 65536) (hps : pcs 46 s.data.toList = [A.data.toList, B.data.toList, C.data.toList]) (x y z : Int)
    (hx : partI A.data.toList = x) (hy : partI B.data.toList = y) (hz : partI C.data.toList = z) (hgood : goodB x y z = false) :
    Calls Tryz.prog 13 #[.string s] w (ParseT 0 0 0 20 w) := by
  have hA := part_any A
  have hB := part_any B
  have hC := part_any C
  rw [hx] at hA
  rw [hy] at hB
  rw [hz] at hC
  clear hx hy hz
  go_enter Tryz.func13, Tryz.ntmps13
  go_wp2_with fail
  refine (pieces_any s 46 _ hl).mono ?_
  rintro e w1 ⟨v, rfl, hsl⟩
  rw [hps] at hsl
  obtain ⟨g, cap, rfl, hg, hcap⟩ := hsl.form (by simp)
  have e0 : (w.alloc (.cells #[.int .i64 0, .int .i64 0, .int .i64 0] 24)).heap.size = w.heap.size + 1 := by show (w.heap.push _).size = _; simp
  rw [e0] at hg
  have hglt : g < w1.heap.size := (hsl.1.lt g rfl).2
  have hs1 := hsl.2.size
  have HT := Lib.hid (T3.mk (w := w) (w' := w1.alloc (.cells #[.int .i64 0, .int .i64 0, .int .i64 0] 24)) (g := g) (p := w1.heap.size) (A := A) (B := B) (C := C) (x := 0) (y := 0) (z := 0)
    (((Gr.refl w1).alloc _ _).heap (hsl.2.heap (heap_alloc_new w _))) (heap_alloc_new w1 _)
    ⟨cap, by
      have r := hsl.1.alloc (.cells #[.int .i64 0, .int .i64 0, .int .i64 0] 24)
      rw [e0] at r
      simpa [strs, mk_bytes] using r⟩
    (grown_trans (grown_trans ((Gr.refl w).alloc _ _) hsl.2) ((Gr.refl w1).alloc _ _)) (by omega) hglt (by omega))
  clear hsl e0
  simp only [List.length_cons, List.length_nil, Nat.zero_add, Nat.reduceAdd] at hcap ⊢
  go_wp2_with fail
  generalize w1.alloc (.cells #[.int .i64 0, .int .i64 0, .int .i64 0] 24) = w3 at *
  generalize w1.heap.size = p at *
  clear hs1
  have hpw := HT.out.hp
  refine wp_loop_rounds 4 ?_
  obtain ⟨q0, _, _⟩ := HT.out.strs
  obtain ⟨c0, _, _⟩ := three_cells HT.out.b1
  have f := fz HT.out.b1
  rw [rounds_succ]
  go_wp2_with fail
  refine (hA _).mono ?_
  rintro e w' ⟨rfl, rfl⟩
  go_wp2_with fail
  have HT1 := Lib.hid (HT.out.s0 x)
  clear q0 c0 f HT
  generalize w'.setCell ⟨p, 0, none⟩ (.int .i64 x) = w4 at *
  obtain ⟨_, q1, _⟩ := HT1.out.strs
  obtain ⟨_, c1, _⟩ := three_cells HT1.out.b1
  have f := fz HT1.out.b1
  rw [rounds_succ]
  go_wp2_with fail
  refine (hB _).mono ?_
  rintro e w' ⟨rfl, rfl⟩
  go_wp2_with fail
  have HT2 := Lib.hid (HT1.out.s1 y)
  clear q1 c1 f HT1
  generalize w'.setCell ⟨p, 1, none⟩ (.int .i64 y) = w5 at *
  obtain ⟨_, _, q2⟩ := HT2.out.strs
  obtain ⟨_, _, c2⟩ := three_cells HT2.out.b1
  have f := fz HT2.out.b1
  rw [rounds_succ]
  go_wp2_with fail
  refine (hC _).mono ?_
  rintro e w' ⟨rfl, rfl⟩
  go_wp2_with fail
  have HT3 := Lib.hid (HT2.out.s2 z)
  clear q2 c2 f HT2
  generalize w'.setCell ⟨p, 2, none⟩ (.int .i64 z) = w6 at *
  obtain ⟨c0, c1, c2⟩ := three_cells HT3.out.b1
  rw [rounds_succ]
  go_wp2_with fail
  refine (goodR_any x y z _).mono ?_
  rintro e w7 ⟨rfl, hg7⟩
  rw [hgood]
  have e1 := hg7.heap HT3.out.b1
  have e2 := hg7.heap HT3.out.b0
  have G := Lib.hid (grown_trans HT3.out.gr hg7)
  clear HT3 hg7 c0 c1 c2
  obtain ⟨c0, c1, c2⟩ := three_cells e1
  obtain ⟨a0, a1, a2⟩ := three_cells e2
  have f := fz e2
  clear e1 e2
  go_wp2_with fail
  refine bodyPost_ret (v := .tuple #[.agg #[.int .i64 0, .int .i64 0, .int .i64 0], .int .i64 20]) (by simp [results, Tryz.results13, go_sem, a0, a1, a2]) rfl ⟨rfl, ?_⟩
  first | exact G.out | exact ((G.out.set (Nat.le_refl _) _).set (Nat.le_refl _) _).set (Nat.le_refl _) _
theorem part_good {l : List UInt8} (h0 : 0 ≤ partI l) : okP l = true := by
  cases h : okP l with
  | true => rfl
  | false => rw [part_no h] at h0; omega
theorem parseR_any (s : ByteArray) (w : World) (hl : s.size ≤ 65536) : Calls Tryz.prog 13 #[.string s] w (ParseO (verL s.data.toList) w) := by
  by_cases h3 : (pcs 46 s.data.toList).length = 3
  · obtain ⟨p, q, r, e3⟩ : ∃ p q r, pcs 46 s.data.toList = [p, q, r] := by
      match h : pcs 46 s.data.toList, h3 with
      | [p, q, r], _ => exact ⟨p, q, r, rfl⟩
    have ev : verL s.data.toList = if okP p && (okP q && okP r) then some (val p, val q, val r) else none := by
      unfold verL; rw [e3]
    have e3' : pcs 46 s.data.toList = [(⟨p.toArray⟩ : ByteArray).data.toList, (⟨q.toArray⟩ : ByteArray).data.toList, (⟨r.toArray⟩ : ByteArray).data.toList] := e3
    cases hk : okP p && (okP q && okP r) with
    | true =>
      rw [ev, hk, if_pos rfl]
      simp only [Bool.and_eq_true] at hk
      obtain ⟨k1, k2, k3⟩ := hk
      have b1 := (okP_back k1).2
      have b2 := (okP_back k2).2
      have b3 := (okP_back k3).2
      exact parseR_three s ⟨p.toArray⟩ ⟨q.toArray⟩ ⟨r.toArray⟩ w hl e3' _ _ _ (part_yes k1) (part_yes k2) (part_yes k3) (good_yes (by omega))
    | false =>
      rw [ev, hk, if_neg (by simp)]
      refine parseR_bad s ⟨p.toArray⟩ ⟨q.toArray⟩ ⟨r.toArray⟩ w hl e3' _ _ _ rfl rfl rfl (good_no fun hg => ?_)
      rw [show okP p = true from part_good hg.1, show okP q = true from part_good hg.2.2.1, show okP r = true from part_good hg.2.2.2.2.1] at hk
      cases hk
  · have ev : verL s.data.toList = none := by
      unfold verL
      split
      · rename_i p q r e; rw [e] at h3; exact absurd rfl h3
      · rfl
    rw [ev]
    exact parseR_count s w hl h3
end Go.Proofs.YtnipiphhkcafhaaGreatDoor.Ver
