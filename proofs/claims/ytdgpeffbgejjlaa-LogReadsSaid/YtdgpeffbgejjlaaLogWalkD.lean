/- The contracts of lay, Append and Open. Condition: what stands in RS.ok; fewer than 10^9 acts. -/
import Derived.Test.YtdgpeffbgejjlaaLogWalkC
namespace Go.Proofs.Ytdgpeffbgejjlaa
set_option linter.unusedVariables false
open Go.ChangeShapes Go.WideShapes Go.ChangeAt Go.RowKit
def Bd (R : Nat → Prop) (w : World) : Prop := ∀ k, R k → k < w.heap.size
theorem Bd.went {R R' : Nat → Prop} {w w' : World} (h : Bd R w) (g : Went R R' w w') : Bd R' w' := fun k hk => by
  rcases g.ext k hk with x | x
  · exact Nat.lt_of_lt_of_le (h k x) g.chg.size
  · exact x.2
theorem Bd.chg {R S : Nat → Prop} {w w' : World} (h : Bd R w) (g : Chg S w w') : Bd R w' := fun k hk => Nat.lt_of_lt_of_le (h k hk) g.size
theorem str_bytes (s : ByteArray) : Lib.strCells s = bytesV s.data.toList := rfl
/- what is laid: a record behind the bytes, all of it safe -/
def Laid (b : Nat) (R : Nat → Prop) (xs : List UInt8) (acts : Nat) (keep : Int) (s : List UInt8) (w : World) (e : Ending) (w' : World) : Prop :=
  e = .returned (.int .i64 0) ∧ ∃ R', Rb w' b R' ⟨xs ++ frameL s, (xs ++ frameL s).length, false, acts + 2, 0, keep⟩ ∧ Went R R' w w'
theorem went_no {R R' : Nat → Prop} {w w1 w' : World} (h : Chg NoB w w1) (g : Went R R' w1 w') : Went R R' w w' :=
  ⟨(h.mono fun k _ x => x.elim).trans g.chg, fun k hk => by
    rcases g.ext k hk with x | x
    · exact .inl x
    · exact .inr ⟨Nat.le_trans h.size x.1, x.2⟩, g.old⟩
set_option maxHeartbeats 2000000 in
theorem lay_any (l b cnt : Nat) (R : Nat → Prop) (xs : List UInt8) (safe acts : Nat) (keep : Int) (s : ByteArray) (w : World) (h : Rb w b R ⟨xs, safe, false, acts, 0, keep⟩) (hL : Lg w l b cnt) (hlR : ¬ R l) (hbd : Bd R w)
    (hs : s.size ≤ 65536) (hb : acts < 1000000) (hl : xs.length + 3 + s.size ≤ 1048576) :
    Calls Try.prog 16 #[.pointer (some ⟨l, 0, none⟩), .string s] w (Laid b R xs acts keep s.data.toList w) := by
  have hsl : s.data.toList.length = s.size := by simp
  obtain ⟨x0, hx0⟩ : ∃ a, UInt8.ofNat (s.size / 65536) = a := ⟨_, rfl⟩
  obtain ⟨x1, hx1⟩ : ∃ b, UInt8.ofNat (s.size / 256 % 256) = b := ⟨_, rfl⟩
  obtain ⟨x2, hx2⟩ : ∃ c, UInt8.ofNat (s.size % 256) = c := ⟨_, rfl⟩
  have e1 : UInt8.ofNat (s.size / 256) = x1 := by rw [← hx1]; apply UInt8.toNat_inj.1; rw [UInt8.toNat_ofNat', UInt8.toNat_ofNat']; omega
  have e2 : UInt8.ofNat s.size = x2 := by rw [← hx2]; apply UInt8.toNat_inj.1; rw [UInt8.toNat_ofNat', UInt8.toNat_ofNat']; omega
  have w1 : IntKind.u8.wrap ((s.size : Int) / 65536) = (x0.toNat : Int) := by rw [← hx0, ← u8_nat]; congr 1
  have w2 : IntKind.u8.wrap ((s.size : Int) / 256) = (x1.toNat : Int) := by rw [← e1, ← u8_nat]; congr 1
  have w3 : IntKind.u8.wrap (s.size : Int) = (x2.toNat : Int) := by rw [← e2, ← u8_nat]
  have hfr : [x0, x1, x2] ++ s.data.toList = frameL s.data.toList := by unfold frameL head3; rw [hsl, hx0, hx1, hx2]
  have hfl : (frameL s.data.toList).length = 3 + s.size := by rw [frameL_len, hsl]
  have Hfr := Lib.hid hfr
  have Hfl := Lib.hid hfl
  have H := Lib.hid h
  have HL := Lib.hid hL
  have HB := Lib.hid hbd
  clear hx0 hx1 hx2 e1 e2 hfr hfl h hL hbd hsl
  obtain ⟨i0, hi, hz0, hz1, hz2⟩ := info_parts info5
  have hlit : (w.alloc (.cells #[.int .u8 (x0.toNat : Int), .int .u8 (x1.toNat : Int), .int .u8 (x2.toNat : Int)] 5)).ownsRow w.heap.size 5 1 (.slice (some ⟨w.heap.size, 0, none⟩) 3 3) 3 [.int .u8 (x0.toNat : Int), .int .u8 (x1.toNat : Int), .int .u8 (x2.toNat : Int)] := World.ownsRow_lit w #[.int .u8 (x0.toNat : Int), .int .u8 (x1.toNat : Int), .int .u8 (x2.toNat : Int)] 3 (Nat.le_refl _) (by decide) rfl
  have Hlit := Lib.hid hlit
  clear hlit
  go_enter Try.func16, Try.ntmps16
  go_wp2_with (at_builtin; refine Lib.wpList_append_own_string _ rfl _ _ 27 9 rfl w.heap.size 5 i0 Try.underlying27 Try.underlying9 hi hz0 hz1 hz2 _ 3 [.int .u8 (x0.toNat : Int), .int .u8 (x1.toNat : Int), .int .u8 (x2.toNat : Int)] rfl Hlit.out s rfl ?c1 ?c2 ?c3 ?_)
  case c1 => unfold maxLen; omega
  case c2 => omega
  case c3 => show w.heap.size ≤ (w.heap.push _).size; simp
  intro v' wA hown hgr hnil
  have hcA : Chg NoB w wA := ((Chg.refl NoB w).alloc _).grown hgr (by intro k hk; simp [Value.ownBlock] at hk; right; omega)
  have hsrc : Src wA v' (frameL s.data.toList) := by
    have ho : Own wA w.heap.size v' (frameL s.data.toList) := by
      unfold Own
      rw [Hfl.out, ← Hfr.out, bytesV_append]
      exact hown
    exact ho.src
  have HcA := Lib.hid hcA
  have Hsrc := Lib.hid hsrc
  obtain ⟨ad, cp, rfl⟩ := shape_of hown
  have hLA : Lg wA l b cnt := HL.out.chg hcA id
  have cl0 := cell_of_row wA l 0 _ 45 (0, 0) hLA
  simp at cl0
  have Hrb := Lib.hid (H.out.keep hcA)
  clear hown hgr hnil hcA hsrc hLA hi hz0 hz1 hz2
  go_wp2_with fail
  refine (write_plain b R xs safe acts keep _ (frameL s.data.toList) wA Hrb.out Hsrc.out (by omega) (by rw [Hfl.out]; omega)).mono ?_
  rintro e wB ⟨rfl, R2, hrB, hwB⟩
  have HrB := Lib.hid hrB
  have HwB := Lib.hid hwB
  have hLB : Lg wB l b cnt := (HL.out.chg HcA.out id).chg hwB.chg hlR
  have cl1 := cell_of_row wB l 0 _ 45 (0, 0) hLB
  simp at cl1
  clear hrB hwB hLB cl0
  go_wp2_with fail
  refine (flush_plain b R2 _ _ _ _ wB HrB.out (by omega)).mono ?_
  rintro e wC ⟨rfl, R3, hrC, hwC⟩
  have HrC := Lib.hid hrC
  have HwC := Lib.hid hwC
  clear hrC hwC cl1
  go_wp2_with fail
  go_ret
  exact ⟨rfl, R3, HrC.out, went_no HcA.out (HwB.out.trans HwC.out)⟩
/- behind an append -/
def Appd (l b cnt : Nat) (R : Nat → Prop) (xs : List UInt8) (acts : Nat) (keep : Int) (s : List UInt8) (w : World) (e : Ending) (w' : World) : Prop :=
  e = .returned (.int .i64 0) ∧ Lg w' l b (cnt + 1) ∧ Chg (fun k => R k ∨ k = l) w w' ∧ ∃ R', Rb w' b R' ⟨xs ++ frameL s, (xs ++ frameL s).length, false, acts + 2, 0, keep⟩ ∧ (∀ k, R' k → R k ∨ w.heap.size ≤ k) ∧ ¬ R' l ∧ Bd R' w'
set_option maxHeartbeats 2000000 in
theorem append_log (l b cnt : Nat) (R : Nat → Prop) (xs : List UInt8) (safe acts : Nat) (keep : Int) (s : ByteArray) (w : World) (h : Rb w b R ⟨xs, safe, false, acts, 0, keep⟩) (hL : Lg w l b cnt) (hlR : ¬ R l) (hbd : Bd R w)
    (hs : s.size ≤ 65536) (hb : acts < 1000000) (hc : cnt < 1000000) (hl : xs.length + 3 + s.size ≤ 1048576) :
    Calls Try.prog 9 #[.pointer (some ⟨l, 0, none⟩), .string s] w (Appd l b cnt R xs acts keep s.data.toList w) := by
  have c2 := cell_of_row w l 2 _ 45 (0, 0) hL
  simp at c2
  have HY := Lib.hid (lay_any l b cnt R xs safe acts keep s w h hL hlR hbd hs hb hl)
  have HL := Lib.hid hL
  have HB := Lib.hid hbd
  have hlw := lt_of_block hL
  clear h hL hbd
  go_enter Try.func9, Try.ntmps9
  go_wp2_with fail
  refine HY.out.mono ?_
  rintro e w1 ⟨rfl, R2, hr, hw⟩
  have Hr := Lib.hid hr
  have Hw := Lib.hid hw
  have hL1 : Lg w1 l b cnt := HL.out.chg hw.chg hlR
  have hl1 := lt_of_block hL1
  have d1 := cell_of_row w1 l 1 _ 45 (0, 0) hL1
  have d2 := cell_of_row w1 l 2 _ 45 (0, 0) hL1
  simp at d1 d2
  have f := fz hL1
  have HL1 := Lib.hid hL1
  clear hr hw hL1 c2
  go_wp2_with fail
  go_ret
  have hl2 : ¬ R2 l := fun x => by
    rcases Hw.out.ext l x with y | y
    · exact hlR y
    · omega
  have hch : Chg (fun k => k = l) w1 ((w1.setCell ⟨l, 1, none⟩ (.int .i64 ((cnt : Int) + 1))).setCell ⟨l, 2, none⟩ (.bool false)) := setB _ (setB _ (Chg.refl _ w1))
  have hh := heap_set (heap_set HL1.out (i := 1) (.int .i64 ((cnt : Int) + 1))) (i := 2) (.bool false)
  generalize (w1.setCell ⟨l, 1, none⟩ (.int .i64 ((cnt : Int) + 1))).setCell ⟨l, 2, none⟩ (.bool false) = w2 at hch hh
  refine ⟨rfl, ?_, (Hw.out.chg.mono fun k _ hk => .inl hk).trans (hch.mono fun k _ hk => .inr hk), R2, Hr.out.chg hch (fun k hk e => hl2 (by rw [← e]; exact hk)), fun k hk => ?_, hl2, (HB.out.went Hw.out).chg hch⟩
  · unfold Lg
    rw [hh]
    simp
  · rcases Hw.out.ext k hk with x | x
    · exact .inl x
    · exact .inr x.1
end Go.Proofs.Ytdgpeffbgejjlaa
