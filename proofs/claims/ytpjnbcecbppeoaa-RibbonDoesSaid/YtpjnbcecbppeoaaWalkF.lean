/- The contracts of a ribbon that is not armed; the statements' own guard answers true. Condition: what stands in RS.ok. -/
import Derived.Test.YtpjnbcecbppeoaaWalkE
import Derived.Lib.SlBytesConst
import Derived.Deep.QuietTactic
import Derived.BigQuiet
namespace Go.Proofs.Ytpjnbcecbppeoaa
set_option linter.unusedVariables false
open Go.ChangeShapes Go.WideShapes Go.ChangeAt Go.RowKit
theorem act_plain (xs : List UInt8) (safe acts : Nat) (keep : Int) : RS.actTo ⟨xs, safe, false, acts, 0, keep⟩ = ⟨xs, safe, false, acts + 1, 0, keep⟩ := rfl
def Plain (b : Nat) (R : Nat → Prop) (s : RS) (w : World) (e : Ending) (w' : World) : Prop := e = .returned (.int .i64 0) ∧ ∃ R', Rb w' b R' s ∧ Went R R' w w'
theorem write_plain (b : Nat) (R : Nat → Prop) (xs : List UInt8) (safe acts : Nat) (keep : Int) (v : Value) (ys : List UInt8) (w : World) (h : Rb w b R ⟨xs, safe, false, acts, 0, keep⟩) (hv : Src w v ys) (hb : acts < 1000000000) (hl : xs.length + ys.length ≤ 1048576) :
    Calls Try.prog 11 #[.pointer (some ⟨b, 0, none⟩), v] w (Plain b R ⟨xs ++ ys, safe, false, acts + 1, 0, keep⟩ w) :=
  (write_any b R _ v ys w h hv rfl hb hl).mono fun e w' hd => hd
theorem flush_plain (b : Nat) (R : Nat → Prop) (xs : List UInt8) (safe acts : Nat) (keep : Int) (w : World) (h : Rb w b R ⟨xs, safe, false, acts, 0, keep⟩) (hb : acts < 1000000000) :
    Calls Try.prog 13 #[.pointer (some ⟨b, 0, none⟩)] w (Plain b R ⟨xs, xs.length, false, acts + 1, 0, keep⟩ w) :=
  (flush_up b R _ w h rfl hb rfl).mono fun e w' hd => ⟨hd.1, R, hd.2.1, Went.same hd.2.2⟩
theorem cut_plain (b : Nat) (R : Nat → Prop) (xs : List UInt8) (safe acts : Nat) (keep : Int) (n : Int) (k : Nat) (w : World) (h : Rb w b R ⟨xs, safe, false, acts, 0, keep⟩) (hb : acts < 1000000000) (hn : n = (k : Int)) (hk : k ≤ xs.length) :
    Calls Try.prog 15 #[.pointer (some ⟨b, 0, none⟩), .int .i64 n] w (Plain b R ⟨xs.take k, k, false, acts + 1, 0, keep⟩ w) := by
  subst hn
  exact (cut_up b R _ k w h rfl hb hk rfl rfl).mono fun e w' hd => ⟨hd.1, R, hd.2.1, Went.same hd.2.2⟩
def Quiet0 (b : Nat) (R : Nat → Prop) (s : RS) (w : World) (e : Ending) (w' : World) : Prop := e = .returned (.tuple #[]) ∧ Rb w' b R s ∧ Went R R w w'
theorem off_plain (b : Nat) (R : Nat → Prop) (xs : List UInt8) (safe acts armed m : Nat) (keep k : Int) (w : World) (h : Rb w b R ⟨xs, safe, false, acts, armed, keep⟩) (hm : m = safe + min k.toNat (xs.length - safe)) :
    Calls Try.prog 17 #[.pointer (some ⟨b, 0, none⟩), .int .i64 k] w (Quiet0 b R ⟨xs.take m, m, true, acts, 0, 0⟩ w) := by
  subst hm
  exact (off_up b R _ k w h rfl).mono fun e w' hd => ⟨hd.1, hd.2.1, Went.same hd.2.2⟩
theorem on_plain (b : Nat) (R : Nat → Prop) (xs : List UInt8) (safe acts armed : Nat) (keep : Int) (down : Bool) (w : World) (h : Rb w b R ⟨xs, safe, down, acts, armed, keep⟩) :
    Calls Try.prog 19 #[.pointer (some ⟨b, 0, none⟩)] w (Quiet0 b R ⟨xs, safe, false, acts, armed, keep⟩ w) :=
  (on_any b R _ w h).mono fun e w' hd => ⟨hd.1, hd.2.1, Went.same hd.2.2⟩
def ReadP (w : World) (xs : List UInt8) (e : Ending) (w' : World) : Prop := ∃ v, e = .returned (.tuple #[v, .int .i64 0]) ∧ Own w' w.heap.size v xs ∧ Chg NoB w w'
theorem read_plain (b : Nat) (R : Nat → Prop) (xs : List UInt8) (safe acts armed : Nat) (keep : Int) (w : World) (h : Rb w b R ⟨xs, safe, false, acts, armed, keep⟩) :
    Calls Try.prog 22 #[.pointer (some ⟨b, 0, none⟩)] w (ReadP w xs) :=
  (read_up b R _ w h rfl).mono fun e w' hd => hd
/- what a statement keeps: what was there when it began; all that the ribbon has lies behind it -/
def Inv (W w : World) (R : Nat → Prop) : Prop := Chg NoB W w ∧ ∀ k, R k → W.heap.size ≤ k
theorem Inv.went {W w w' : World} {R R' : Nat → Prop} (h : Inv W w R) (g : Went R R' w w') : Inv W w' R' :=
  ⟨Chg.above h.1 g.chg h.2, fun k hk => by rcases g.ext k hk with x | x; exact h.2 k x; exact Nat.le_trans h.1.size x.1⟩
theorem Inv.chg {W w w' : World} {R : Nat → Prop} (h : Inv W w R) (g : Chg NoB w w') : Inv W w' R := ⟨h.1.trans g, h.2⟩
theorem Rb.keep {w w' : World} {b : Nat} {R : Nat → Prop} {s : RS} (h : Rb w b R s) (g : Chg NoB w w') : Rb w' b R s := h.chg g fun _ _ => id
theorem two_src (w : World) (a b : UInt8) (x y : Int) (hx : x = (a.toNat : Int)) (hy : y = (b.toNat : Int)) :
    Src (w.alloc (.cells #[.int .u8 x, .int .u8 y] 5 (2, 3))) (.slice (some ⟨w.heap.size, 0, none⟩) 2 2) [a, b] := by
  refine .inr ⟨_, 2, rfl, by simp, by decide, fun j hj => ?_⟩
  have hj' : j < 2 := hj
  have hc := fun j => cell_of_row _ w.heap.size j _ 5 (2, 3) (heap_alloc_new w (.cells #[.int .u8 x, .int .u8 y] 5 (2, 3)))
  have e : (⟨w.heap.size, 0, none⟩ : Addr).add j = ⟨w.heap.size, j, none⟩ := by simp [Addr.add]; omega
  rw [e, hc j]
  obtain rfl | rfl : j = 0 ∨ j = 1 := by omega
  · simp [hx]
  · simp [hy]
theorem read_eq (b : Nat) (R : Nat → Prop) (xs ys : List UInt8) (safe acts armed : Nat) (keep : Int) (w : World) (h : Rb w b R ⟨xs, safe, false, acts, armed, keep⟩) (hx : xs = ys) :
    Calls Try.prog 22 #[.pointer (some ⟨b, 0, none⟩)] w (ReadP w ys) := by
  subst hx; exact read_plain b R _ _ _ _ _ w h
theorem Chg.drewN {S : Nat → Prop} {a w : World} (h : Chg S a w) (n : Nat) : Chg S a (w.drewN n) := ⟨h.os, h.tape, h.output, h.size, h.block⟩
theorem acts_q (b : Nat) (R : Nat → Prop) (s : RS) (w : World) (n : Nat) (h : Rb w b R s) :
    Calls Try.prog 23 #[.pointer (some ⟨b, 0, none⟩)] (w.drewN n) fun e w' => e = .returned (.int .i64 s.acts) ∧ w' = w.drewN n :=
  (acts_any b R s _ (h.keep ((Chg.refl _ _).drewN n))).mono fun e w' hd => ⟨hd.1, hd.2.symm⟩
theorem Src.convN {w : World} {v : Value} {xs : List UInt8} (h : Src w v xs) (n : Nat) : (convert 22 9 v).run Try.prog (w.drewN n) = .ok (.string ⟨xs.toArray⟩) (w.drewN n) :=
  (h.chg ((Chg.refl NoB _).drewN n) fun _ _ => id).conv
theorem bytes5 : Try.prog.bytesOf 5 = 1 := by kernel_rfl
theorem text_cat (xs ys : List UInt8) : (ByteArray.mk xs.toArray ++ ByteArray.mk ys.toArray) = ByteArray.mk (xs ++ ys).toArray := by
  apply ByteArray.ext
  simp [ByteArray.data_append]
theorem text_size (xs : List UInt8) : (ByteArray.mk xs.toArray).size = xs.length := by
  show xs.toArray.size = _
  simp
theorem text_cut (xs : List UInt8) (n : Nat) : (ByteArray.mk xs.toArray).extract 0 n = ByteArray.mk (xs.take n).toArray := by
  apply ByteArray.ext
  simp [ByteArray.data_extract]
def IsRow (k : IntKind) (w : World) (a : Option Addr) (len cap : Nat) (zs : List Int) : Prop :=
  (a = none ∧ len = 0 ∧ cap = 0 ∧ zs = []) ∨
  ∃ x, a = some x ∧ len ≤ cap ∧ cap ≤ maxLen ∧ zs.length = cap ∧ (∀ i, i < zs.length → w.cell? (x.add i) = some (.int k (zs.getD i 0))) ∧ ∀ n ∈ zs, (Lit.int k n).wf = true
theorem isrow_src (w : World) (a : Option Addr) (len cap : Nat) (zs : List Int) (h : IsRow .u8 w a len cap zs) : ∃ xs : List UInt8, xs.length = len ∧ Src w (.slice a len cap) xs := by
  rcases h with ⟨rfl, rfl, rfl, rfl⟩ | ⟨x, rfl, h1, h2, h3, h4, h5⟩
  · exact ⟨[], rfl, .inl ⟨rfl, rfl⟩⟩
  · have hl : ((zs.take len).map fun n => UInt8.ofNat n.toNat).length = len := by rw [List.length_map, List.length_take]; omega
    refine ⟨(zs.take len).map fun n => UInt8.ofNat n.toNat, hl, .inr ⟨x, cap, by rw [hl], by omega, h2, fun j hj => ?_⟩⟩
    have hj' : j < len := by omega
    have hz : j < zs.length := by omega
    rw [h4 j hz]
    have hm : zs.getD j 0 ∈ zs := by rw [List.getD_eq_getElem?_getD, List.getElem?_eq_getElem hz]; exact List.getElem_mem _
    have hw := h5 _ hm
    have hb : 0 ≤ zs.getD j 0 ∧ zs.getD j 0 < 256 := by
      simp only [Lit.wf, Bool.and_eq_true, decide_eq_true_eq] at hw
      have g1 : IntKind.u8.min = 0 := by decide
      have g2 : IntKind.u8.max = 255 := by decide
      omega
    have he : ((zs.take len).map fun n => UInt8.ofNat n.toNat)[j] = UInt8.ofNat (zs.getD j 0).toNat := by
      simp [List.getD_eq_getElem?_getD, List.getElem?_eq_getElem hz]
    rw [he, UInt8.toNat_ofNat']
    congr 2
    omega
set_option maxHeartbeats 2000000 in
theorem alive_any (w : World) : Calls Try.prog 7 #[] w fun e w' => e = .returned (.bool true) ∧ Chg NoB w w' := by
  have hk1 := fun w => Lib.run_convert_bytes_const (P := Try.prog) w 22 5 #[.int .u8 97, .int .u8 98] 2 2 Try.underlying22 Try.underlying5
  have hk2 := fun w => Lib.run_convert_bytes_const (P := Try.prog) w 22 5 #[.int .u8 99, .int .u8 100] 2 2 Try.underlying22 Try.underlying5
  go_enter Try.func7, Try.ntmps7
  go_wp2_with fail
  refine (new_any _ [] _ (.inl ⟨rfl, rfl⟩) (by simp)).mono ?_
  rintro e w1 ⟨b, R, rfl, hr, hc, hR⟩
  have Hr := Lib.hid hr
  have Hi := Lib.hid (show Inv w w1 R from ⟨hc, fun k hk => (hR k hk).1⟩)
  clear hr hc hR
  go_wp2_with fail
  refine (write_plain b R [] 0 0 0 _ [97, 98] _ (Hr.out.keep ((Chg.refl _ _).alloc _)) (two_src w1 97 98 97 98 rfl rfl) (by decide) (by decide)).mono ?_
  rintro e w2 ⟨rfl, R2, hr, hw⟩
  have Hr2 := Lib.hid hr
  have Hi2 := Lib.hid ((Hi.out.chg ((Chg.refl _ _).alloc _)).went hw)
  clear hr hw Hr Hi
  go_wp2_with fail
  refine (flush_plain b R2 _ _ _ _ _ Hr2.out (by decide)).mono ?_
  rintro e w3 ⟨rfl, R3, hr, hw⟩
  have Hr3 := Lib.hid hr
  have Hi3 := Lib.hid (Hi2.out.went hw)
  clear hr hw Hr2 Hi2
  go_wp2_with fail
  refine (write_plain b R3 _ _ _ _ _ [99, 100] _ (Hr3.out.keep ((Chg.refl _ _).alloc _)) (two_src w3 99 100 99 100 rfl rfl) (by decide) (by decide)).mono ?_
  rintro e w4 ⟨rfl, R4, hr, hw⟩
  have Hr4 := Lib.hid hr
  have Hi4 := Lib.hid ((Hi3.out.chg ((Chg.refl _ _).alloc _)).went hw)
  clear hr hw Hr3 Hi3
  go_wp2_with fail
  refine (off_plain b R4 _ _ _ _ 3 _ 1 _ Hr4.out (by decide)).mono ?_
  rintro e w5 ⟨rfl, hr, hw⟩
  have Hr5 := Lib.hid hr
  have Hi5 := Lib.hid (Hi4.out.went hw)
  clear hr hw Hr4 Hi4
  go_wp2_with fail
  refine (on_plain b R4 _ _ _ _ _ _ _ Hr5.out).mono ?_
  rintro e w6 ⟨rfl, hr, hw⟩
  have Hr6 := Lib.hid hr
  have Hi6 := Lib.hid (Hi5.out.went hw)
  clear hr hw Hr5 Hi5
  go_wp2_with fail
  refine (read_eq b R4 _ [97, 98, 99] _ _ _ _ _ Hr6.out (by decide)).mono ?_
  rintro e w7 ⟨v, rfl, ho, hc⟩
  have hcv := ho.src.conv
  have Hi7 := Lib.hid (Hi6.out.chg hc)
  clear ho hc Hr6 Hi6
  go_wp2_with fail
  go_ret
  exact ⟨rfl, Hi7.out.1⟩
end Go.Proofs.Ytpjnbcecbppeoaa
