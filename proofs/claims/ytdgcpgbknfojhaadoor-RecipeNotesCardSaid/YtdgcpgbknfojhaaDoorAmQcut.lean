/- The contracts of the program's Cut and Whole, between quotes. Condition: the text is not too long. -/
import Derived.Test.YtdgcpgbknfojhaaDoorAmQuote

namespace Go.Proofs.YtdgcpgbknfojhaaDoor
set_option linter.unusedVariables false
open Go.ChangeShapes Go.WideShapes Go.ChangeAt Go.RowKit
theorem txQ (a : List UInt8) : (tx a).toList = a := by rw [Lib.toList_data, tx_list]
theorem cut_from (l : List UInt8) (k n : Nat) (hn : n = l.length) (hk : k ≤ n) : (tx l).extract k n = tx (l.drop k) := by
  subst hn
  apply ByteArray.ext
  rw [ByteArray.data_extract]
  show l.toArray.extract k l.length = (l.drop k).toArray
  simp [List.take_of_length_le]
theorem cut_one (c : UInt8) (r : List UInt8) : (tx (c :: r)).extract 1 (c :: r).length = tx r := by
  rw [cut_from (c :: r) 1 _ rfl (by simp)]
  rfl
def strN : Value → Nat
  | .string b => b.size
  | _ => 0
def cutV : Option (List UInt8 × List UInt8) → Ending
  | some (t, r) => .returned (.tuple #[.string (tx t), .string (tx r), .bool true])
  | none => .returned (.tuple #[.string ⟨#[]⟩, .string ⟨#[]⟩, .bool false])
def SayC (o : Option (List UInt8 × List UInt8)) (w : World) (e : Ending) (w' : World) : Prop := e = cutV o ∧ Chg NoB w w'
def onto (acc : List UInt8) (o : Option (List UInt8 × List UInt8)) : Option (List UInt8 × List UInt8) := o.map fun x => (acc ++ x.1, x.2)
theorem onto_nil (o : Option (List UInt8 × List UInt8)) : onto [] o = o := by cases o <;> rfl
theorem onto_first {acc : List UInt8} {c : UInt8} {r : List UInt8} (h1 : c.toNat ≠ 34) (h2 : (firstF (c :: r)).2 ≠ 0) : onto acc (cutR (c :: r)) = onto (acc ++ [(firstF (c :: r)).1]) (cutR ((c :: r).drop (firstF (c :: r)).2)) := by
  rw [cutR_cons, if_neg h1, if_neg h2]
  cases cutR ((c :: r).drop (firstF (c :: r)).2) with
  | none => rfl
  | some x => simp [onto]
set_option maxHeartbeats 4000000 in
set_option maxRecDepth 20000 in
theorem qcut_any (s : List UInt8) (w : World) (hs : s.length ≤ 131072) : Calls Tryd.prog 51 #[.string (tx s)] w (SayC (quoCut s) w) := by
  have hz : (tx s).size = s.length := tx_size s
  rcases s with _ | ⟨c, r0⟩
  · have en : (tx []).toList = [] := txQ []
    go_enter Tryd.func51, Tryd.ntmps51
    go_wp2_with fail
    go_ret3
    exact ⟨rfl, Chg.refl _ _⟩
  · have en := txQ (c :: r0)
    have g0 : (tx (c :: r0))[0]'(by rw [tx_size]; exact Nat.succ_pos _) = c := rfl
    have hz0 : (tx r0).size = r0.length := tx_size r0
    by_cases hc : c.toNat = 34
    · have hcut : (tx (c :: r0)).extract 1 (r0.length + 1) = tx r0 := cut_one c r0
      have hx0 : quoCut (c :: r0) = cutR r0 := by rw [quoCut_cons, if_neg (by simp [hc])]
      have Hx0 := Lib.hid hx0
      have HF := Lib.hid (fun (s : List UInt8) (w : World) (h0 : s ≠ []) (hs : s.length ≤ 131072) => first_any s w h0 hs)
      rw [List.length_cons] at hs
      have hcd : ((c.toNat : Int) != 34) = false := by simp [hc]
      clear hx0
      go_enter Tryd.func51, Tryd.ntmps51
      go_wp2_with fail
      go_loopw [0, 5] (fun sv o wr => ∃ r acc, sv = .string (tx r) ∧ r.length ≤ r0.length ∧ acc.length + r.length ≤ r0.length ∧ Own wr w.heap.size o acc ∧ Chg NoB w wr ∧ cutR r0 = onto acc (cutR r)) (fun sv _ _ => strN sv)
      case atStart => exact ⟨r0, [], rfl, Nat.le_refl _, by simp, World.ownsRow_nil _ _ _ _, Chg.refl _ _, (onto_nil _).symm⟩
      case round =>
        obtain ⟨r, acc, rfl, hrl, hal, ho, hch, hx⟩ := hrel
        have Hx := Lib.hid hx
        obtain ⟨ad, cap, rfl, -, -, -⟩ := ho.shape
        obtain ⟨n, hn⟩ : ∃ n, n = acc.length := ⟨_, rfl⟩
        unfold Own at ho
        rw [← hn] at ho ⊢
        have Hn := Lib.hid hn
        have Ho := Lib.hid ho
        have Hch := Lib.hid hch
        have hnb : n ≤ 131072 := by omega
        have en := txQ r
        have hzr : (tx r).size = r.length := tx_size r
        clear hx ho hch hn
        rcases r with _ | ⟨d, r⟩
        · go_wp2_with fail
          go_ret3
          exact ⟨by rw [Hx0.out, Hx.out]; rfl, Hch.out⟩
        · have g0 : (tx (d :: r))[0]'(by rw [tx_size]; exact Nat.succ_pos _) = d := rfl
          have hdr : (tx r).size = r.length := tx_size r
          by_cases hd : d.toNat = 34
          · have hdd : ((d.toNat : Int) != 34) = false := by simp [hd]
            have hcut2 : (tx (d :: r)).extract 1 (r.length + 1) = tx r := cut_one d r
            have Hown := Lib.hid (show Own wr w.heap.size (.slice ad n cap) acc from by unfold Own; rw [← Hn.out]; exact Ho.out)
            have cv : ∀ k, (convert 69 9 (.slice ad n cap)).run Tryd.prog (wr.drewN k) = .ok (.string (tx acc)) (wr.drewN k) := fun k =>
              (Hown.out.chg ((Chg.refl NoB wr).drewN k) fun _ _ => id).src.conv
            go_wp2_with fail
            go_quiet (fail)
            have HW := Lib.hid (Hch.out.drewN nq)
            generalize wr.drewN nq = w2 at *
            go_wp2_with fail
            go_ret3
            refine ⟨?_, HW.out⟩
            rw [Hx0.out, Hx.out, cutR_cons, if_pos hd]
            simp only [onto, Option.map_some, List.append_nil, cutV]
            rfl
          · have hdd : ((d.toNat : Int) != 34) = true := by rw [bne_iff_ne]; omega
            have hle := firstF_le (d :: r)
            rw [List.length_cons] at hle hrl hal
            have Honto := Lib.hid (fun h => onto_first (acc := acc) (r := r) hd h)
            have Hnone := Lib.hid (fun h => show cutR (d :: r) = none by rw [cutR_cons, if_neg hd, if_pos h])
            have HFc := Lib.hid (HF.out (d :: r) wr (List.cons_ne_nil _ _) (by rw [List.length_cons]; omega))
            generalize firstF (d :: r) = f at *
            obtain ⟨b, m⟩ := f
            simp only at hle
            go_wp2_with fail
            refine HFc.out.mono ?_
            rintro e w2 ⟨rfl, hc2⟩
            have Hc2 := Lib.hid hc2
            clear hc2
            by_cases hm : m = 0
            · subst hm
              go_wp2_with fail
              go_ret3
              exact ⟨by rw [Hx0.out, Hx.out, Hnone.out (by simp)]; rfl, Hch.out.trans Hc2.out⟩
            · have hm0 : ((m : Int) == 0) = false := by rw [beq_eq_false_iff_ne]; omega
              have hcut2 : (tx (d :: r)).extract m (r.length + 1) = tx ((d :: r).drop m) := cut_from (d :: r) m _ rfl (by omega)
              have hm1 : (m : Int) ≤ (r.length : Int) + 1 := by omega
              have hal_ := (Chg.refl NoB w2).alloc (.cells #[.int .u8 (b.toNat : Int)] 5)
              have hb_ := heap_alloc_new w2 (.cells #[.int .u8 (b.toNat : Int)] 5)
              obtain ⟨lb, hxb_⟩ : ∃ b, b = w2.heap.size := ⟨_, rfl⟩
              obtain ⟨w3, hw_⟩ : ∃ w_, w2.alloc (.cells #[.int .u8 (b.toNat : Int)] 5) = w_ := ⟨_, rfl⟩
              have hz_ : w3.heap.size = lb + 1 := by rw [← hw_, hxb_]; exact alloc_size _ _
              rw [hw_] at hal_ hb_
              rw [← hxb_] at hb_
              have Hw3 := Lib.hid hw_
              have Hx3 := Lib.hid hxb_
              have Ha3 := Lib.hid hal_
              have Hb3 := Lib.hid hb_
              have Hz3 := Lib.hid hz_
              clear hal_ hb_ hxb_ hw_ hz_
              have Ho3 := Lib.hid (ownsRow_chg Ho.out (Hc2.out.trans Ha3.out) fun _ _ => id)
              have Hbase := Lib.hid (show w.heap.size ≤ w3.heap.size from Nat.le_trans Hch.out.size (Hc2.out.trans Ha3.out).size)
              go_wp2_with (at_builtin; go_loud (rw [← Hx3.out, Hw3.out]); go_loud (refine wpList_lit (m := 1) (v := .slice ad n cap) (ys := [b]) rfl _ _ rfl rfl rfl rfl Hn.out Ho3.out Hb3.out (by omega) Hbase.out ?_); intro v4 w4 h4 hc4)
              have hdl : ((d :: r).drop m).length + m = r.length + 1 := by rw [List.length_drop, List.length_cons]; omega
              go_roundw
              case rel => exact ⟨(d :: r).drop m, acc ++ [b], rfl, by omega, by rw [List.length_append, List.length_singleton]; omega, h4, ((Hch.out.trans Hc2.out).trans Ha3.out).above hc4 fun j hj => (World.ownsRow.lt Ho3.out j hj).1, by rw [Hx.out]; exact Honto.out hm⟩
              case measure =>
                simp only [strN, tx_size]
                show (tx ((d :: r).drop m)).size < (tx (d :: r)).size
                rw [tx_size, tx_size, List.length_cons]
                omega
    · have hx0 : quoCut (c :: r0) = none := by rw [quoCut_cons, if_pos hc]
      have Hx0 := Lib.hid hx0
      have hcd : ((c.toNat : Int) != 34) = true := by rw [bne_iff_ne]; omega
      clear hx0
      go_enter Tryd.func51, Tryd.ntmps51
      go_wp2_with fail
      go_ret3
      exact ⟨by rw [Hx0.out]; rfl, Chg.refl _ _⟩
def oneV : Option (List UInt8) → Ending
  | some t => .returned (.tuple #[.string (tx t), .bool true])
  | none => .returned (.tuple #[.string ⟨#[]⟩, .bool false])
def SayO (o : Option (List UInt8)) (w : World) (e : Ending) (w' : World) : Prop := e = oneV o ∧ Chg NoB w w'
end Go.Proofs.YtdgcpgbknfojhaaDoor
