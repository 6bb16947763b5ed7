/- Steps and lists that the encoding of a build wants. No condition beyond the laws'. -/
import Derived.Test.YtnipiphhkcafhaaGreatDoorDvGood
import Derived.Test.YtnipiphhkcafhaaGreatDoorKbRow
import Derived.Test.YtnipiphhkcafhaaGreatDoorSxListN
import Derived.Test.YtnipiphhkcafhaaGreatDoorApp
import Derived.Test.YtnipiphhkcafhaaGreatDoorVerLow
import Derived.Deep.RegionHeld3
namespace Go.Proofs.YtnipiphhkcafhaaGreatDoor
set_option linter.unusedVariables false
open Go.ChangeShapes Go.WideShapes Go.ChangeAt Go.RowKit
theorem step_append_at {P : Program} {ops : Array Oper} {o : Oper} {a : Act} {K : Act → World → Prop} {Q : Exit → Act → World → Prop} {E : Prop} (hgd : o.guard = none) (w : World) (s x : Operand) (t : TypeId)
    (ho : o.op = .call { callee := .builtin .append, args := #[s, x], argTypes := #[t, t] })
    (base : Nat) (e : TypeId) (i : TypeInfo) (z : Value) (size bytes : Nat) (ht : P.underlying t = some (.slice e)) (hi : P.info? e = some i) (hz : i.zero = some z)
    (hsize : i.size = size) (hby : i.bytes = bytes) (hzs : z.cells.size = size) (hsz : 0 < size)
    (v : Value) (n : Nat) (xs : List Value) (hs : a.eval s = v) (hown : w.ownsRow base e size v n xs)
    (ad : Addr) (m c : Nat) (news : List Value) (hx : a.eval x = .slice (some ad) m c) (hl : news.length = m * size) (hnews : ∀ j u, news[j]? = some u → w.cell? (ad.add j) = some u) (h1 : ∀ u ∈ news, u.oneCell' = true)
    (h63 : n + m ≤ maxLen) (hbytes : (n + m) * bytes ≤ 140737488355328) (hbase : base ≤ w.heap.size)
    (h : ∀ v' w', w'.ownsRow base e size v' (n + m) (xs ++ news) → w.grownBy w' v.ownBlock → (v'.ownBlock = v.ownBlock ∨ v'.ownBlock = some w.heap.size) → K (a.put o.dst v') w') :
    if Region.wanted o (yielded ops a.tmps) = true then Oper.wp P o a w K Q else E := by
  have hw : Region.wanted o (yielded ops a.tmps) = true := by simp [Region.wanted, hgd]
  rw [if_pos hw]
  obtain ⟨v', w', hr, h2, h3, h4⟩ := run_append_own (P := P) w base t o.type e i z size bytes ht hi hz hsize hby hzs hsz v n xs hown ad m c news hl hnews h1 h63 hbytes hbase
  have h5 := append_place w base t o.type e i z size bytes ht hi hz hsize hby hzs hsz v n xs hown ad m c news hl hnews h1 h63 hbytes hr
  unfold Oper.wp execOp
  simp only [ho, resolve, invoke, builtin, Sem.run_bind, Sem.run_pure, Result.andThen_ok, List.map_toArray, List.map_cons, List.map_nil, hs, hx, hr]
  exact h v' w' h2 h3 h5
theorem nds_two (w : World) (a b : ByteArray) (ha : a.size ≤ maxLen) (hb : b.size ≤ maxLen) : NdS (w.alloc (.cells #[.bool true, .string a, .slice none 0 0, .bool true, .string b, .slice none 0 0] 39)) (fun x => x = w.heap.size) (.slice (some ⟨w.heap.size, 0, none⟩) 2 2) [.mk true a [], .mk true b []] w.heap.size 0 := by
  have c := fun i => cell_of_row (w.alloc (.cells #[.bool true, .string a, .slice none 0 0, .bool true, .string b, .slice none 0 0] 39)) w.heap.size i _ _ (0, 0) (heap_alloc_new w _)
  refine ⟨⟨_, 2, rfl, Nat.le_refl _, by decide, fun _ => rfl⟩, fun i hi => ?_⟩
  match i, hi with
  | 0, _ => exact NdC.of rfl ha (by rw [c]; rfl) (by rw [c]; rfl) (by rw [c]; rfl) (NdS.nil _ _)
  | 1, _ => exact NdC.of rfl hb (by rw [c]; rfl) (by rw [c]; rfl) (by rw [c]; rfl) (NdS.nil _ _)
theorem nds_five {w : World} {S : Nat → Prop} (a b d e : ByteArray) (ha : a.size ≤ maxLen) (hb : b.size ≤ maxLen) (hd : d.size ≤ maxLen) (he : e.size ≤ maxLen) {q : Option Addr} {l cp : Nat} {ks : List Nd} {kb ko : Nat} (hs : NdS w S (.slice q l cp) ks kb ko) :
    NdS (w.alloc (.cells #[.bool true, .string a, .slice none 0 0, .bool true, .string b, .slice none 0 0, .bool true, .string d, .slice none 0 0, .bool true, .string e, .slice none 0 0, .bool false, .string ⟨#[]⟩, .slice q l cp] 39)) (fun x => x = w.heap.size ∨ S x) (.slice (some ⟨w.heap.size, 0, none⟩) 5 5) [.mk true a [], .mk true b [], .mk true d [], .mk true e [], .mk false ⟨#[]⟩ ks] w.heap.size 0 := by
  have c := fun i => cell_of_row (w.alloc (.cells #[.bool true, .string a, .slice none 0 0, .bool true, .string b, .slice none 0 0, .bool true, .string d, .slice none 0 0, .bool true, .string e, .slice none 0 0, .bool false, .string ⟨#[]⟩, .slice q l cp] 39)) w.heap.size i _ _ (0, 0) (heap_alloc_new w _)
  have hal := (Chg.refl NoB w).alloc (.cells #[.bool true, .string a, .slice none 0 0, .bool true, .string b, .slice none 0 0, .bool true, .string d, .slice none 0 0, .bool true, .string e, .slice none 0 0, .bool false, .string ⟨#[]⟩, .slice q l cp] 39)
  refine ⟨⟨_, 5, rfl, Nat.le_refl _, by decide, fun _ => rfl⟩, fun i hi => ?_⟩
  match i, hi with
  | 0, _ => exact NdC.of (.inl rfl) ha (by rw [c]; rfl) (by rw [c]; rfl) (by rw [c]; rfl) (NdS.nil _ _)
  | 1, _ => exact NdC.of (.inl rfl) hb (by rw [c]; rfl) (by rw [c]; rfl) (by rw [c]; rfl) (NdS.nil _ _)
  | 2, _ => exact NdC.of (.inl rfl) hd (by rw [c]; rfl) (by rw [c]; rfl) (by rw [c]; rfl) (NdS.nil _ _)
  | 3, _ => exact NdC.of (.inl rfl) he (by rw [c]; rfl) (by rw [c]; rfl) (by rw [c]; rfl) (NdS.nil _ _)
  | 4, _ => exact NdC.of (.inl rfl) (Nat.zero_le _) (by rw [c]; rfl) (by rw [c]; rfl) (by rw [c]; rfl) ((hs.keep hal fun _ _ => id).mono fun _ => .inr)
/- how great -/
theorem atom_cnt (l : List UInt8) : (atomF l).count = 1 + l.length := by
  unfold atomF
  rw [Nd.count, Nd.counts, tx_size]
  omega
theorem key_len {l : List UInt8} (h : keyB l = true) : l.length = 13 := by
  unfold keyB Mix.parseB at h
  have h2 : Mix.goodL l := by simpa using h
  exact h2.1
theorem input_cnt {x : InL} (h : okI x = true) : (inputF x).count ≤ 48 := by
  unfold okI at h
  rw [Bool.and_eq_true] at h
  have h1 := (Pth.nameL_iff.1 h.1).2.1
  have h2 := key_len h.2
  unfold inputF
  rw [Nd.count, Nd.counts, Nd.counts, Nd.counts, atom_cnt, atom_cnt]
  have h0 : (⟨#[]⟩ : ByteArray).size = 0 := rfl
  omega
theorem inputs_cnt (l : List InL) (h : ∀ i (hi : i < l.length), okI l[i] = true) : Nd.counts (l.map inputF) ≤ 48 * l.length := by
  induction l with
  | nil => exact Nat.zero_le _
  | cons x r ih =>
    rw [List.map_cons, Nd.counts, List.length_cons]
    have h1 := input_cnt (h 0 (by simp))
    have h2 := ih fun i hi => h (i + 1) (by simpa using hi)
    simp only [List.getElem_cons_zero] at h1
    omega
theorem dot_len {a b c : Int} (h : Ver.goodB a b c = true) : (Ver.dotL a.toNat b.toNat c.toNat).length ≤ 11 := by
  obtain ⟨a0, a1, b0, b1, c0, c1⟩ := Ver.good_iff.1 h
  have h1 := (Ver.okP_parts (Ver.okP_dec a.toNat (by omega))).2.1
  have h2 := (Ver.okP_parts (Ver.okP_dec b.toNat (by omega))).2.1
  have h3 := (Ver.okP_parts (Ver.okP_dec c.toNat (by omega))).2.1
  unfold Ver.dotL
  simp only [List.length_append, List.length_cons]
  omega
theorem drv_cnt {d : DrvL} (hg : goodD d = true) : Nd.counts (d.ins.map inputF) ≤ 1920 ∧ (nodeD d).count ≤ 4096 := by
  obtain ⟨h1, h2, h3, h4, _, h6⟩ := (goodD_iff d).1 hg
  have n1 := (Pth.nameL_iff.1 h1).2.1
  have n2 := dot_len h2
  have n3 := key_len h3
  have n4 := inputs_cnt d.ins h6
  refine ⟨by omega, ?_⟩
  unfold nodeD
  rw [Nd.count]
  simp only [Nd.counts, atom_cnt]
  rw [Nd.count]
  have h0 : (⟨#[]⟩ : ByteArray).size = 0 := rfl
  have h7 : drvB.length = 3 := rfl
  omega
/- the text of a version that can be -/
theorem vtext_any (a b c : Int) (base : Nat) (w : World) (h : Lw base w) (hg : Ver.goodB a b c = true) : Calls Tryz.prog 19 #[.agg #[.int .i64 a, .int .i64 b, .int .i64 c]] w fun e w' => e = .returned (.string (tx (Ver.dotL a.toNat b.toNat c.toNat))) ∧ Chg NoB w w' := by
  obtain ⟨a0, a1, b0, b1, c0, c1⟩ := Ver.good_iff.1 hg
  obtain ⟨a, rfl⟩ := Int.eq_ofNat_of_zero_le a0
  obtain ⟨b, rfl⟩ := Int.eq_ofNat_of_zero_le b0
  obtain ⟨c, rfl⟩ := Int.eq_ofNat_of_zero_le c0
  have e1 := Ver.dot_list a b c
  have e2 : Ver.dot (Ver.it a) (Ver.it b) (Ver.it c) = tx (Ver.dotL a b c) := by rw [← e1, tx_back]
  refine (Ver.text_good a b c w h.tab.here hg).mono fun e w' ⟨he, hg⟩ => ⟨?_, chg_of_below hg⟩
  rw [he, e2]
  rfl
theorem vtextR_any (a b c : Int) (base : Nat) (w : World) (h : Lw base w) (hg : Ver.goodB a b c = true) : Calls Tryz.prog 38 #[.agg #[.int .i64 a, .int .i64 b, .int .i64 c]] w fun e w' => e = .returned (.string (tx (Ver.dotL a.toNat b.toNat c.toNat))) ∧ Chg NoB w w' := by
  obtain ⟨a0, a1, b0, b1, c0, c1⟩ := Ver.good_iff.1 hg
  obtain ⟨a, rfl⟩ := Int.eq_ofNat_of_zero_le a0
  obtain ⟨b, rfl⟩ := Int.eq_ofNat_of_zero_le b0
  obtain ⟨c, rfl⟩ := Int.eq_ofNat_of_zero_le c0
  have e1 := Ver.dot_list a b c
  have e2 : Ver.dot (Ver.it a) (Ver.it b) (Ver.it c) = tx (Ver.dotL a b c) := by rw [← e1, tx_back]
  refine (Ver.textR_good a b c w h.tab.here hg).mono fun e w' ⟨he, hg⟩ => ⟨?_, chg_of_below hg⟩
  rw [he, e2]
  rfl
end Go.Proofs.YtnipiphhkcafhaaGreatDoor
