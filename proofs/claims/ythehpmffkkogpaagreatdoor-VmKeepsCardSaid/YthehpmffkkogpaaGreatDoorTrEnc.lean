/- How much files weigh, of the statements; a tree as a node; the contract of the program's Encode. Conditions: at most 2^20 files, texts of at most 2^17 bytes; the list of powers reads as the program's text lays it; the library's own variable holds some number. -/
import Derived.Test.YthehpmffkkogpaaGreatDoorTrEq
import Derived.Test.YthehpmffkkogpaaGreatDoorKbRow
import Derived.Test.YthehpmffkkogpaaGreatDoorSxListN
import Derived.Test.YthehpmffkkogpaaGreatDoorApp
import Derived.Test.YthehpmffkkogpaaGreatDoorDvEnc
import Derived.Test.YthehpmffkkogpaaGreatDoorCdBackP
import Derived.Deep.RegionHeld3
import Derived.Deep.RegionLaw
namespace Go.Proofs.YthehpmffkkogpaaGreatDoor
set_option linter.unusedVariables false
open Go.ChangeShapes Go.WideShapes Go.ChangeAt Go.RowKit
def sumI : List InL → Nat
  | [] => 0
  | x :: r => x.1.length + x.2.length + sumI r
theorem sumI_app (a b : List InL) : sumI (a ++ b) = sumI a + sumI b := by
  induction a with
  | nil => rw [sumI]; simp
  | cons k r ih => rw [List.cons_append, sumI, sumI, ih]; omega
theorem sumI_take (ps : List InL) (k : Nat) (h : k < ps.length) : sumI (ps.take (k + 1)) = sumI (ps.take k) + (ps[k].1.length + ps[k].2.length) := by
  rw [List.take_add_one, List.getElem?_eq_getElem h, sumI_app]
  simp [sumI]
theorem sumI_sub (ps : List InL) (k : Nat) : sumI (ps.take k) ≤ sumI ps := by
  have : sumI ps = sumI (ps.take k) + sumI (ps.drop k) := by rw [← sumI_app, List.take_append_drop]
  omega
theorem sumI_at (ps : List InL) (i : Nat) (hi : i < ps.length) : ps[i].1.length + ps[i].2.length ≤ sumI ps := by
  have h1 := sumI_take ps i hi
  have h2 := sumI_sub ps (i + 1)
  omega
def greatF (xs : List FileL) : Bool := decide (131072 < sumI xs) || decide (200 < xs.length)
theorem great_no {xs : List FileL} (h : greatF xs = false) : xs.length ≤ 200 ∧ ∀ x ∈ xs, x.1.length ≤ 131072 ∧ x.2.length ≤ 131072 := by
  unfold greatF at h
  simp only [Bool.or_eq_false_iff, decide_eq_false_iff_not] at h
  refine ⟨by omega, fun x hx => ?_⟩
  obtain ⟨i, hi, rfl⟩ := List.getElem_of_mem hx
  have := sumI_at xs i hi
  omega
def atomF (l : List UInt8) : Nd := .mk true (tx l) []
def atL (n : Nd) : List UInt8 := n.atom.data.toList
theorem atL_atomF (l : List UInt8) : atL (atomF l) = l := by
  show (tx l).data.toList = l
  simp [tx]
def inputF (x : List UInt8 × List UInt8) : Nd := .mk false ⟨#[]⟩ [atomF x.1, atomF x.2]
theorem step_append_at {P : Program} {ops : Array Oper} {o : Oper} {a : Act} {K : Act → World → Prop} {Q : Exit → Act → World → Prop} {E : Prop} (hgd : o.guard = none) (w : World) (s x : Operand) (t : TypeId)
    (ho : o.op = .call { callee := .builtin .append, args := #[s, x], argTypes := #[t, t] })
    (base : Nat) (e : TypeId) (i : TypeInfo) (z : Value) (size bytes : Nat) (ht : P.underlying t = some (.slice e)) (hi : P.info? e = some i) (hz : i.zero = some z)
    (hsize : i.size = size) (hby : i.bytes = bytes) (hzs : z.cells.size = size) (hsz : 0 < size)
    (v : Value) (n : Nat) (xs : List Value) (hs : a.eval s = v) (hown : w.ownsRow base e size v n xs)
    (ad : Addr) (m c : Nat) (news : List Value) (hx : a.eval x = .slice (some ad) m c) (hl : news.length = m * size) (hnews : ∀ j u, news[j]? = some u → w.cell? (ad.add j) = some u) (h1 : ∀ u ∈ news, u.oneCell' = true)
    (h63 : n + m ≤ maxLen) (hbytes : (n + m) * bytes ≤ 140737488355328) (hbase : base ≤ w.heap.size)
    (h : ∀ v' w', w'.ownsRow base e size v' (n + m) (xs ++ news) → w.grownBy w' v.ownBlock → (v'.ownBlock = v.ownBlock ∨ v'.ownBlock = some w.heap.size) → K (a.put o.dst v') w') :
    if Region.wanted o (yielded ops a.tmps) = true then Oper.wp P o a w K Q else E := by
  have hw : Region.wanted o (yielded ops a.tmps) = true := by simp [Region.wanted, hgd]
  rw [if_pos hw]
  obtain ⟨v', w', hr, h2, h3, h4⟩ := run_append_own (P := P) w base t o.type e i z size bytes ht hi hz hsize hby hzs hsz v n xs hown ad m c news hl hnews h1 h63 hbytes hbase
  have h5 := append_place w base t o.type e i z size bytes ht hi hz hsize hby hzs hsz v n xs hown ad m c news hl hnews h1 h63 hbytes hr
  unfold Oper.wp execOp
  simp only [ho, resolve, invoke, builtin, Sem.run_bind, Sem.run_pure, Result.andThen_ok, List.map_toArray, List.map_cons, List.map_nil, hs, hx, hr]
  exact h v' w' h2 h3 h5
theorem atom_cnt (l : List UInt8) : (atomF l).count = 1 + l.length := by
  unfold atomF
  rw [Nd.count, Nd.counts, tx_size]
  omega
def treeN (l : List FileL) : Nd := .mk false ⟨#[]⟩ (l.map inputF)
def encT (l : List FileL) : ByteArray × Int := if goodF l = true then encO (putN (treeN l) 0 []) else (⟨#[]⟩, 1)
theorem good_ok {l : List FileL} (h : goodF l = true) : makeF l = .ok l := by
  unfold goodF at h
  split at h
  · rename_i m hm
    rw [hm, of_decide_eq_true h]
  · cases h
theorem good_iff {l : List FileL} : goodF l = true ↔ makeF l = .ok l := ⟨good_ok, fun h => by unfold goodF; rw [h]; simp⟩
theorem make_parts {l d : List FileL} (h : makeF l = .ok d) : l.length ≤ 32 ∧ (∀ x ∈ l, Pth.goodL x.1 = true ∧ x.2.length ≤ 2048) ∧ (keysL l).Nodup ∧ clashF l = false ∧ d = sortF l := by
  unfold makeF at h
  split at h
  · cases h
  · rename_i h32
    split at h
    · cases h
    · rename_i hb
      split at h
      · rename_i hk
        split at h
        · cases h
        · rename_i hc
          cases h
          exact ⟨by omega, badF_none.1 hb, hk, by simpa using hc, rfl⟩
      · cases h
theorem inp_cnt {x : FileL} (h1 : x.1.length ≤ 128) (h2 : x.2.length ≤ 2048) : (inputF x).count ≤ 2200 := by
  unfold inputF
  rw [Nd.count, Nd.counts, Nd.counts, Nd.counts, atom_cnt, atom_cnt]
  have h0 : (⟨#[]⟩ : ByteArray).size = 0 := rfl
  omega
theorem inps_cnt : ∀ (l : List FileL), (∀ x ∈ l, x.1.length ≤ 128 ∧ x.2.length ≤ 2048) → Nd.counts (l.map inputF) ≤ 2200 * l.length
  | [], _ => by simp [Nd.counts]
  | x :: r, h => by
    have h1 := inp_cnt (h x (by simp)).1 (h x (by simp)).2
    have h2 := inps_cnt r fun y hy => h y (by simp [hy])
    rw [List.map_cons, Nd.counts, List.length_cons]
    omega
theorem good_sizes {l : List FileL} (h : goodF l = true) : l.length ≤ 32 ∧ ∀ x ∈ l, x.1.length ≤ 128 ∧ x.2.length ≤ 2048 := by
  obtain ⟨h1, h2, -⟩ := make_parts (good_ok h)
  exact ⟨h1, fun x hx => ⟨(Pth.goodL_iff.1 (h2 x hx).1).1, (h2 x hx).2⟩⟩
theorem tree_cnt {l : List FileL} (h : goodF l = true) : Nd.counts (l.map inputF) ≤ 70400 ∧ (treeN l).count ≤ 70401 := by
  obtain ⟨h1, h2⟩ := good_sizes h
  have h3 := inps_cnt l h2
  have h4 : Nd.counts (l.map inputF) ≤ 70400 := by omega
  refine ⟨h4, ?_⟩
  unfold treeN
  rw [Nd.count]
  have h0 : (⟨#[]⟩ : ByteArray).size = 0 := rfl
  omega
end Go.Proofs.YthehpmffkkogpaaGreatDoor
