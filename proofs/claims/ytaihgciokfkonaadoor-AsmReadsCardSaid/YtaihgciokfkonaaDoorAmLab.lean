/- What the lines of a text have told, in memory: labels in a map, instructions' lines in a row. No condition. -/
import Derived.Test.YtaihgciokfkonaaDoorAmInsC
import Derived.Maps.OwnIn
import Derived.Maps.OwnSet
import Derived.Maps.OwnOps
import Derived.StringKeys

namespace Go.Proofs.YtaihgciokfkonaaDoor
set_option linter.unusedVariables false
open Go.ChangeShapes Go.WideShapes Go.ChangeAt Go.RowKit Go.ChangeMaps Go.MapKept
open Go.Maps (Keyed)
abbrev DW := DataW Unit
def labD (ls : List (List UInt8 × Int)) : DW := ls.foldl (fun m x => m.put (.string x.1) (.lit (.int .i64 x.2))) (.map [])
theorem labD_snoc (ls : List (List UInt8 × Int)) (x : List UInt8 × Int) : labD (ls ++ [x]) = (labD ls).put (.string x.1) (.lit (.int .i64 x.2)) := by
  unfold labD; rw [List.foldl_append]; rfl
theorem lab_has (n : List UInt8) : ∀ (ls : List (List UInt8 × Int)) (D : DW), Maps.IsMap D → Maps.has (ls.foldl (fun m x => m.put (.string x.1) (.lit (.int .i64 x.2))) D) (.string n) = (Maps.has D (.string n) || hasK ls n) := by
  intro ls
  induction ls with
  | nil => intro D _; simp [hasK]
  | cons x r ih =>
    intro D hD
    rw [List.foldl_cons, ih _ (hD.put _ _)]
    have hk : hasK (x :: r) n = (x.1 == n || hasK r n) := rfl
    rw [hk]
    by_cases e : x.1 = n
    · subst e
      rw [Maps.has_put_same hD (by trivial)]
      simp
    · rw [Maps.has_put_other (fun h => e (by cases h; rfl))]
      have : (x.1 == n) = false := by simpa using e
      rw [this, Bool.false_or]
theorem labD_has (ls : List (List UInt8 × Int)) (n : List UInt8) : Maps.has (labD ls) (.string n) = hasK ls n := by
  unfold labD
  rw [lab_has n ls _ Maps.isMap_empty]
  rfl
theorem atK_none {r : List (List UInt8 × Int)} {n : List UInt8} (h : n ∉ r.map Prod.fst) : atK r n = none := by
  unfold atK
  rw [List.find?_eq_none.2]
  · rfl
  · intro y hy e
    exact h (List.mem_map.2 ⟨y, hy, by simpa using e⟩)
theorem lab_at (n : List UInt8) (z : DW) : ∀ (ls : List (List UInt8 × Int)) (D : DW), Maps.IsMap D → (ls.map Prod.fst).Nodup → (ls.foldl (fun m x => m.put (.string x.1) (.lit (.int .i64 x.2))) D).atKey (.string n) z = match atK ls n with | some a => .lit (.int .i64 a) | none => D.atKey (.string n) z := by
  intro ls
  induction ls with
  | nil => intro D _ _; rfl
  | cons x r ih =>
    intro D hD hn
    rw [List.map_cons, List.nodup_cons] at hn
    rw [List.foldl_cons, ih _ (hD.put _ _) hn.2]
    by_cases e : x.1 = n
    · subst e
      rw [atK_none hn.1]
      simp only
      rw [Maps.atKey_put_same hD (by trivial)]
      simp [atK]
    · rw [Maps.atKey_put_other (fun h => e (by cases h; rfl))]
      have : (x.1 == n) = false := by simpa using e
      have h2 : atK (x :: r) n = atK r n := by unfold atK; rw [List.find?_cons, this]
      rw [h2]
theorem labD_at (ls : List (List UInt8 × Int)) (n : List UInt8) (z : DW) (h : (ls.map Prod.fst).Nodup) : (labD ls).atKey (.string n) z = match atK ls n with | some a => .lit (.int .i64 a) | none => z := by
  unfold labD
  rw [lab_at n z ls _ Maps.isMap_empty h]
  cases atK ls n <;> rfl
theorem hasK_not {ls : List (List UInt8 × Int)} {n : List UInt8} : hasK ls n = false ↔ n ∉ ls.map Prod.fst := by
  unfold hasK
  rw [List.any_eq_false]
  constructor
  · intro h hm
    obtain ⟨y, hy, e⟩ := List.mem_map.1 hm
    exact h y hy (by simpa using e)
  · intro h y hy e
    exact h (List.mem_map.2 ⟨y, hy, by simpa using e⟩)
theorem atK_has {ls : List (List UInt8 × Int)} {n : List UInt8} : (atK ls n).isSome = hasK ls n := by
  unfold atK hasK
  rw [Option.isSome_map, List.isSome_find?]
theorem kkey (n : List UInt8) (h : n.length ≤ 1048576) : keyOf Tryd.prog 9 (.string (tx n)) = some (.string n) := by
  have := Go.WideMaps.keyOf_string_mk (P := Tryd.prog) Tryd.underlying9 (s := tx n) (by rw [tx_size]; unfold maxLen; omega)
  rw [this, tx_list]
/- the cells of lines -/
def flatN : List LineL → List Value
  | [] => []
  | x :: r => .int .i64 x.no :: .int .i64 x.ins.op :: .int .i64 x.ins.n :: .string (tx x.ins.s) :: .string (tx x.lab) :: flatN r
theorem flatN_app (a b : List LineL) : flatN (a ++ b) = flatN a ++ flatN b := by
  induction a with
  | nil => rfl
  | cons x r ih => simp [flatN, ih]
theorem flatN_len (a : List LineL) : (flatN a).length = a.length * 5 := by
  induction a with
  | nil => rfl
  | cons x r ih => rw [flatN]; simp only [List.length_cons, ih]; omega
theorem flatN_one (a : List LineL) : ∀ u ∈ flatN a, u.oneCell' = true := by
  induction a with
  | nil => intro u hu; simp [flatN] at hu
  | cons x r ih =>
    intro u hu
    simp only [flatN, List.mem_cons] at hu
    rcases hu with rfl | rfl | rfl | rfl | rfl | hu
    · rfl
    · rfl
    · rfl
    · rfl
    · rfl
    · exact ih u hu
theorem flatN_at : ∀ (a : List LineL) (i : Nat) (hi : i < a.length), (flatN a)[i * 5]? = some (.int .i64 a[i].no) ∧ (flatN a)[i * 5 + 1]? = some (.int .i64 a[i].ins.op) ∧ (flatN a)[i * 5 + 2]? = some (.int .i64 a[i].ins.n) ∧ (flatN a)[i * 5 + 3]? = some (.string (tx a[i].ins.s)) ∧ (flatN a)[i * 5 + 4]? = some (.string (tx a[i].lab))
  | x :: r, 0, _ => ⟨rfl, rfl, rfl, rfl, rfl⟩
  | x :: r, i + 1, hi => by
    obtain ⟨h1, h2, h3, h4, h5⟩ := flatN_at r i (by simpa using hi)
    have e : (i + 1) * 5 = i * 5 + 5 := by omega
    refine ⟨?_, ?_, ?_, ?_, ?_⟩
    · rw [e]; simpa [flatN] using h1
    · rw [e]; simpa [flatN] using h2
    · rw [e]; simpa [flatN] using h3
    · rw [e]; simpa [flatN] using h4
    · rw [e]; simpa [flatN] using h5
theorem lineInfo : (Tryd.prog.info? 76).map (fun i => (i.zero, i.size, i.bytes)) = some (some (.agg #[.int .i64 0, .int .i64 0, .int .i64 0, .string ⟨#[]⟩, .string ⟨#[]⟩]), 5, 56) := by kernel_rfl
/- a source at block ob, its labels at block mb, its lines in a row at lo or above -/
structure SrcM (w : World) (lo ob mb : Nat) (s : SrcL) : Prop where
  row : ∃ q c, w.heap[ob]? = some (.cells #[.map (some mb), .slice q s.list.length c] 44 (0, 0)) ∧ w.ownsRow lo 76 5 (.slice q s.list.length c) s.list.length (flatN s.list)
  map : w.ownsMap Tryd.prog 9 (plainElem Tryd.prog 3) mb s.labs.length (labD s.labs)
  nd : (s.labs.map Prod.fst).Nodup
  wf : (∀ l ∈ s.list, l.ins.wf ∧ -9223372036854775808 ≤ l.no ∧ l.no ≤ 9223372036854775807) ∧ s.list.length ≤ 131072 ∧ s.labs.length ≤ 131072
/- what a line more may do -/
def AbS (lo ob mb : Nat) (k : Nat) : Prop := k = ob ∨ k = mb ∨ lo ≤ k
theorem SrcM.chg {w w' : World} {S : Nat → Prop} {lo ob mb : Nat} {s : SrcL} (h : SrcM w lo ob mb s) (hc : Chg S w w') (h1 : ¬ S ob) (h2 : ¬ S mb) (h3 : ∀ k, k < w.heap.size → lo ≤ k → ¬ S k) : SrcM w' lo ob mb s := by
  obtain ⟨q, c, e1, e2⟩ := h.row
  refine ⟨⟨q, c, row_kept hc e1 h1, ownsRow_chg e2 hc fun k hk => h3 k (World.ownsRow.lt e2 k hk).2 (World.ownsRow.lt e2 k hk).1⟩, ?_, h.nd, h.wf⟩
  obtain ⟨es, clock, hb, hr⟩ := h.map
  exact ⟨es, clock, (hc.block mb (Array.getElem?_eq_some_iff.1 hb).1 h2).trans hb, hr⟩
theorem SrcM.keep {w w' : World} {lo ob mb : Nat} {s : SrcL} (h : SrcM w lo ob mb s) (hc : Chg NoB w w') : SrcM w' lo ob mb s := h.chg hc id id fun _ _ _ => id
end Go.Proofs.YtaihgciokfkonaaDoor
