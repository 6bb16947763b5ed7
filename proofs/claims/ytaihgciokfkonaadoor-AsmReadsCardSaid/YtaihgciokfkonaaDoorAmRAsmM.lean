/- The document's Assemble: what it holds between two lines, in memory: the instructions, the labels wanted, the lines' numbers, the labels; one grows and the others stand. No condition. -/
import Derived.Test.YtaihgciokfkonaaDoorAmRInP
import Derived.Test.YtaihgciokfkonaaDoorAmAsm
namespace Go.Proofs.YtaihgciokfkonaaDoor
set_option linter.unusedVariables false
open Go.ChangeShapes Go.WideShapes Go.ChangeAt Go.RowKit

/- rows of two types lie in two blocks -/
theorem own_apart {w : World} {base base' size size' n m : Nat} {t u : TypeId} {v v' : Value} {l l' : List Value} (h : w.ownsRow base t size v n l) (g : w.ownsRow base' u size' v' m l') (htu : t ≠ u) (k : Nat) (e : v.ownBlock = some k) : ¬ v'.ownBlock = some k := by
  intro e'
  rcases h.2 with ⟨e3, -⟩ | ⟨a, cap, cur, e3, hb, hh, -⟩
  · rw [e3] at e; cases e
  · rcases g.2 with ⟨e4, -⟩ | ⟨a', cap', cur', e4, hb', hh', -⟩
    · rw [e4] at e'; cases e'
    · rw [e3] at e; cases e
      rw [e4] at e'; cases e'
      rw [hh] at hh'
      simp only [Option.some.injEq, Obj.cells.injEq] at hh'
      exact htu hh'.2.1
def flatL : List (List UInt8 × Int) → List Value
  | [] => []
  | x :: r => .string (tx x.1) :: .int .i64 x.2 :: flatL r
theorem flatL_app (a b : List (List UInt8 × Int)) : flatL (a ++ b) = flatL a ++ flatL b := by
  induction a with
  | nil => rfl
  | cons x r ih => rw [List.cons_append, flatL, flatL, ih]; rfl
/- the four rows of a source -/
structure SrcR (w : World) (lo : Nat) (vp vw vn vl : Value) (s : SrcL) : Prop where
  ins : w.ownsRow lo 38 3 vp s.list.length (flatI (s.list.map LineL.ins))
  want : w.ownsRow lo 9 1 vw s.list.length (txV (s.list.map LineL.lab))
  no : w.ownsRow lo 3 1 vn s.list.length (s.list.map fun z => .int .i64 z.no)
  lab : w.ownsRow lo 53 2 vl s.labs.length (flatL s.labs)
theorem SrcR.keep {w w' : World} {lo : Nat} {vp vw vn vl : Value} {s : SrcL} (h : SrcR w lo vp vw vn vl s) (hc : Chg NoB w w') : SrcR w' lo vp vw vn vl s :=
  ⟨ownsRow_chg h.ins hc fun _ _ => id, ownsRow_chg h.want hc fun _ _ => id, ownsRow_chg h.no hc fun _ _ => id, ownsRow_chg h.lab hc fun _ _ => id⟩
theorem SrcR.nil (w : World) (lo : Nat) : SrcR w lo (.slice none 0 0) (.slice none 0 0) (.slice none 0 0) (.slice none 0 0) ⟨[], []⟩ :=
  ⟨World.ownsRow_nil _ _ _ _, World.ownsRow_nil _ _ _ _, World.ownsRow_nil _ _ _ _, World.ownsRow_nil _ _ _ _⟩
/- the document's fault behind Check: 13 has no place, another has its line's; Check says 0, 13 or 30 -/
theorem checkF_says (p : List InsL) : (checkF p).2 = 0 ∨ (checkF p).2 = 13 ∨ (checkF p).2 = 30 := by
  unfold checkF
  split
  · exact .inr (.inl rfl)
  · split
    · exact .inl rfl
    · exact .inr (.inr rfl)
/- the labels are all apart: the last that fits is the first that fits -/
theorem addF_apart {s s' : SrcL} {t : List UInt8} {no : Int} (h : addF s t no = .ok s') (hd : (s.labs.map Prod.fst).Nodup) : (s'.labs.map Prod.fst).Nodup := by
  unfold addF at h
  split at h
  · cases h; exact hd
  · split at h
    · split at h
      · cases h
      · rename_i hk
        cases h
        simp only [List.map_append, List.map_cons, List.map_nil]
        rw [List.nodup_append]
        refine ⟨hd, by simp, ?_⟩
        intro a ha b hb e
        rw [List.mem_singleton] at hb
        subst hb
        subst e
        obtain ⟨y, hy, e2⟩ := List.mem_map.1 ha
        apply hk
        unfold hasK
        exact List.any_eq_true.2 ⟨y, hy, by simp [e2]⟩
    · split at h
      · cases h
      · cases h; exact hd
/- the walk that looks a label up goes on behind the first that fits -/
def lastK (ls : List (List UInt8 × Int)) (n : List UInt8) : Int := ls.foldl (fun a x => if x.1 = n then x.2 else a) (-1)
theorem lastK_snoc (ls : List (List UInt8 × Int)) (x : List UInt8 × Int) (n : List UInt8) : lastK (ls ++ [x]) n = if x.1 = n then x.2 else lastK ls n := by
  unfold lastK; rw [List.foldl_append]; rfl
theorem foldl_other (n : List UInt8) : ∀ (ls : List (List UInt8 × Int)) (a : Int), (∀ x ∈ ls, x.1 ≠ n) → ls.foldl (fun a x => if x.1 = n then x.2 else a) a = a := by
  intro ls
  induction ls with
  | nil => intro a _; rfl
  | cons x r ih =>
    intro a h
    rw [List.foldl_cons, if_neg (h x List.mem_cons_self)]
    exact ih a fun y hy => h y (List.mem_cons_of_mem _ hy)
theorem lastK_at {ls : List (List UInt8 × Int)} (n : List UInt8) (hd : (ls.map Prod.fst).Nodup) : lastK ls n = (atK ls n).getD (-1) := by
  unfold lastK atK
  generalize (-1 : Int) = a
  induction ls with
  | nil => rfl
  | cons x r ih =>
    rw [List.map_cons, List.nodup_cons] at hd
    rw [List.foldl_cons, List.find?_cons]
    by_cases h : x.1 = n
    · rw [if_pos h]
      have h1 : (x.1 == n) = true := by simp [h]
      rw [h1]
      simp only [Option.map_some, Option.getD_some]
      refine foldl_other n r x.2 fun y hy e => hd.1 ?_
      rw [h, ← e]
      exact List.mem_map_of_mem hy
    · rw [if_neg h]
      have h1 : (x.1 == n) = false := by simp [h]
      rw [h1]
      exact ih hd.2
end Go.Proofs.YtaihgciokfkonaaDoor
