/- Proved: the statement LogReads holds for every list of texts, every two texts and every number. No condition beyond the statement's own. -/
import Derived.Test.YtdgpeffbgejjlaaLogReadsWalk
import Derived.SizedLaws
import Derived.ChangeOld
import Derived.Below
import Derived.SliceStrings
namespace Go.Proofs.Ytdgpeffbgejjlaa.logReads
open Go.ChangeShapes Go.WideShapes Go.ChangeAt Go.RowKit
open Go.ChangeMaps (open_string shut_string)
set_option linter.unusedVariables false
theorem own : ownKnob Try.prog.godebug = none := by kernel_rfl
theorem laidOut : laidOutB Try.prog = true := by kernel_rfl
theorem weightsAll_mem {H : Type} (P : Program) (e : TypeId) (n : Nat) : ∀ (l : List (DataW H)) (d : DataW H), d ∈ l → n ∈ d.weights P e → n ∈ DataW.weightsAll P e l
  | [], d, h, _ => by simp at h
  | x :: r, d, h, hn => by
    rw [DataW.weightsAll, List.mem_append]
    rcases List.mem_cons.1 h with rfl | h
    · exact .inl hn
    · exact .inr (weightsAll_mem P e n r d h hn)
theorem reach : reachBytes = 140737488351232 := by decide
theorem string_reach {H : Type} {ts : List TypeId} {ds : List (DataW H)} {j : Nat} {t : TypeId} {s : ByteArray} (hsz : (DataW.weightsEach Try.prog ts ds).all (· ≤ reachBytes) = true) (ht : ts[j]? = some t) (hd : ds[j]? = some (.lit (.string s.data.toList))) : s.size ≤ 140737488351232 := by
  have hin : s.data.toList.length ∈ (DataW.lit (.string s.data.toList) : DataW H).weights Try.prog t := by simp [DataW.weights]
  have hq := List.all_eq_true.1 hsz _ (DataW.weights_mem_each ht hd _ hin)
  rw [decide_eq_true_eq, reach] at hq
  simpa using hq
set_option maxRecDepth 100000 in
theorem lifted (os : Os) (started : os.Started) (H : Type) (enc : TypeId × Value → H) :
    ReturnsInHanded {} Try.checked os 3 .any (Rows.logReadsSpec.pre6 enc Try.prog Try.f3 Rows.logReadsRow.domain false) (Rows.logReadsSpec.post enc Try.prog Try.f3 false true false false) := by
  refine returnsInHanded_of_change_sized (C := Try.checked) own started (by kernel_rfl) Try.func3
    (ChangeSpec.witness6 (enc := enc) (C := Try.checked) false ⟨#[], #[.slice none 0 0, .string ByteArray.empty, .int .i64 0, .string ByteArray.empty], []⟩ 8 (by kernel_rfl) (by kernel_rfl) (by kernel_rfl) (by kernel_rfl)) ?_
  intro W base args ds gs before hval0 hW hcnd hsz0 _
  have hsz : (DataW.weightsEach Try.prog (Try.f3.params.toList ++ Rows.logReadsSpec.plain.varTypes Try.prog) (ds ++ gs)).all (· ≤ reachBytes) = true := hsz0
  clear hsz0
  have hval : ∀ (j : Nat) t v, Try.f3.params[j]? = some t → args[j]? = some v → Value.okWide Try.prog W .any base t v := hval0
  have hW' := hW
  obtain ⟨p, q, hA0, hV, rfl, hfz, hnd⟩ := hW
  have hA : DataW.TrodAll enc Try.prog W 0 (fun _ => true) true Try.f3.params.toList args.toList ds p := hA0
  rw [Try.params3] at hA hval hsz
  obtain ⟨v0, vs0, d0, ds0, p0, q0, hargs, rfl, rfl, h0, r0⟩ := trodAll_cons hA
  obtain ⟨v1, vs1, d1, ds1, p1, q1, rfl, rfl, rfl, h1, r1⟩ := trodAll_cons r0
  obtain ⟨v2, vs2, d2, ds2, p2, q2, rfl, rfl, rfl, h2, r2⟩ := trodAll_cons r1
  obtain ⟨v3, vs3, d3, ds3, p3, q3, rfl, rfl, rfl, h3, r3⟩ := trodAll_cons r2
  obtain ⟨rfl, rfl, rfl⟩ := trodAll_nil r3
  obtain rfl : args = #[v0, v1, v2, v3] := by cases args; simp_all
  obtain ⟨rfl, rfl⟩ := trodVars_none hV
  obtain ⟨a0, len0, cap0, rfl⟩ := okWide_slice Try.underlying22 (hval 0 22 v0 rfl rfl)
  have k0 := h0
  have lt0 : ∀ x ∈ p0, x.block < W.heap.size := by obtain ⟨m, hm⟩ := k0; exact DataW.trod_lt m _ _ _ hm
  obtain ⟨x1, rfl, rfl, rfl, w1⟩ := open_string Try.underlying9 (hval 1 9 v1 rfl rfl) h1
  obtain ⟨x2, rfl, rfl, rfl, w2⟩ := open_int Try.underlying3 (hval 2 3 v2 rfl rfl) h2
  obtain ⟨x3, rfl, rfl, rfl, w3⟩ := open_string Try.underlying9 (hval 3 9 v3 rfl rfl) h3
  have s1 : x1.size ≤ 140737488351232 := string_reach hsz (j := 1) rfl rfl
  have s3 : x3.size ≤ 140737488351232 := string_reach hsz (j := 3) rfl rfl
  obtain ⟨ps, hpl, hps, hpb, hlen⟩ : ∃ ps : List ByteArray, ps.length = len0 ∧ TxS W (.slice a0 len0 cap0) ps ∧ (∀ p ∈ ps, p.size ≤ 140737488351232) ∧ ps.length ≤ 9223372036854775807 := by
    obtain ⟨fuel, hf⟩ := h0
    rcases open_strings Try.underlying22 Try.underlying9 (by kernel_rfl) hf with ⟨hcs, _⟩ | ⟨x, l, c, ss, hcs, _, hl, hm, hz, hx, hcell, hwz⟩
    · simp [Value.cells] at hcs
      obtain ⟨rfl, rfl, rfl⟩ := hcs
      exact ⟨[], rfl, .inl ⟨⟨none, 0, rfl⟩, rfl⟩, by simp, by simp⟩
    · simp [Value.cells] at hcs
      obtain ⟨rfl, rfl, rfl⟩ := hcs
      have hz' : ss.length = cap0 := by simpa using hz
      have hd := congrArg Prod.fst hx
      simp only [] at hd
      have htl : (ss.take len0).length = len0 := by rw [List.length_take]; omega
      have hm' : cap0 ≤ 9223372036854775807 := by unfold maxLen at hm; omega
      refine ⟨ss.take len0, htl, ?_, fun s hs => ?_, by omega⟩
      · by_cases h0 : len0 = 0
        · subst h0
          exact .inl ⟨⟨_, _, rfl⟩, List.eq_nil_of_length_eq_zero htl⟩
        · obtain ⟨b, off, spot⟩ := x
          have c0 := hcell 0 (by omega)
          have hspot : spot = none := by simpa [Addr.add] using World.cell?_spot c0
          subst hspot
          refine .inr ⟨b, off, cap0, by rw [htl], by rw [htl]; exact hl, fun j hj => ?_⟩
          have hj' : j < ss.length := by omega
          have := hcell j hj'
          rw [Addr.add_lit] at this
          rw [this, List.getD_eq_getElem?_getD, List.getElem?_eq_getElem hj']
          simp
      · obtain ⟨j, hj, rfl⟩ := List.getElem_of_mem hs
        have hin : ((ss.take len0)[j].data.toList.length) ∈ d0.weights Try.prog 22 := by
          rw [hd]
          simp only [DataW.weights, Try.underlying22]
          refine List.mem_cons_of_mem _ (List.mem_append_left _ (weightsAll_mem _ _ _ _ (.lit (.string (ss.take len0)[j].data.toList)) ?_ (by simp [DataW.weights])))
          exact List.mem_map.2 ⟨_, List.getElem_mem _, rfl⟩
        have hq := List.all_eq_true.1 hsz _ (DataW.weights_mem_each (j := 0) rfl rfl _ hin)
        rw [decide_eq_true_eq, reach] at hq
        simpa using hq
  clear hA0 hval0
  subst hpl
  refine (reads_walk a0 cap0 ps x1 x3 x2 W hps hpb s1 s3 hlen).mono fun e W' ⟨he, bel⟩ => ?_
  subst he
  exact ⟨_, rfl, _, _, _, [], _, [], hW', trodAll_mk1 (shut_bool Try.underlying4 _), (trodAll_cons_mk (Below.trod laidOut (by kernel_rfl) (of_decide_eq_true (by kernel_rfl)) k0 bel lt0) (trodAll_cons_mk (shut_string Try.underlying9 w1) (trodAll_cons_mk (shut_int Try.underlying3 w2) (trodAll_cons_mk (shut_string Try.underlying9 w3) trodAll_mk0)))), rfl, bel.frame _, fun h => by cases h⟩
theorem over : Rows.logReadsRow.holds Try.pinned (OpenSpec.ofChange Rows.logReadsSpec) :=
  OpenClaim.holds_of_wide 3 Try.f3 rfl rfl rfl rfl rfl rfl rfl ⟨rfl, rfl, rfl, rfl, rfl⟩ rfl rfl rfl rfl rfl (by kernel_rfl) Try.func3 (by kernel_rfl)
    (of_decide_eq_true (by kernel_rfl)) (by unfold Func.isWrapper; first | (rw [if_pos (by decide +kernel)]; kernel_rfl) | (rw [if_neg (by decide +kernel)]; exact ⟨rfl, rfl⟩))
    (fun os started H enc _ => lifted os started H enc)
theorem proved : Rows.LogReadsSaid := over
#print axioms proved
end Go.Proofs.Ytdgpeffbgejjlaa.logReads
