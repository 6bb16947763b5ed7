/- The frame of the cards of this seat: the listed variables read as listed, and the library's own variable holds some number. -/
import Derived.Test.YtaiiabhcbeblbaaDoorPathWalkG
import Derived.Handed
import Derived.HandedShaped
import Derived.Shelf.Vars
import Derived.Lay
import Derived.LaidOnce
import Derived.SevenTiedAt
import Derived.Lib.LaidU8
import Derived.PinnedBridge
namespace Go.Proofs.YtaiiabhcbeblbaaDoor
open Go.ChangeShapes Go.WideShapes Go.ChangeAt Go.RowKit
theorem Tryd.own : ownKnob Tryd.prog.godebug = none := by kernel_rfl
/-- The builder with a condition on the world and with the shape of the package's variables. -/
theorem returns_both {H : Type} {enc : TypeId × Value → H} {a : Assume} {C : Checked} {os : Os} {f : FuncId} {fn : Func} {s : ChangeSpec} {conds : List PathCond} {apart fresh handsOn again : Bool} {X : World → Array Value → Prop}
    (hX : ∀ (w w' : World) (args : Array Value), w.heap = w'.heap → X w args → X w' args)
    (own : ownKnob C.prog.godebug = none) (started : os.Started) (noInit : C.prog.inits.idxOf? f = none) (hfn : C.prog.funcs[f]? = some fn)
    (witness : ∃ (w : World) (tape : Tape) (i : Input), w.os = os ∧ (w.forCall tape i).Shaped C.prog ∧ i.vars = [] ∧ Input.okWide C.prog (w.forCall tape i) .any w.heap.size f i ∧
      ((s.pre enc C.prog fn conds apart (w.forCall tape i).memory i.args ∧ X (w.forCall tape i).memory i.args) ∧ sizedMet enc C.prog fn (OpenSpec.ofChange s) apart (w.forCall tape i).memory i.args) ∧ a.holds C.prog (lone (Frame.enter C.prog f i.args .normal) [] (w.forCall tape i)))
    (contract : ∀ (W : World) (base : Nat) (args : Array Value) (ds gs : List (DataW H)) (before : List MemPlace),
      (∀ (j : Nat) t v, fn.params[j]? = some t → args[j]? = some v → Value.okWide C.prog W .any base t v) →
      DataW.Whole enc C.prog fn.params.toList s.vars apart W args.toList ds gs before →
      conds.all (PathCond.test C.prog ⟨fn.params.toList, ds, s.plain.varTypes C.prog, gs⟩) = true →
      (DataW.weightsEach C.prog (fn.params.toList ++ s.plain.varTypes C.prog) (ds ++ gs)).all (· ≤ reachBytes) = true → X W args → W.ShapedOpen C.prog →
      a.holds C.prog (lone (Frame.enter C.prog f args .normal) [] W) →
      Calls C.prog f args W fun e W' => ∃ v, e = .returned v ∧ s.post enc C.prog fn apart fresh handsOn again W args v W') :
    ReturnsInHanded a C os f .any (fun w args => (s.pre enc C.prog fn conds apart w args ∧ X w args) ∧ sizedMet enc C.prog fn (OpenSpec.ofChange s) apart w args) (s.post enc C.prog fn apart fresh handsOn again) := by
  refine returnsInHanded_of_calls own started noInit witness ?_
  intro w tape i _ hsh _ hok hpre hholds
  obtain ⟨_, _, _, fn', hfn', _, _, _, _, hval⟩ := hok
  have e : fn' = fn := Option.some.inj (hfn'.symm.trans hfn)
  subst e
  obtain ⟨⟨⟨ds, gs, before, hw, hc⟩, hx⟩, hz⟩ := hpre
  have hw' := DataW.Whole.of_heap (w' := w.forCall tape i) (by rfl) hw
  refine (contract (w.forCall tape i) w.heap.size i.args ds gs before hval hw' hc (hz.weights hw) (hX _ _ _ (by rfl) hx) hsh hholds).mono fun e W' ⟨v, he, hp⟩ => ?_
  subst he
  exact ChangeSpec.post_blind hp
theorem ml_of (w : World) (h : w.ShapedOpen Tryd.prog) : Ml w :=
  cell_of_shapedOpen_int (k := .i64) h (of_decide_eq_true (by kernel_rfl)) (t := 3) (zero := #[.int .i64 0]) (by kernel_rfl) rfl (by kernel_rfl) (by kernel_rfl) (by kernel_rfl)
theorem accept_eq : (Rows.laid_unicode_utf8_acceptRanges : DataW Unit) = Lib.acceptData := by kernel_rfl
theorem tabs_of {l : List (String × DataW Unit)} {W : World} (h : laidMet Tryd.prog l W) (h1 : ("unicode/utf8.first", Rows.laid_unicode_utf8_first) ∈ l) (h2 : ("unicode/utf8.acceptRanges", Rows.laid_unicode_utf8_acceptRanges) ∈ l) : Tabs W := by
  have r1 := Lib.laidMet.reads h h1
  have r2 := Lib.laidMet.reads h h2
  rw [accept_eq] at r2
  have r3 : Lib.VarReads Tryd.prog W "unicode/utf8.first" Lib.firstData := by
    rw [← Pinned.utf8First_eq]; exact r1
  exact utf8Tabs_of_reads (ρ := Tryd.lays273_ren) { Tryd.lays273 with } ⟨by kernel_rfl, by kernel_rfl, by kernel_rfl, by kernel_rfl, by kernel_rfl, by kernel_rfl, by kernel_rfl⟩ r3 r2
/- what the statements' own guard calls -/
theorem join_lit (a b : ByteArray) (r : List UInt8) (w : World) (ha : a.size ≤ 8192) (hb : b.size ≤ 8192) (hm : Ml w) (h : joinL a.data.toList b.data.toList = some r) :
    Calls Tryd.prog 15 #[.string a, .string b] w fun e w' => e = .returned (.tuple #[.string (tx r), .int .i64 0]) ∧ Gr w w' := by
  have := join_any a b w ha hb hm
  rw [h] at this
  exact this
theorem under_lit (a b : ByteArray) (r : List UInt8) (w : World) (ha : a.size ≤ 8192) (hb : b.size ≤ 8192) (hm : Ml w) (h : underL a.data.toList b.data.toList = some r) :
    Calls Tryd.prog 19 #[.string a, .string b] w fun e w' => e = .returned (.tuple #[.string (tx r), .bool true]) ∧ Gr w w' := by
  have := under_any a b w ha hb hm
  rw [h] at this
  exact this
theorem under_out (a b : ByteArray) (w : World) (ha : a.size ≤ 8192) (hb : b.size ≤ 8192) (hm : Ml w) (h : underL a.data.toList b.data.toList = none) :
    Calls Tryd.prog 19 #[.string a, .string b] w fun e w' => e = .returned (.tuple #[.string ⟨#[]⟩, .bool false]) ∧ Gr w w' := by
  have := under_any a b w ha hb hm
  rw [h] at this
  exact this
theorem good_lit (a : ByteArray) (x : Bool) (w : World) (ha : a.size ≤ 8192) (hm : Ml w) (h : goodL a.data.toList = x) :
    Calls Tryd.prog 11 #[.string a] w (Bo x w) := by
  have := good_any a w (by omega) hm
  rwa [h] at this
set_option maxHeartbeats 1000000 in
theorem alive_any (w : World) (hm : Ml w) : Calls Tryd.prog 8 #[] w (Bo true w) := by
  have Hm := Lib.hid hm
  clear hm
  go_enter Tryd.func8, Tryd.ntmps8
  go_wp2_with fail
  refine (join_lit ⟨#[97]⟩ ⟨#[98, 47, 99]⟩ [97, 47, 98, 47, 99] w (by decide) (by decide) Hm.out (by decide)).mono ?_
  rintro e w1 ⟨rfl, g⟩
  have G := Lib.hid g
  clear g
  go_wp2_with fail
  refine (under_lit ⟨#[97]⟩ ⟨#[97, 47, 98, 47, 99]⟩ [98, 47, 99] w1 (by decide) (by decide) (Hm.out.keep G.out) (by decide)).mono ?_
  rintro e w2 ⟨rfl, g⟩
  have G2 := Lib.hid (grown_trans G.out g)
  clear g
  go_wp2_with fail
  refine (under_out ⟨#[97]⟩ ⟨#[97, 98]⟩ w2 (by decide) (by decide) (Hm.out.keep G2.out) (by decide)).mono ?_
  rintro e w3 ⟨rfl, g⟩
  have G3 := Lib.hid (grown_trans G2.out g)
  clear g
  have x1 : (tx [97, 47, 98, 47, 99]) = ⟨#[97, 47, 98, 47, 99]⟩ := rfl
  have x2 : (tx [98, 47, 99]) = ⟨#[98, 47, 99]⟩ := rfl
  go_wp2_with fail
  refine (good_lit ⟨#[46, 120]⟩ false w3 (by decide) (Hm.out.keep G3.out) (by decide)).mono ?_
  rintro e w4 ⟨rfl, g⟩
  go_wp2_with fail
  go_ret
  exact ⟨rfl, grown_trans G3.out g⟩
end Go.Proofs.YtaiiabhcbeblbaaDoor
