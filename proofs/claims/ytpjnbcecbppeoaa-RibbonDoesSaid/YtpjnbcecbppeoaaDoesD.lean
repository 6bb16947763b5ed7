/- Each call on one of the two ribbons, the other standing by. Condition: fewer than 10^9 acts. -/
import Derived.Test.YtpjnbcecbppeoaaDoesB
namespace Go.Proofs.Ytpjnbcecbppeoaa
set_option linter.unusedVariables false
open Go.ChangeShapes Go.WideShapes Go.ChangeAt Go.RowKit
def PR (W : World) (b m : Nat) (R M : Nat → Prop) (s t : RS) (v : Value) (w : World) (e : Ending) (w' : World) : Prop := e = .returned v ∧ ∃ R', Pair W w' b m R' M s t ∧ Chg R w w'
def PM (W : World) (b m : Nat) (R M : Nat → Prop) (s t : RS) (v : Value) (w : World) (e : Ending) (w' : World) : Prop := e = .returned v ∧ ∃ M', Pair W w' b m R M' s t ∧ Chg M w w'
theorem Pair.did {W w : World} {b m : Nat} {R M : Nat → Prop} {s s' t : RS} {c : Int} {f : FuncId} {args : Array Value} (h : Pair W w b m R M s t) (hc : Calls Try.prog f args w (Did b R s' c w)) : Calls Try.prog f args w (PR W b m R M s' t (.int .i64 c) w) :=
  hc.mono fun e w' hq => by
    obtain ⟨rfl, R', hr, hw⟩ := hq
    exact ⟨rfl, R', h.r_went hr hw, hw.chg⟩
theorem Pair.off1 {W w : World} {b m : Nat} {R M : Nat → Prop} {s s' t : RS} {f : FuncId} {args : Array Value} (h : Pair W w b m R M s t) (hc : Calls Try.prog f args w (Off1 b R s' w)) : Calls Try.prog f args w (PR W b m R M s' t (.tuple #[]) w) :=
  hc.mono fun e w' hq => by
    obtain ⟨rfl, hr, hw⟩ := hq
    exact ⟨rfl, R, h.r_went hr (Went.same hw), hw⟩
theorem Pair.mdid {W w : World} {b m : Nat} {R M : Nat → Prop} {s t t' : RS} {v : Value} {f : FuncId} {args : Array Value} (h : Pair W w b m R M s t) (hc : Calls Try.prog f args w (MDid m M t' v w)) : Calls Try.prog f args w (PM W b m R M s t' v w) :=
  hc.mono fun e w' hq => by
    obtain ⟨rfl, M', hm, hw⟩ := hq
    exact ⟨rfl, M', h.m_went hm hw, hw.chg⟩
section
variable {W w0 w : World} {b m : Nat} {R M : Nat → Prop} {s t : RS}
theorem pw_r (h : Pair W w0 b m R M s t) (hd : Chg NoB w0 w) {v : Value} {ys : List UInt8} (hv : Src W v ys) (hb : s.acts < 1000000000) (hl : ys.length ≤ 4194304) {c : Int} (hc : s.wrC ys = c) :
    Calls Try.prog 11 #[.pointer (some ⟨b, 0, none⟩), v] w (PR W b m R M (s.iwr ys) t (.int .i64 c) w) := by
  have h' := h.keep hd
  subst hc
  exact h'.did (write_all b R s v ys w h'.r (hv.chg h'.chg fun _ _ => id) hb hl)
theorem pw_m (h : Pair W w0 b m R M s t) (hd : Chg NoB w0 w) {v : Value} {ys : List UInt8} (hv : Src W v ys) (hb : t.acts < 1000000000) (hl : ys.length ≤ 4194304) {c : Int} (hc : t.wrC ys = c) :
    Calls Try.prog 12 #[.pointer (some ⟨m, 0, none⟩), v] w (PM W b m R M s (t.mwr ys) (.int .i64 c) w) := by
  have h' := h.keep hd
  subst hc
  exact h'.mdid (mwrite_all m M t v ys w h'.m (hv.chg h'.chg fun _ _ => id) hb hl)
theorem pf_r (h : Pair W w0 b m R M s t) (hd : Chg NoB w0 w) (hb : s.acts < 1000000000) {c : Int} (hc : s.mflushC = c) :
    Calls Try.prog 13 #[.pointer (some ⟨b, 0, none⟩)] w (PR W b m R M s.ifl t (.int .i64 c) w) := by
  have h' := h.keep hd
  subst hc
  exact h'.did (flush_all b R s w h'.r hb)
theorem pf_m (h : Pair W w0 b m R M s t) (hd : Chg NoB w0 w) (hb : t.acts < 1000000000) {c : Int} (hc : t.mflushC = c) :
    Calls Try.prog 14 #[.pointer (some ⟨m, 0, none⟩)] w (PM W b m R M s t.mflush (.int .i64 c) w) := by
  have h' := h.keep hd
  subst hc
  exact h'.mdid (mflush_any m M t w h'.m hb)
theorem pc_r (h : Pair W w0 b m R M s t) (hd : Chg NoB w0 w) (n : Int) (hb : s.acts < 1000000000) {c : Int} (hc : s.mcutC n = c) :
    Calls Try.prog 15 #[.pointer (some ⟨b, 0, none⟩), .int .i64 n] w (PR W b m R M (s.icut n) t (.int .i64 c) w) := by
  have h' := h.keep hd
  subst hc
  exact h'.did (cut_all b R s n w h'.r hb)
theorem pc_m (h : Pair W w0 b m R M s t) (hd : Chg NoB w0 w) (n : Int) (hb : t.acts < 1000000000) {c : Int} (hc : t.mcutC n = c) :
    Calls Try.prog 16 #[.pointer (some ⟨m, 0, none⟩), .int .i64 n] w (PM W b m R M s (t.mcut n) (.int .i64 c) w) := by
  have h' := h.keep hd
  subst hc
  exact h'.mdid (mcut_any m M t n w h'.m hb)
theorem po_r (h : Pair W w0 b m R M s t) (hd : Chg NoB w0 w) (n : Int) :
    Calls Try.prog 17 #[.pointer (some ⟨b, 0, none⟩), .int .i64 n] w (PR W b m R M (s.off n) t (.tuple #[]) w) := by
  have h' := h.keep hd
  exact h'.off1 (off_any b R s n w h'.r)
theorem po_m (h : Pair W w0 b m R M s t) (hd : Chg NoB w0 w) (n : Int) :
    Calls Try.prog 18 #[.pointer (some ⟨m, 0, none⟩), .int .i64 n] w (PM W b m R M s (t.moff n) (.tuple #[]) w) := by
  have h' := h.keep hd
  exact h'.mdid (moff_any m M t n w h'.m)
theorem pn_r (h : Pair W w0 b m R M s t) (hd : Chg NoB w0 w) :
    Calls Try.prog 19 #[.pointer (some ⟨b, 0, none⟩)] w (PR W b m R M s.on t (.tuple #[]) w) := by
  have h' := h.keep hd
  exact h'.off1 (on_any b R s w h'.r)
theorem pa_r (h : Pair W w0 b m R M s t) (hd : Chg NoB w0 w) (n k : Int) (hn : n ≤ 9223372036854775807) :
    Calls Try.prog 20 #[.pointer (some ⟨b, 0, none⟩), .int .i64 n, .int .i64 k] w (PR W b m R M (s.arm n k) t (.tuple #[]) w) := by
  have h' := h.keep hd
  exact h'.off1 (arm_any b R s n k w h'.r hn)
theorem pa_m (h : Pair W w0 b m R M s t) (hd : Chg NoB w0 w) (n k : Int) (hn : n ≤ 9223372036854775807) :
    Calls Try.prog 21 #[.pointer (some ⟨m, 0, none⟩), .int .i64 n, .int .i64 k] w (PM W b m R M s (t.arm n k) (.tuple #[]) w) := by
  have h' := h.keep hd
  exact h'.mdid (marm_any m M t n k w h'.m hn)
theorem pn_m (h : Pair W w b m R M s t) : Pair W (w.setCell ⟨m, 2, none⟩ (.bool true)) b m R M s t.on := by
  obtain ⟨hok, h1, ad, cap, h2, h3, h4⟩ := h.m
  have hc : Chg (fun k => k = m) w (w.setCell ⟨m, 2, none⟩ (.bool true)) := setB _ (Chg.refl _ w)
  have hm : Mb (w.setCell ⟨m, 2, none⟩ (.bool true)) m M t.on := mb_mk _ _ _ _ _ _ _ _ _ _ _ _ _ rfl rfl (set_2 h2 _) (h3.chg hc fun k hk => (h4 k hk).2) h4 h1 hok
  exact h.m_went hm (Went.same (hc.mono fun k _ hk => by rw [hk]; exact h1))
end
theorem St.keep {W w w' : World} {b m k : Nat} (h : St W w b m k) (hc : Chg NoB w w') : St W w' b m k := by
  obtain ⟨R, M, s, t, hp, hs, ha⟩ := h
  exact ⟨R, M, s, t, hp.keep hc, hs, ha⟩
theorem Pair.mcells {W w : World} {b m : Nat} {R M : Nat → Prop} {s t : RS} (h : Pair W w b m R M s t) : ∃ ad cap, w.cell? ⟨m, 0, none⟩ = some (.slice ad t.xs.length cap) ∧ w.cell? ⟨m, 2, none⟩ = some (.bool (!t.down)) ∧ w.cell? ⟨m, 3, none⟩ = some (.int .i64 t.acts) ∧
    (∀ i, w.frozen? ⟨m, i, none⟩ = false) ∧ Src w (.slice ad t.xs.length cap) t.xs := by
  obtain ⟨hok, h1, ad, cap, h2, h3, h4⟩ := h.m
  obtain ⟨e0, e1, e2, e3, e4, e5, e6⟩ := row_cells h2
  exact ⟨ad, cap, e0, e2, e3, e6, h3.src⟩
end Go.Proofs.Ytpjnbcecbppeoaa
