/-
  DERIVED. GIVEN WITH THE SEED: THE CARDS: each row of YtodcbagjmbdafaaDoorRows.lean that lists a variable, with what it lists TIED to the program's text (the seventh form; the later family's looks); each row that meets fmt, with fmt's text TOLD by the authors' own Lean function (tested against real Go, not proved from fmt's source: count such statements apart). THE CARD IS WHAT COUNTS. Prove the row's statement (the work); the ties are given (YtodcbagjmbdafaaDoorTie.lean); close each card by the builder's one call (the guide's Derived/Test/ToyasCard.lean, 'card_holds'). Laid BY PROGRAM, IN A SANDBOX (cutbox-door.mjs). By AI agents, Wed Nov 11 2026. No macro, syntax, notation, axiom, sorry.
-/
import Derived.Test.YtodcbagjmbdafaaDoorRows
import GoSem.ClaimSeven
namespace Go.Proofs.YtodcbagjmbdafaaDoor
namespace Rows

/-- THE TIED CARD OF 'saplinglaw01.SexpWrites'. -/
def sexpWritesCard : Claim7 := { stood := { row := sexpWritesRow, standIns := [], harness := (true, "1aacac15555e80772747c4c143a44f28a139365c580872b528a8a21d441e086a"), looks := true }, kinds := [], alts := [], laidByText := true, laidKinds := [.data, .data, .data, .sentinel, .sentinel], laidTests := true, laidLooks := .later }
def SexpWritesCardSaid : Prop := Claim7.holds Tryd.pinned (.plain (OpenSpec.ofChange sexpWritesSpec)) sexpWritesCard

/-- THE TIED CARD OF 'saplinglaw01.SexpReads'. -/
def sexpReadsCard : Claim7 := { stood := { row := sexpReadsRow, standIns := [], harness := (true, "1aacac15555e80772747c4c143a44f28a139365c580872b528a8a21d441e086a"), looks := true }, kinds := [], alts := [], laidByText := true, laidKinds := [.data, .data, .data, .sentinel, .sentinel], laidTests := true, laidLooks := .later }
def SexpReadsCardSaid : Prop := Claim7.holds Tryd.pinned (.plain (OpenSpec.ofChange sexpReadsSpec)) sexpReadsCard

/-- THE TIED CARD OF 'saplinglaw01.SexpBack'. -/
def sexpBackCard : Claim7 := { stood := { row := sexpBackRow, standIns := [], harness := (true, "1aacac15555e80772747c4c143a44f28a139365c580872b528a8a21d441e086a"), looks := true }, kinds := [], alts := [], laidByText := true, laidKinds := [.data, .data, .data, .sentinel, .sentinel], laidTests := true, laidLooks := .later }
def SexpBackCardSaid : Prop := Claim7.holds Tryd.pinned (.plain (OpenSpec.ofChange sexpBackSpec)) sexpBackCard

/-- THE TIED CARD OF 'saplinglaw01.SexpTells'. -/
def sexpTellsCard : Claim7 := { stood := { row := sexpTellsRow, standIns := [], harness := (true, "1aacac15555e80772747c4c143a44f28a139365c580872b528a8a21d441e086a"), looks := true }, kinds := [], alts := [], laidByText := true, laidKinds := [.data, .data, .data, .sentinel, .sentinel], laidTests := true, laidLooks := .later }
def SexpTellsCardSaid : Prop := Claim7.holds Tryd.pinned (.plain (OpenSpec.ofChange sexpTellsSpec)) sexpTellsCard

/-- THE TIED CARD OF 'saplinglaw01.SexpLeaves'. -/
def sexpLeavesCard : Claim7 := { stood := { row := sexpLeavesRow, standIns := [], harness := (true, "1aacac15555e80772747c4c143a44f28a139365c580872b528a8a21d441e086a"), looks := true }, kinds := [], alts := [], laidByText := true, laidKinds := [.data, .data, .data, .sentinel, .sentinel], laidTests := true, laidLooks := .later }
def SexpLeavesCardSaid : Prop := Claim7.holds Tryd.pinned (.plain (OpenSpec.ofChange sexpLeavesSpec)) sexpLeavesCard

/-- THE TIED CARD OF 'saplinglaw01.SexpKeeps'. -/
def sexpKeepsCard : Claim7 := { stood := { row := sexpKeepsRow, standIns := [], harness := (true, "1aacac15555e80772747c4c143a44f28a139365c580872b528a8a21d441e086a"), looks := true }, kinds := [], alts := [], laidByText := true, laidKinds := [.data, .data, .data, .sentinel, .sentinel], laidTests := true, laidLooks := .later }
def SexpKeepsCardSaid : Prop := Claim7.holds Tryd.pinned (.plain (OpenSpec.ofChange sexpKeepsSpec)) sexpKeepsCard

/-- THE TIED CARD OF 'saplinglaw01.SexpCuts'. -/
def sexpCutsCard : Claim7 := { stood := { row := sexpCutsRow, standIns := [], harness := (true, "1aacac15555e80772747c4c143a44f28a139365c580872b528a8a21d441e086a"), looks := true }, kinds := [], alts := [], laidByText := true, laidKinds := [.data, .data, .data, .sentinel, .sentinel], laidTests := true, laidLooks := .later }
def SexpCutsCardSaid : Prop := Claim7.holds Tryd.pinned (.plain (OpenSpec.ofChange sexpCutsSpec)) sexpCutsCard

/-- THE TIED CARD OF 'saplinglaw01.SexpLists'. -/
def sexpListsCard : Claim7 := { stood := { row := sexpListsRow, standIns := [], harness := (true, "1aacac15555e80772747c4c143a44f28a139365c580872b528a8a21d441e086a"), looks := true }, kinds := [], alts := [], laidByText := true, laidKinds := [.data, .data, .data, .sentinel, .sentinel], laidTests := true, laidLooks := .later }
def SexpListsCardSaid : Prop := Claim7.holds Tryd.pinned (.plain (OpenSpec.ofChange sexpListsSpec)) sexpListsCard

/-- THE SECOND FORM's CARD OF 'saplinglaw01.SexpWrites'. -/
def sexpWritesUptoCard : Claim7 := { stood := { row := sexpWritesUptoRow, standIns := [], harness := (true, "1aacac15555e80772747c4c143a44f28a139365c580872b528a8a21d441e086a"), looks := true }, kinds := [], alts := [], laidByText := true, laidKinds := [.data, .data, .data, .sentinel, .sentinel], laidTests := true, laidLooks := .later }
def SexpWritesUptoCardSaid : Prop := Claim7.holds Tryd.pinned (.plain (OpenSpec.upto sexpWritesSpec)) sexpWritesUptoCard

/-- THE SECOND FORM's CARD OF 'saplinglaw01.SexpReads'. -/
def sexpReadsUptoCard : Claim7 := { stood := { row := sexpReadsUptoRow, standIns := [], harness := (true, "1aacac15555e80772747c4c143a44f28a139365c580872b528a8a21d441e086a"), looks := true }, kinds := [], alts := [], laidByText := true, laidKinds := [.data, .data, .data, .sentinel, .sentinel], laidTests := true, laidLooks := .later }
def SexpReadsUptoCardSaid : Prop := Claim7.holds Tryd.pinned (.plain (OpenSpec.upto sexpReadsSpec)) sexpReadsUptoCard

/-- THE SECOND FORM's CARD OF 'saplinglaw01.SexpBack'. -/
def sexpBackUptoCard : Claim7 := { stood := { row := sexpBackUptoRow, standIns := [], harness := (true, "1aacac15555e80772747c4c143a44f28a139365c580872b528a8a21d441e086a"), looks := true }, kinds := [], alts := [], laidByText := true, laidKinds := [.data, .data, .data, .sentinel, .sentinel], laidTests := true, laidLooks := .later }
def SexpBackUptoCardSaid : Prop := Claim7.holds Tryd.pinned (.plain (OpenSpec.upto sexpBackSpec)) sexpBackUptoCard

/-- THE SECOND FORM's CARD OF 'saplinglaw01.SexpTells'. -/
def sexpTellsUptoCard : Claim7 := { stood := { row := sexpTellsUptoRow, standIns := [], harness := (true, "1aacac15555e80772747c4c143a44f28a139365c580872b528a8a21d441e086a"), looks := true }, kinds := [], alts := [], laidByText := true, laidKinds := [.data, .data, .data, .sentinel, .sentinel], laidTests := true, laidLooks := .later }
def SexpTellsUptoCardSaid : Prop := Claim7.holds Tryd.pinned (.plain (OpenSpec.upto sexpTellsSpec)) sexpTellsUptoCard

/-- THE SECOND FORM's CARD OF 'saplinglaw01.SexpLeaves'. -/
def sexpLeavesUptoCard : Claim7 := { stood := { row := sexpLeavesUptoRow, standIns := [], harness := (true, "1aacac15555e80772747c4c143a44f28a139365c580872b528a8a21d441e086a"), looks := true }, kinds := [], alts := [], laidByText := true, laidKinds := [.data, .data, .data, .sentinel, .sentinel], laidTests := true, laidLooks := .later }
def SexpLeavesUptoCardSaid : Prop := Claim7.holds Tryd.pinned (.plain (OpenSpec.upto sexpLeavesSpec)) sexpLeavesUptoCard

/-- THE SECOND FORM's CARD OF 'saplinglaw01.SexpKeeps'. -/
def sexpKeepsUptoCard : Claim7 := { stood := { row := sexpKeepsUptoRow, standIns := [], harness := (true, "1aacac15555e80772747c4c143a44f28a139365c580872b528a8a21d441e086a"), looks := true }, kinds := [], alts := [], laidByText := true, laidKinds := [.data, .data, .data, .sentinel, .sentinel], laidTests := true, laidLooks := .later }
def SexpKeepsUptoCardSaid : Prop := Claim7.holds Tryd.pinned (.plain (OpenSpec.upto sexpKeepsSpec)) sexpKeepsUptoCard

/-- THE SECOND FORM's CARD OF 'saplinglaw01.SexpCuts'. -/
def sexpCutsUptoCard : Claim7 := { stood := { row := sexpCutsUptoRow, standIns := [], harness := (true, "1aacac15555e80772747c4c143a44f28a139365c580872b528a8a21d441e086a"), looks := true }, kinds := [], alts := [], laidByText := true, laidKinds := [.data, .data, .data, .sentinel, .sentinel], laidTests := true, laidLooks := .later }
def SexpCutsUptoCardSaid : Prop := Claim7.holds Tryd.pinned (.plain (OpenSpec.upto sexpCutsSpec)) sexpCutsUptoCard

/-- THE SECOND FORM's CARD OF 'saplinglaw01.SexpLists'. -/
def sexpListsUptoCard : Claim7 := { stood := { row := sexpListsUptoRow, standIns := [], harness := (true, "1aacac15555e80772747c4c143a44f28a139365c580872b528a8a21d441e086a"), looks := true }, kinds := [], alts := [], laidByText := true, laidKinds := [.data, .data, .data, .sentinel, .sentinel], laidTests := true, laidLooks := .later }
def SexpListsUptoCardSaid : Prop := Claim7.holds Tryd.pinned (.plain (OpenSpec.upto sexpListsSpec)) sexpListsUptoCard
end Rows
end Go.Proofs.YtodcbagjmbdafaaDoor
