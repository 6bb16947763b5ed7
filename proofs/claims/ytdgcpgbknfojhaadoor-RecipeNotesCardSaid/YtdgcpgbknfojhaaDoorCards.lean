/-
  DERIVED. GIVEN WITH THE SEED: THE CARDS: each row of YtdgcpgbknfojhaaDoorRows.lean that lists a variable, with what it lists TIED to the program's text (the seventh form; the later family's looks); each row that meets fmt, with fmt's text TOLD by the authors' own Lean function (tested against real Go, not proved from fmt's source: count such statements apart). THE CARD IS WHAT COUNTS. Prove the row's statement (the work); the ties are given (YtdgcpgbknfojhaaDoorTie.lean); close each card by the builder's one call (the guide's Derived/Test/ToyasCard.lean, 'card_holds'). Laid BY PROGRAM, IN A SANDBOX (cutbox-door.mjs). By AI agents, Wed Nov 11 2026. No macro, syntax, notation, axiom, sorry.
-/
import Derived.Test.YtdgcpgbknfojhaaDoorRows
import GoSem.ClaimSeven
namespace Go.Proofs.YtdgcpgbknfojhaaDoor
namespace Rows

/-- THE TIED CARD OF 'saplinglaw12.RecipeNames'. -/
def recipeNamesCard : Claim7 := { stood := { row := recipeNamesRow, standIns := [], harness := (true, "84dcae1c79bcd0c5d1b5619793b6401619c3e41100eef341743cfb2d3a165d15"), looks := true }, kinds := [], alts := [], laidByText := true, laidKinds := [.data, .widerDeep, .pinned], laidTests := true, laidLooks := .later }
def RecipeNamesCardSaid : Prop := Claim7.holds Tryd.pinned (.plain (OpenSpec.ofChange recipeNamesSpec)) recipeNamesCard

/-- THE TIED CARD OF 'saplinglaw12.RecipeParses'. -/
def recipeParsesCard : Claim7 := { stood := { row := recipeParsesRow, standIns := [], harness := (true, "84dcae1c79bcd0c5d1b5619793b6401619c3e41100eef341743cfb2d3a165d15"), looks := true }, kinds := [], alts := [], laidByText := true, laidKinds := [.data, .widerDeep, .pinned], laidTests := true, laidLooks := .later }
def RecipeParsesCardSaid : Prop := Claim7.holds Tryd.pinned (.plain (OpenSpec.ofChange recipeParsesSpec)) recipeParsesCard

/-- THE TIED CARD OF 'saplinglaw12.RecipePrints'. -/
def recipePrintsCard : Claim7 := { stood := { row := recipePrintsRow, standIns := [], harness := (true, "84dcae1c79bcd0c5d1b5619793b6401619c3e41100eef341743cfb2d3a165d15"), looks := true }, kinds := [], alts := [], laidByText := true, laidKinds := [.data, .widerDeep, .pinned], laidTests := true, laidLooks := .later }
def RecipePrintsCardSaid : Prop := Claim7.holds Tryd.pinned (.plain (OpenSpec.ofChange recipePrintsSpec)) recipePrintsCard

/-- THE TIED CARD OF 'saplinglaw12.RecipeBack'. -/
def recipeBackCard : Claim7 := { stood := { row := recipeBackRow, standIns := [], harness := (true, "84dcae1c79bcd0c5d1b5619793b6401619c3e41100eef341743cfb2d3a165d15"), looks := true }, kinds := [], alts := [], laidByText := true, laidKinds := [.data, .widerDeep, .pinned], laidTests := true, laidLooks := .later }
def RecipeBackCardSaid : Prop := Claim7.holds Tryd.pinned (.plain (OpenSpec.ofChange recipeBackSpec)) recipeBackCard

/-- THE TIED CARD OF 'saplinglaw12.RecipeNotes'. -/
def recipeNotesCard : Claim7 := { stood := { row := recipeNotesRow, standIns := [], harness := (true, "84dcae1c79bcd0c5d1b5619793b6401619c3e41100eef341743cfb2d3a165d15"), looks := true }, kinds := [], alts := [], laidByText := true, laidKinds := [.data, .widerDeep, .pinned], laidTests := true, laidLooks := .later }
def RecipeNotesCardSaid : Prop := Claim7.holds Tryd.pinned (.plain (OpenSpec.ofChange recipeNotesSpec)) recipeNotesCard

/-- THE TIED CARD OF 'saplinglaw12.RecipeFields'. -/
def recipeFieldsCard : Claim7 := { stood := { row := recipeFieldsRow, standIns := [], harness := (true, "84dcae1c79bcd0c5d1b5619793b6401619c3e41100eef341743cfb2d3a165d15"), looks := true }, kinds := [], alts := [], laidByText := true, laidKinds := [.data, .widerDeep, .pinned], laidTests := true, laidLooks := .later }
def RecipeFieldsCardSaid : Prop := Claim7.holds Tryd.pinned (.plain (OpenSpec.ofChange recipeFieldsSpec)) recipeFieldsCard

/-- THE SECOND FORM's CARD OF 'saplinglaw12.RecipeNames'. -/
def recipeNamesUptoCard : Claim7 := { stood := { row := recipeNamesUptoRow, standIns := [], harness := (true, "84dcae1c79bcd0c5d1b5619793b6401619c3e41100eef341743cfb2d3a165d15"), looks := true }, kinds := [], alts := [], laidByText := true, laidKinds := [.data, .widerDeep, .pinned], laidTests := true, laidLooks := .later }
def RecipeNamesUptoCardSaid : Prop := Claim7.holds Tryd.pinned (.plain (OpenSpec.upto recipeNamesSpec)) recipeNamesUptoCard

/-- THE SECOND FORM's CARD OF 'saplinglaw12.RecipeParses'. -/
def recipeParsesUptoCard : Claim7 := { stood := { row := recipeParsesUptoRow, standIns := [], harness := (true, "84dcae1c79bcd0c5d1b5619793b6401619c3e41100eef341743cfb2d3a165d15"), looks := true }, kinds := [], alts := [], laidByText := true, laidKinds := [.data, .widerDeep, .pinned], laidTests := true, laidLooks := .later }
def RecipeParsesUptoCardSaid : Prop := Claim7.holds Tryd.pinned (.plain (OpenSpec.upto recipeParsesSpec)) recipeParsesUptoCard

/-- THE SECOND FORM's CARD OF 'saplinglaw12.RecipePrints'. -/
def recipePrintsUptoCard : Claim7 := { stood := { row := recipePrintsUptoRow, standIns := [], harness := (true, "84dcae1c79bcd0c5d1b5619793b6401619c3e41100eef341743cfb2d3a165d15"), looks := true }, kinds := [], alts := [], laidByText := true, laidKinds := [.data, .widerDeep, .pinned], laidTests := true, laidLooks := .later }
def RecipePrintsUptoCardSaid : Prop := Claim7.holds Tryd.pinned (.plain (OpenSpec.upto recipePrintsSpec)) recipePrintsUptoCard

/-- THE SECOND FORM's CARD OF 'saplinglaw12.RecipeBack'. -/
def recipeBackUptoCard : Claim7 := { stood := { row := recipeBackUptoRow, standIns := [], harness := (true, "84dcae1c79bcd0c5d1b5619793b6401619c3e41100eef341743cfb2d3a165d15"), looks := true }, kinds := [], alts := [], laidByText := true, laidKinds := [.data, .widerDeep, .pinned], laidTests := true, laidLooks := .later }
def RecipeBackUptoCardSaid : Prop := Claim7.holds Tryd.pinned (.plain (OpenSpec.upto recipeBackSpec)) recipeBackUptoCard

/-- THE SECOND FORM's CARD OF 'saplinglaw12.RecipeNotes'. -/
def recipeNotesUptoCard : Claim7 := { stood := { row := recipeNotesUptoRow, standIns := [], harness := (true, "84dcae1c79bcd0c5d1b5619793b6401619c3e41100eef341743cfb2d3a165d15"), looks := true }, kinds := [], alts := [], laidByText := true, laidKinds := [.data, .widerDeep, .pinned], laidTests := true, laidLooks := .later }
def RecipeNotesUptoCardSaid : Prop := Claim7.holds Tryd.pinned (.plain (OpenSpec.upto recipeNotesSpec)) recipeNotesUptoCard

/-- THE SECOND FORM's CARD OF 'saplinglaw12.RecipeFields'. -/
def recipeFieldsUptoCard : Claim7 := { stood := { row := recipeFieldsUptoRow, standIns := [], harness := (true, "84dcae1c79bcd0c5d1b5619793b6401619c3e41100eef341743cfb2d3a165d15"), looks := true }, kinds := [], alts := [], laidByText := true, laidKinds := [.data, .widerDeep, .pinned], laidTests := true, laidLooks := .later }
def RecipeFieldsUptoCardSaid : Prop := Claim7.holds Tryd.pinned (.plain (OpenSpec.upto recipeFieldsSpec)) recipeFieldsUptoCard
end Rows
end Go.Proofs.YtdgcpgbknfojhaaDoor
