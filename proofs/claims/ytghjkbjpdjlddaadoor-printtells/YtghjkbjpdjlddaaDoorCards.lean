/-
  DERIVED. GIVEN WITH THE SEED: THE CARDS: each row of YtghjkbjpdjlddaaDoorRows.lean that lists a variable, with what it lists TIED to the program's text (the seventh form; the later family's looks); each row that meets fmt, with fmt's text TOLD by the authors' own Lean function (tested against real Go, not proved from fmt's source: count such statements apart). THE CARD IS WHAT COUNTS. Prove the row's statement (the work); the ties are given (YtghjkbjpdjlddaaDoorTie.lean); close each card by the builder's one call (the guide's Derived/Test/ToyasCard.lean, 'card_holds'). Laid BY PROGRAM, IN A SANDBOX (cutbox-door.mjs). By AI agents, Wed Nov 11 2026. No macro, syntax, notation, axiom, sorry.
-/
import Derived.Test.YtghjkbjpdjlddaaDoorRows
import GoSem.ClaimSeven
namespace Go.Proofs.YtghjkbjpdjlddaaDoor
namespace Rows

/-- THE TIED CARD OF 'raddlelaw04.SyntaxLetters'. -/
def syntaxLettersCard : Claim7 := { stood := { row := syntaxLettersRow, standIns := [], harness := (true, "246097ba26065f4bbf9930f771baabd8b4091422efb41362dc4c66f2e58b04f0"), looks := true }, kinds := [], alts := [], laidByText := true, laidKinds := [.data, .data, .data, .sentinel, .sentinel], laidTests := true, laidLooks := .later }
def SyntaxLettersCardSaid : Prop := Claim7.holds Tryd.pinned (.plain (OpenSpec.ofChange syntaxLettersSpec)) syntaxLettersCard

/-- THE TIED CARD OF 'raddlelaw05.PrintTells'. -/
def printTellsCard : Claim7 := { stood := { row := printTellsRow, standIns := [], harness := (true, "246097ba26065f4bbf9930f771baabd8b4091422efb41362dc4c66f2e58b04f0"), looks := true }, kinds := [], alts := [], laidByText := true, laidKinds := [.data, .data, .data], laidTests := true, laidLooks := .later }
def PrintTellsCardSaid : Prop := Claim7.holds Tryd.pinned (.plain (OpenSpec.ofChange printTellsSpec)) printTellsCard

/-- THE TIED CARD OF 'raddlelaw05.PrintBytes'. -/
def printBytesCard : Claim7 := { stood := { row := printBytesRow, standIns := [], harness := (true, "246097ba26065f4bbf9930f771baabd8b4091422efb41362dc4c66f2e58b04f0"), looks := true }, kinds := [], alts := [], laidByText := true, laidKinds := [.data, .data, .data], laidTests := true, laidLooks := .later }
def PrintBytesCardSaid : Prop := Claim7.holds Tryd.pinned (.plain (OpenSpec.ofChange printBytesSpec)) printBytesCard

/-- THE SECOND FORM's CARD OF 'raddlelaw04.SyntaxLetters'. -/
def syntaxLettersUptoCard : Claim7 := { stood := { row := syntaxLettersUptoRow, standIns := [], harness := (true, "246097ba26065f4bbf9930f771baabd8b4091422efb41362dc4c66f2e58b04f0"), looks := true }, kinds := [], alts := [], laidByText := true, laidKinds := [.data, .data, .data, .sentinel, .sentinel], laidTests := true, laidLooks := .later }
def SyntaxLettersUptoCardSaid : Prop := Claim7.holds Tryd.pinned (.plain (OpenSpec.upto syntaxLettersSpec)) syntaxLettersUptoCard

/-- THE SECOND FORM's CARD OF 'raddlelaw05.PrintTells'. -/
def printTellsUptoCard : Claim7 := { stood := { row := printTellsUptoRow, standIns := [], harness := (true, "246097ba26065f4bbf9930f771baabd8b4091422efb41362dc4c66f2e58b04f0"), looks := true }, kinds := [], alts := [], laidByText := true, laidKinds := [.data, .data, .data], laidTests := true, laidLooks := .later }
def PrintTellsUptoCardSaid : Prop := Claim7.holds Tryd.pinned (.plain (OpenSpec.upto printTellsSpec)) printTellsUptoCard

/-- THE SECOND FORM's CARD OF 'raddlelaw05.PrintBytes'. -/
def printBytesUptoCard : Claim7 := { stood := { row := printBytesUptoRow, standIns := [], harness := (true, "246097ba26065f4bbf9930f771baabd8b4091422efb41362dc4c66f2e58b04f0"), looks := true }, kinds := [], alts := [], laidByText := true, laidKinds := [.data, .data, .data], laidTests := true, laidLooks := .later }
def PrintBytesUptoCardSaid : Prop := Claim7.holds Tryd.pinned (.plain (OpenSpec.upto printBytesSpec)) printBytesUptoCard
end Rows
end Go.Proofs.YtghjkbjpdjlddaaDoor
