/-
  DERIVED. GIVEN WITH THE SEED: THE CARDS: each row of YtghjkbjpdjlddaaGreatDoorRows.lean that lists a variable, with what it lists TIED to the program's text (the seventh form; the later family's looks); each row that meets fmt, with fmt's text TOLD by the authors' own Lean function (tested against real Go, not proved from fmt's source: count such statements apart). THE CARD IS WHAT COUNTS. Prove the row's statement (the work); the ties are given (YtghjkbjpdjlddaaGreatDoorTie.lean); close each card by the builder's one call (the guide's Derived/Test/ToyasCard.lean, 'card_holds'). Laid BY PROGRAM, IN A SANDBOX (cutbox-door.mjs). By AI agents, Wed Nov 11 2026. No macro, syntax, notation, axiom, sorry.
-/
import Derived.Test.YtghjkbjpdjlddaaGreatDoorRows
import GoSem.ClaimSeven
namespace Go.Proofs.YtghjkbjpdjlddaaGreatDoor
namespace Rows

/-- THE TIED CARD OF 'raddlelaw05.PrintBack'. -/
def printBackCard : Claim7 := { stood := { row := printBackRow, standIns := [], harness := (true, "5ff9a5648d69b896401f603e9343a5a83c0516117ef4969bdf2c9b7f19709e53"), looks := true }, kinds := [], alts := [], laidByText := true, laidKinds := [.data, .data, .data, .sentinel, .sentinel], laidTests := true, laidLooks := .later }
def PrintBackCardSaid : Prop := Claim7.holds Tryz.pinned (.plain (OpenSpec.ofChange printBackSpec)) printBackCard

/-- THE TIED CARD OF 'raddlelaw05.PrintOnce'. -/
def printOnceCard : Claim7 := { stood := { row := printOnceRow, standIns := [], harness := (true, "5ff9a5648d69b896401f603e9343a5a83c0516117ef4969bdf2c9b7f19709e53"), looks := true }, kinds := [], alts := [], laidByText := true, laidKinds := [.data, .data, .data, .sentinel, .sentinel], laidTests := true, laidLooks := .later }
def PrintOnceCardSaid : Prop := Claim7.holds Tryz.pinned (.plain (OpenSpec.ofChange printOnceSpec)) printOnceCard

/-- THE TIED CARD OF 'raddlelaw05.PrintSets'. -/
def printSetsCard : Claim7 := { stood := { row := printSetsRow, standIns := [], harness := (true, "5ff9a5648d69b896401f603e9343a5a83c0516117ef4969bdf2c9b7f19709e53"), looks := true }, kinds := [], alts := [], laidByText := true, laidKinds := [.data, .data, .data, .sentinel, .sentinel], laidTests := true, laidLooks := .later }
def PrintSetsCardSaid : Prop := Claim7.holds Tryz.pinned (.plain (OpenSpec.ofChange printSetsSpec)) printSetsCard

/-- THE TIED CARD OF 'raddlelaw05.PrintTimes'. -/
def printTimesCard : Claim7 := { stood := { row := printTimesRow, standIns := [], harness := (true, "5ff9a5648d69b896401f603e9343a5a83c0516117ef4969bdf2c9b7f19709e53"), looks := true }, kinds := [], alts := [], laidByText := true, laidKinds := [.data, .data, .data, .sentinel, .sentinel], laidTests := true, laidLooks := .later }
def PrintTimesCardSaid : Prop := Claim7.holds Tryz.pinned (.plain (OpenSpec.ofChange printTimesSpec)) printTimesCard

/-- THE SECOND FORM's CARD OF 'raddlelaw05.PrintBack'. -/
def printBackUptoCard : Claim7 := { stood := { row := printBackUptoRow, standIns := [], harness := (true, "5ff9a5648d69b896401f603e9343a5a83c0516117ef4969bdf2c9b7f19709e53"), looks := true }, kinds := [], alts := [], laidByText := true, laidKinds := [.data, .data, .data, .sentinel, .sentinel], laidTests := true, laidLooks := .later }
def PrintBackUptoCardSaid : Prop := Claim7.holds Tryz.pinned (.plain (OpenSpec.upto printBackSpec)) printBackUptoCard

/-- THE SECOND FORM's CARD OF 'raddlelaw05.PrintOnce'. -/
def printOnceUptoCard : Claim7 := { stood := { row := printOnceUptoRow, standIns := [], harness := (true, "5ff9a5648d69b896401f603e9343a5a83c0516117ef4969bdf2c9b7f19709e53"), looks := true }, kinds := [], alts := [], laidByText := true, laidKinds := [.data, .data, .data, .sentinel, .sentinel], laidTests := true, laidLooks := .later }
def PrintOnceUptoCardSaid : Prop := Claim7.holds Tryz.pinned (.plain (OpenSpec.upto printOnceSpec)) printOnceUptoCard

/-- THE SECOND FORM's CARD OF 'raddlelaw05.PrintSets'. -/
def printSetsUptoCard : Claim7 := { stood := { row := printSetsUptoRow, standIns := [], harness := (true, "5ff9a5648d69b896401f603e9343a5a83c0516117ef4969bdf2c9b7f19709e53"), looks := true }, kinds := [], alts := [], laidByText := true, laidKinds := [.data, .data, .data, .sentinel, .sentinel], laidTests := true, laidLooks := .later }
def PrintSetsUptoCardSaid : Prop := Claim7.holds Tryz.pinned (.plain (OpenSpec.upto printSetsSpec)) printSetsUptoCard

/-- THE SECOND FORM's CARD OF 'raddlelaw05.PrintTimes'. -/
def printTimesUptoCard : Claim7 := { stood := { row := printTimesUptoRow, standIns := [], harness := (true, "5ff9a5648d69b896401f603e9343a5a83c0516117ef4969bdf2c9b7f19709e53"), looks := true }, kinds := [], alts := [], laidByText := true, laidKinds := [.data, .data, .data, .sentinel, .sentinel], laidTests := true, laidLooks := .later }
def PrintTimesUptoCardSaid : Prop := Claim7.holds Tryz.pinned (.plain (OpenSpec.upto printTimesSpec)) printTimesUptoCard
end Rows
end Go.Proofs.YtghjkbjpdjlddaaGreatDoor
