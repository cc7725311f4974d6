/-
  DERIVED. GIVEN WITH THE SEED: THE CARDS: each row of YtoflibajalbdfaaDoorRows.lean that lists a variable, with what it lists TIED to the program's text (the seventh form; the later family's looks); each row that meets fmt, with fmt's text TOLD by the authors' own Lean function (tested against real Go, not proved from fmt's source: count such statements apart). THE CARD IS WHAT COUNTS. Prove the row's statement (the work); the ties are given (YtoflibajalbdfaaDoorTie.lean); close each card by the builder's one call (the guide's Derived/Test/ToyasCard.lean, 'card_holds'). Laid BY PROGRAM, IN A SANDBOX (cutbox-door.mjs). By AI agents, Wed Nov 11 2026. No macro, syntax, notation, axiom, sorry.
-/
import Derived.Test.YtoflibajalbdfaaDoorRows
import GoSem.ClaimSeven
namespace Go.Proofs.YtoflibajalbdfaaDoor
namespace Rows

/-- THE TIED CARD OF 'raddlelaw04.SyntaxRights'. -/
def syntaxRightsCard : Claim7 := { stood := { row := syntaxRightsRow, standIns := [], harness := (true, "34487d53b774ddac04a4a51e2f52417dafc7ceb784a53337263b2f5e34f33684"), looks := true }, kinds := [], alts := [], laidByText := true, laidKinds := [.data, .data, .data, .sentinel, .sentinel], laidTests := true, laidLooks := .later }
def SyntaxRightsCardSaid : Prop := Claim7.holds Tryd.pinned (.plain (OpenSpec.ofChange syntaxRightsSpec)) syntaxRightsCard

/-- THE TIED CARD OF 'raddlelaw04.SyntaxTree'. -/
def syntaxTreeCard : Claim7 := { stood := { row := syntaxTreeRow, standIns := [], harness := (true, "34487d53b774ddac04a4a51e2f52417dafc7ceb784a53337263b2f5e34f33684"), looks := true }, kinds := [], alts := [], laidByText := true, laidKinds := [.data, .data, .data, .sentinel, .sentinel], laidTests := true, laidLooks := .later }
def SyntaxTreeCardSaid : Prop := Claim7.holds Tryd.pinned (.plain (OpenSpec.ofChange syntaxTreeSpec)) syntaxTreeCard

/-- THE TIED CARD OF 'raddlelaw04.SyntaxGroup'. -/
def syntaxGroupCard : Claim7 := { stood := { row := syntaxGroupRow, standIns := [], harness := (true, "34487d53b774ddac04a4a51e2f52417dafc7ceb784a53337263b2f5e34f33684"), looks := true }, kinds := [], alts := [], laidByText := true, laidKinds := [.data, .data, .data, .sentinel, .sentinel], laidTests := true, laidLooks := .later }
def SyntaxGroupCardSaid : Prop := Claim7.holds Tryd.pinned (.plain (OpenSpec.ofChange syntaxGroupSpec)) syntaxGroupCard

/-- THE TIED CARD OF 'raddlelaw04.SyntaxBounds'. -/
def syntaxBoundsCard : Claim7 := { stood := { row := syntaxBoundsRow, standIns := [], harness := (true, "34487d53b774ddac04a4a51e2f52417dafc7ceb784a53337263b2f5e34f33684"), looks := true }, kinds := [], alts := [], laidByText := true, laidKinds := [.data, .data, .data, .sentinel, .sentinel], laidTests := true, laidLooks := .later }
def SyntaxBoundsCardSaid : Prop := Claim7.holds Tryd.pinned (.plain (OpenSpec.ofChange syntaxBoundsSpec)) syntaxBoundsCard

/-- THE TIED CARD OF 'raddlelaw04.SyntaxLetters'. -/
def syntaxLettersCard : Claim7 := { stood := { row := syntaxLettersRow, standIns := [], harness := (true, "34487d53b774ddac04a4a51e2f52417dafc7ceb784a53337263b2f5e34f33684"), looks := true }, kinds := [], alts := [], laidByText := true, laidKinds := [.data, .data, .data, .sentinel, .sentinel], laidTests := true, laidLooks := .later }
def SyntaxLettersCardSaid : Prop := Claim7.holds Tryd.pinned (.plain (OpenSpec.ofChange syntaxLettersSpec)) syntaxLettersCard

/-- THE TIED CARD OF 'raddlelaw04.SyntaxName'. -/
def syntaxNameCard : Claim7 := { stood := { row := syntaxNameRow, standIns := [], harness := (true, "34487d53b774ddac04a4a51e2f52417dafc7ceb784a53337263b2f5e34f33684"), looks := true }, kinds := [], alts := [], laidByText := true, laidKinds := [.data, .data, .data, .sentinel, .sentinel], laidTests := true, laidLooks := .later }
def SyntaxNameCardSaid : Prop := Claim7.holds Tryd.pinned (.plain (OpenSpec.ofChange syntaxNameSpec)) syntaxNameCard

/-- THE SECOND FORM's CARD OF 'raddlelaw04.SyntaxRights'. -/
def syntaxRightsUptoCard : Claim7 := { stood := { row := syntaxRightsUptoRow, standIns := [], harness := (true, "34487d53b774ddac04a4a51e2f52417dafc7ceb784a53337263b2f5e34f33684"), looks := true }, kinds := [], alts := [], laidByText := true, laidKinds := [.data, .data, .data, .sentinel, .sentinel], laidTests := true, laidLooks := .later }
def SyntaxRightsUptoCardSaid : Prop := Claim7.holds Tryd.pinned (.plain (OpenSpec.upto syntaxRightsSpec)) syntaxRightsUptoCard

/-- THE SECOND FORM's CARD OF 'raddlelaw04.SyntaxTree'. -/
def syntaxTreeUptoCard : Claim7 := { stood := { row := syntaxTreeUptoRow, standIns := [], harness := (true, "34487d53b774ddac04a4a51e2f52417dafc7ceb784a53337263b2f5e34f33684"), looks := true }, kinds := [], alts := [], laidByText := true, laidKinds := [.data, .data, .data, .sentinel, .sentinel], laidTests := true, laidLooks := .later }
def SyntaxTreeUptoCardSaid : Prop := Claim7.holds Tryd.pinned (.plain (OpenSpec.upto syntaxTreeSpec)) syntaxTreeUptoCard

/-- THE SECOND FORM's CARD OF 'raddlelaw04.SyntaxGroup'. -/
def syntaxGroupUptoCard : Claim7 := { stood := { row := syntaxGroupUptoRow, standIns := [], harness := (true, "34487d53b774ddac04a4a51e2f52417dafc7ceb784a53337263b2f5e34f33684"), looks := true }, kinds := [], alts := [], laidByText := true, laidKinds := [.data, .data, .data, .sentinel, .sentinel], laidTests := true, laidLooks := .later }
def SyntaxGroupUptoCardSaid : Prop := Claim7.holds Tryd.pinned (.plain (OpenSpec.upto syntaxGroupSpec)) syntaxGroupUptoCard

/-- THE SECOND FORM's CARD OF 'raddlelaw04.SyntaxBounds'. -/
def syntaxBoundsUptoCard : Claim7 := { stood := { row := syntaxBoundsUptoRow, standIns := [], harness := (true, "34487d53b774ddac04a4a51e2f52417dafc7ceb784a53337263b2f5e34f33684"), looks := true }, kinds := [], alts := [], laidByText := true, laidKinds := [.data, .data, .data, .sentinel, .sentinel], laidTests := true, laidLooks := .later }
def SyntaxBoundsUptoCardSaid : Prop := Claim7.holds Tryd.pinned (.plain (OpenSpec.upto syntaxBoundsSpec)) syntaxBoundsUptoCard

/-- THE SECOND FORM's CARD OF 'raddlelaw04.SyntaxLetters'. -/
def syntaxLettersUptoCard : Claim7 := { stood := { row := syntaxLettersUptoRow, standIns := [], harness := (true, "34487d53b774ddac04a4a51e2f52417dafc7ceb784a53337263b2f5e34f33684"), looks := true }, kinds := [], alts := [], laidByText := true, laidKinds := [.data, .data, .data, .sentinel, .sentinel], laidTests := true, laidLooks := .later }
def SyntaxLettersUptoCardSaid : Prop := Claim7.holds Tryd.pinned (.plain (OpenSpec.upto syntaxLettersSpec)) syntaxLettersUptoCard

/-- THE SECOND FORM's CARD OF 'raddlelaw04.SyntaxName'. -/
def syntaxNameUptoCard : Claim7 := { stood := { row := syntaxNameUptoRow, standIns := [], harness := (true, "34487d53b774ddac04a4a51e2f52417dafc7ceb784a53337263b2f5e34f33684"), looks := true }, kinds := [], alts := [], laidByText := true, laidKinds := [.data, .data, .data, .sentinel, .sentinel], laidTests := true, laidLooks := .later }
def SyntaxNameUptoCardSaid : Prop := Claim7.holds Tryd.pinned (.plain (OpenSpec.upto syntaxNameSpec)) syntaxNameUptoCard
end Rows
end Go.Proofs.YtoflibajalbdfaaDoor
