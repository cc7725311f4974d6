/-
  DERIVED. GIVEN WITH THE SEED: THE CARDS: each row of YtcgondjekpcpgaaDoorRows.lean that lists a variable, with what it lists TIED to the program's text (the seventh form; the later family's looks); each row that meets fmt, with fmt's text TOLD by the authors' own Lean function (tested against real Go, not proved from fmt's source: count such statements apart). THE CARD IS WHAT COUNTS. Prove the row's statement (the work); the ties are given (YtcgondjekpcpgaaDoorTie.lean); close each card by the builder's one call (the guide's Derived/Test/ToyasCard.lean, 'card_holds'). Laid BY PROGRAM, IN A SANDBOX (cutbox-door.mjs). By AI agents, Wed Nov 11 2026. No macro, syntax, notation, axiom, sorry.
-/
import Derived.Test.YtcgondjekpcpgaaDoorRows
import GoSem.ClaimSeven
namespace Go.Proofs.YtcgondjekpcpgaaDoor
namespace Rows

/-- THE TIED CARD OF 'raddlelaw07.LangTells'. -/
def langTellsCard : Claim7 := { stood := { row := langTellsRow, standIns := [], harness := (true, "72dcc7881ea528835d07048f28b47a81cdd8e0a40b2741d6bcb384835ad547ce"), looks := false }, kinds := [], alts := [], laidByText := true, laidKinds := [.data], laidTests := true, laidLooks := .later }
def LangTellsCardSaid : Prop := Claim7.holds Tryd.pinned (.plain (OpenSpec.ofChange langTellsSpec)) langTellsCard

/-- THE TIED CARD OF 'raddlelaw07.LangRows'. -/
def langRowsCard : Claim7 := { stood := { row := langRowsRow, standIns := [], harness := (true, "72dcc7881ea528835d07048f28b47a81cdd8e0a40b2741d6bcb384835ad547ce"), looks := false }, kinds := [], alts := [], laidByText := true, laidKinds := [.data], laidTests := true, laidLooks := .later }
def LangRowsCardSaid : Prop := Claim7.holds Tryd.pinned (.plain (OpenSpec.ofChange langRowsSpec)) langRowsCard

/-- THE TIED CARD OF 'raddlelaw07.LangTimes'. -/
def langTimesCard : Claim7 := { stood := { row := langTimesRow, standIns := [], harness := (true, "72dcc7881ea528835d07048f28b47a81cdd8e0a40b2741d6bcb384835ad547ce"), looks := false }, kinds := [], alts := [], laidByText := true, laidKinds := [.data], laidTests := true, laidLooks := .later }
def LangTimesCardSaid : Prop := Claim7.holds Tryd.pinned (.plain (OpenSpec.ofChange langTimesSpec)) langTimesCard

/-- THE TIED CARD OF 'raddlelaw07.LangEmpty'. -/
def langEmptyCard : Claim7 := { stood := { row := langEmptyRow, standIns := [], harness := (true, "72dcc7881ea528835d07048f28b47a81cdd8e0a40b2741d6bcb384835ad547ce"), looks := false }, kinds := [], alts := [], laidByText := true, laidKinds := [.data], laidTests := true, laidLooks := .later }
def LangEmptyCardSaid : Prop := Claim7.holds Tryd.pinned (.plain (OpenSpec.ofChange langEmptySpec)) langEmptyCard

/-- THE TIED CARD OF 'raddlelaw07.LangWord'. -/
def langWordCard : Claim7 := { stood := { row := langWordRow, standIns := [], harness := (true, "72dcc7881ea528835d07048f28b47a81cdd8e0a40b2741d6bcb384835ad547ce"), looks := false }, kinds := [], alts := [], laidByText := true, laidKinds := [.data], laidTests := true, laidLooks := .later }
def LangWordCardSaid : Prop := Claim7.holds Tryd.pinned (.plain (OpenSpec.ofChange langWordSpec)) langWordCard

/-- THE TIED CARD OF 'raddlelaw07.LangJoin'. -/
def langJoinCard : Claim7 := { stood := { row := langJoinRow, standIns := [], harness := (true, "72dcc7881ea528835d07048f28b47a81cdd8e0a40b2741d6bcb384835ad547ce"), looks := false }, kinds := [], alts := [], laidByText := true, laidKinds := [.data], laidTests := true, laidLooks := .later }
def LangJoinCardSaid : Prop := Claim7.holds Tryd.pinned (.plain (OpenSpec.ofChange langJoinSpec)) langJoinCard

/-- THE TIED CARD OF 'raddlelaw07.LangFold'. -/
def langFoldCard : Claim7 := { stood := { row := langFoldRow, standIns := [], harness := (true, "72dcc7881ea528835d07048f28b47a81cdd8e0a40b2741d6bcb384835ad547ce"), looks := false }, kinds := [], alts := [], laidByText := true, laidKinds := [.data], laidTests := true, laidLooks := .later }
def LangFoldCardSaid : Prop := Claim7.holds Tryd.pinned (.plain (OpenSpec.ofChange langFoldSpec)) langFoldCard

/-- THE SECOND FORM's CARD OF 'raddlelaw07.LangTells'. -/
def langTellsUptoCard : Claim7 := { stood := { row := langTellsUptoRow, standIns := [], harness := (true, "72dcc7881ea528835d07048f28b47a81cdd8e0a40b2741d6bcb384835ad547ce"), looks := false }, kinds := [], alts := [], laidByText := true, laidKinds := [.data], laidTests := true, laidLooks := .later }
def LangTellsUptoCardSaid : Prop := Claim7.holds Tryd.pinned (.plain (OpenSpec.upto langTellsSpec)) langTellsUptoCard

/-- THE SECOND FORM's CARD OF 'raddlelaw07.LangRows'. -/
def langRowsUptoCard : Claim7 := { stood := { row := langRowsUptoRow, standIns := [], harness := (true, "72dcc7881ea528835d07048f28b47a81cdd8e0a40b2741d6bcb384835ad547ce"), looks := false }, kinds := [], alts := [], laidByText := true, laidKinds := [.data], laidTests := true, laidLooks := .later }
def LangRowsUptoCardSaid : Prop := Claim7.holds Tryd.pinned (.plain (OpenSpec.upto langRowsSpec)) langRowsUptoCard

/-- THE SECOND FORM's CARD OF 'raddlelaw07.LangTimes'. -/
def langTimesUptoCard : Claim7 := { stood := { row := langTimesUptoRow, standIns := [], harness := (true, "72dcc7881ea528835d07048f28b47a81cdd8e0a40b2741d6bcb384835ad547ce"), looks := false }, kinds := [], alts := [], laidByText := true, laidKinds := [.data], laidTests := true, laidLooks := .later }
def LangTimesUptoCardSaid : Prop := Claim7.holds Tryd.pinned (.plain (OpenSpec.upto langTimesSpec)) langTimesUptoCard

/-- THE SECOND FORM's CARD OF 'raddlelaw07.LangEmpty'. -/
def langEmptyUptoCard : Claim7 := { stood := { row := langEmptyUptoRow, standIns := [], harness := (true, "72dcc7881ea528835d07048f28b47a81cdd8e0a40b2741d6bcb384835ad547ce"), looks := false }, kinds := [], alts := [], laidByText := true, laidKinds := [.data], laidTests := true, laidLooks := .later }
def LangEmptyUptoCardSaid : Prop := Claim7.holds Tryd.pinned (.plain (OpenSpec.upto langEmptySpec)) langEmptyUptoCard

/-- THE SECOND FORM's CARD OF 'raddlelaw07.LangWord'. -/
def langWordUptoCard : Claim7 := { stood := { row := langWordUptoRow, standIns := [], harness := (true, "72dcc7881ea528835d07048f28b47a81cdd8e0a40b2741d6bcb384835ad547ce"), looks := false }, kinds := [], alts := [], laidByText := true, laidKinds := [.data], laidTests := true, laidLooks := .later }
def LangWordUptoCardSaid : Prop := Claim7.holds Tryd.pinned (.plain (OpenSpec.upto langWordSpec)) langWordUptoCard

/-- THE SECOND FORM's CARD OF 'raddlelaw07.LangJoin'. -/
def langJoinUptoCard : Claim7 := { stood := { row := langJoinUptoRow, standIns := [], harness := (true, "72dcc7881ea528835d07048f28b47a81cdd8e0a40b2741d6bcb384835ad547ce"), looks := false }, kinds := [], alts := [], laidByText := true, laidKinds := [.data], laidTests := true, laidLooks := .later }
def LangJoinUptoCardSaid : Prop := Claim7.holds Tryd.pinned (.plain (OpenSpec.upto langJoinSpec)) langJoinUptoCard

/-- THE SECOND FORM's CARD OF 'raddlelaw07.LangFold'. -/
def langFoldUptoCard : Claim7 := { stood := { row := langFoldUptoRow, standIns := [], harness := (true, "72dcc7881ea528835d07048f28b47a81cdd8e0a40b2741d6bcb384835ad547ce"), looks := false }, kinds := [], alts := [], laidByText := true, laidKinds := [.data], laidTests := true, laidLooks := .later }
def LangFoldUptoCardSaid : Prop := Claim7.holds Tryd.pinned (.plain (OpenSpec.upto langFoldSpec)) langFoldUptoCard
end Rows
end Go.Proofs.YtcgondjekpcpgaaDoor
