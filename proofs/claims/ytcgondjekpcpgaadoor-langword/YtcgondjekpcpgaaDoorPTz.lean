/- What the rows' one listed variable gives (the table of TrailingZeros64), and one start that fits it. -/
import Derived.Test.YtcgondjekpcpgaaDoorCards
import Derived.Test.YtcgondjekpcpgaaDoorTie
import Derived.Test.YtcgondjekpcpgaaDoorPAf
import Derived.Test.YtcgondjekpcpgaaDoorPCb
import Derived.Deep.DeepHandedRow
import Derived.Deep.DeepWitnessRowRef
import Derived.LaidLaws
import Derived.Lib.LaidTab
namespace Go.Proofs.YtcgondjekpcpgaaDoor
open Go.ChangeShapes Go.WideShapes Go.ChangeAt Go.RowKit

set_option maxRecDepth 100000
/-- What all rows list. -/
def laidTab : List (String × DataW Unit) := Rows.langTellsRow.laid
theorem laid_db {W : World} (h : laidMetH Tryd.prog laidTab W) : Sy.Lg.DB W := by
  have h1 : laidMet Tryd.prog laidTab W := h
  exact Lib.tabIs_of_head (zs := Sy.Lg.tabT) Sy.Lg.gDB (by kernel_rfl) Tryd.underlying95 Tryd.underlying5 (by kernel_rfl) (by kernel_rfl) h1
def u8c (l : List Nat) : Array Value := (l.map fun n : Nat => Value.int .u8 (n : Int)).toArray
/-- The settled world, and the variable as its initialiser lays it. -/
noncomputable def laidWorld (os : Os) : World :=
  let w0 := World.holding Tryd.prog os ⟨#[], #[], []⟩
  let put := fun (h : Array Obj) (k : Nat) (cs : Array Value) => h.modify k fun
      | .cells _ t frozen => .cells cs t frozen
      | o => o
  { w0 with heap := put w0.heap 0 (u8c Lib.deBruijn64tab) }
theorem laid_met (os : Os) (args : Array Value) : laidMet Tryd.prog laidTab ((laidWorld os).forCall (fun _ _ => 0) ⟨#[], args, []⟩).memory :=
  laidMet_of_run' 8 (by kernel_rfl) (by kernel_rfl)
end Go.Proofs.YtcgondjekpcpgaaDoor
