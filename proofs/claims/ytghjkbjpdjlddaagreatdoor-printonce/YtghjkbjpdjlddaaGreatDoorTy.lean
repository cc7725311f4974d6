/- What the rows' listed variables give for numbers in digits. -/
import Derived.Test.YtghjkbjpdjlddaaGreatDoorTx
import Derived.Test.YtghjkbjpdjlddaaGreatDoorDc
import Derived.Lib.LaidTab
namespace Go.Proofs.YtghjkbjpdjlddaaGreatDoor
open Go.ChangeShapes Go.WideShapes Go.ChangeAt Go.RowKit
set_option maxRecDepth 100000
/-- What the rows list that call no Parse of the program's own. -/
def laidThree : List (String × DataW Unit) := Rows.printBackRow.laid
theorem laid_tv {W : World} (h : laidMetH Tryz.prog laidThree W) : Sy.TV W := by
  have h1 : laidMet Tryz.prog laidThree W := h
  exact Lib.tabIs_of_head (zs := Lib.pow10Tab) Sy.gTV (by kernel_rfl) Tryz.underlying117 Tryz.underlying32 (by kernel_rfl) (by kernel_rfl) h1.tail.tail
theorem laid_tv5 {W : World} (h : laidMetH Tryz.prog laidAll W) : Sy.TV W := by
  have h1 : laidMet Tryz.prog laidAll W := h
  exact Lib.tabIs_of_head (zs := Lib.pow10Tab) Sy.gTV (by kernel_rfl) Tryz.underlying117 Tryz.underlying32 (by kernel_rfl) (by kernel_rfl) h1.tail.tail
theorem laid_met3 (os : Os) (args : Array Value) : laidMet Tryz.prog laidThree ((laidWorld os).forCall (fun _ _ => 0) ⟨#[], args, []⟩).memory :=
  laidMet_of_run' 8 (by kernel_rfl) (by kernel_rfl)
end Go.Proofs.YtghjkbjpdjlddaaGreatDoor
