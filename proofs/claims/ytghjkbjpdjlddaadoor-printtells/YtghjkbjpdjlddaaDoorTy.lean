/- What the rows' listed variables give for numbers in digits. -/
import Derived.Test.YtghjkbjpdjlddaaDoorTx
import Derived.Test.YtghjkbjpdjlddaaDoorDc
import Derived.Lib.LaidTab
namespace Go.Proofs.YtghjkbjpdjlddaaDoor
open Go.ChangeShapes Go.WideShapes Go.ChangeAt Go.RowKit
set_option maxRecDepth 100000
/-- What the rows list that call no Parse of the program's own. -/
def laidThree : List (String × DataW Unit) := Rows.printTellsRow.laid
theorem laid_tv {W : World} (h : laidMetH Tryd.prog laidThree W) : Sy.TV W := by
  have h1 : laidMet Tryd.prog laidThree W := h
  exact Lib.tabIs_of_head (zs := Lib.pow10Tab) Sy.gTV (by kernel_rfl) Tryd.underlying126 Tryd.underlying26 (by kernel_rfl) (by kernel_rfl) h1.tail.tail
theorem laid_tv5 {W : World} (h : laidMetH Tryd.prog laidAll W) : Sy.TV W := by
  have h1 : laidMet Tryd.prog laidAll W := h
  exact Lib.tabIs_of_head (zs := Lib.pow10Tab) Sy.gTV (by kernel_rfl) Tryd.underlying126 Tryd.underlying26 (by kernel_rfl) (by kernel_rfl) h1.tail.tail
theorem laid_met3 (os : Os) (args : Array Value) : laidMet Tryd.prog laidThree ((laidWorld os).forCall (fun _ _ => 0) ⟨#[], args, []⟩).memory :=
  laidMet_of_run' 8 (by kernel_rfl) (by kernel_rfl)
end Go.Proofs.YtghjkbjpdjlddaaDoor
