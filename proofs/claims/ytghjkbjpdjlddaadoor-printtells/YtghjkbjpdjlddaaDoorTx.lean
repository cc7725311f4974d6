/- What the rows' listed variables give, and one start that fits them. -/
import Derived.Test.YtghjkbjpdjlddaaDoorCards
import Derived.Test.YtghjkbjpdjlddaaDoorTie
import Derived.Test.YtghjkbjpdjlddaaDoorOg
import Derived.Test.YtghjkbjpdjlddaaDoorM2
import Derived.Deep.DeepHandedRow
import Derived.Deep.DeepWitnessRowRef
import Derived.LaidLaws
import Derived.Stop.LaidErr
namespace Go.Proofs.YtghjkbjpdjlddaaDoor
open Go.ChangeShapes Go.WideShapes Go.ChangeAt Go.RowKit

set_option maxRecDepth 100000
theorem gER : Tryd.prog.globalNamed "strconv.ErrRange" = some 5 := by kernel_rfl
theorem gERType : (Tryd.prog.globals[5]?).map (·.type) = some 64 := by kernel_rfl
theorem cellsES : Tryd.prog.cellsOf 154 = 1 := by kernel_rfl
theorem cells9 : Tryd.prog.cellsOf 9 = 1 := by kernel_rfl
theorem star : "*" ++ "errors.errorString" = "*errors.errorString" := by decide
theorem rowES (u : TypeId) (h : Tryd.prog.typeName? 3 u = some "*errors.errorString") : u = 152 :=
  typeName_ptr_named (nm := "errors.errorString") (by rw [star]; kernel_rfl) (by kernel_rfl) (by decide) u (by rw [star]; exact h)
/-- What all rows list. -/
def laidAll : List (String × DataW Unit) := Rows.syntaxLettersRow.laid
theorem laid_ev {W : World} (h : laidMetH Tryd.prog laidAll W) : Sy.EV W := by
  have h1 : laidMet Tryd.prog laidAll W := h
  obtain ⟨a1, s1, hv1, -, -, -⟩ := laid_sentinel (n := "strconv.ErrRange") h1.tail.tail.tail gER gERType Tryd.underlying64 rowES Tryd.underlying152 Tryd.underlying154 rfl rfl Tryd.underlying9 cellsES cells9
  exact ⟨_, by have h0 := World.var?_cell gER hv1 0; simpa using h0, Or.inr ⟨_, _, rfl⟩⟩

abbrev synS : ByteArray := { data := #[105, 110, 118, 97, 108, 105, 100, 32, 115, 121, 110, 116, 97, 120] }
abbrev rngS : ByteArray := { data := #[118, 97, 108, 117, 101, 32, 111, 117, 116, 32, 111, 102, 32, 114, 97, 110, 103, 101] }
/-- So many blocks has the settled world. -/
noncomputable def low : Nat := (World.holding Tryd.prog default ⟨#[], #[], []⟩).heap.size
def u8c (l : List Nat) : Array Value := (l.map fun n : Nat => Value.int .u8 (n : Int)).toArray
def u64c (l : List Nat) : Array Value := (l.map fun n : Nat => Value.int .u64 (n : Int)).toArray
/-- The settled world with two blocks more, and the five variables as their initialisers lay them. -/
noncomputable def laidWorld (os : Os) : World :=
  let w0 := World.holding Tryd.prog os ⟨#[.cells #[.string synS] 154, .cells #[.string rngS] 154], #[], []⟩
  let put := fun (h : Array Obj) (k : Nat) (cs : Array Value) => h.modify k fun
      | .cells _ t frozen => .cells cs t frozen
      | o => o
  { w0 with heap := (put (put (put (put (put w0.heap 4 #[.iface 152 (.pointer (some ⟨low, 0, none⟩))]) 5 #[.iface 152 (.pointer (some ⟨low + 1, 0, none⟩))])
      2 (u8c [0, 1, 28, 2, 29, 14, 24, 3, 30, 22, 20, 15, 25, 17, 4, 8, 31, 27, 13, 23, 21, 19, 16, 7, 26, 12, 18, 6, 11, 5, 10, 9]))
      3 (u8c [0, 1, 56, 2, 57, 49, 28, 3, 61, 58, 42, 50, 38, 29, 17, 4, 62, 47, 59, 36, 45, 43, 51, 22, 53, 39, 33, 30, 24, 18, 12, 5, 63, 55, 48, 27, 60, 41, 37, 16, 46, 35, 44, 21, 52, 32, 23, 11, 54, 26, 40, 15, 34, 20, 31, 10, 25, 14, 19, 9, 13, 8, 7, 6]))
      1 (u64c [1, 10, 100, 1000, 10000, 100000, 1000000, 10000000, 100000000, 1000000000, 10000000000, 100000000000, 1000000000000, 10000000000000, 100000000000000, 1000000000000000, 10000000000000000, 100000000000000000, 1000000000000000000, 10000000000000000000])) }
theorem laid_met (os : Os) (args : Array Value) : laidMet Tryd.prog laidAll ((laidWorld os).forCall (fun _ _ => 0) ⟨#[], args, []⟩).memory :=
  laidMet_of_run' 8 (by kernel_rfl) (by kernel_rfl)
end Go.Proofs.YtghjkbjpdjlddaaDoor
