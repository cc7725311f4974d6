/- Bytes made a string. -/
import Derived.Test.YtghjkbjpdjlddaaDoorGn
import Derived.Laws.BytesArg
namespace Go.Proofs.YtghjkbjpdjlddaaDoor
open Go.RowKit

theorem str_bytes (A : Option Addr) (c : Nat) (xs : List Int) (w : World) (h : Bts w w.heap.size A xs) : (convert 22 9 (.slice A xs.length c)).run Tryd.prog w = .ok (.string (strOfNums xs)) w := by
  by_cases hx : xs = []
  · subst hx
    cases A with
    | none => exact run_convert_bytes_nil w 22 5 Tryd.underlying22 Tryd.underlying5 _ _ 9 Tryd.underlying9
    | some a =>
      rw [run_convert_bytes_string w 22 9 5 _ _ _ Tryd.underlying22 Tryd.underlying5 Tryd.underlying9, run_bytesToString w a _ _ [] (by simp [loadCells, loadCellsFrom])]
      rfl
  · obtain ⟨g, off, rfl, _, hc⟩ := h.2 hx
    exact run_convert_bytes_arg w 22 5 Tryd.underlying22 Tryd.underlying5 g off _ _ xs rfl hc 9 Tryd.underlying9

end Go.Proofs.YtghjkbjpdjlddaaDoor
