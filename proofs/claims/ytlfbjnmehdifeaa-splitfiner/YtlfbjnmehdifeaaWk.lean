/- 'shown': the document's examples hold. -/
import Derived.Test.YtlfbjnmehdifeaaWj
import Derived.Laws.BytesArg
namespace Go.Proofs.Ytlfbjnmehdifeaa
open Go.RowKit

/-- What the string of a slice of bytes is. -/
theorem str_bytes (A : Option Addr) (c : Nat) (xs : List Int) (w : World) (h : Bts w w.heap.size A xs) : (convert 35 9 (.slice A xs.length c)).run Try.prog w = .ok (.string (strOfNums xs)) w := by
  by_cases hx : xs = []
  · subst hx
    cases A with
    | none => exact run_convert_bytes_nil w 35 5 Try.underlying35 Try.underlying5 _ _ 9 Try.underlying9
    | some a =>
      rw [run_convert_bytes_string w 35 9 5 _ _ _ Try.underlying35 Try.underlying5 Try.underlying9, run_bytesToString w a _ _ [] (by simp [loadCells, loadCellsFrom])]
      rfl
  · obtain ⟨g, off, rfl, _, hc⟩ := h.2 hx
    exact run_convert_bytes_arg w 35 5 Try.underlying35 Try.underlying5 g off _ _ xs rfl hc 9 Try.underlying9

def shP : Nat → Bool := orB (rngB 97 100) (oneB 122)
theorem sh_list : lstB shP 256 = [97, 98, 99, 122] := by kernel_rfl
theorem sh_str : (strOfNums [97, 98, 99, 122]).toList = [97, 98, 99, 122] := by kernel_rfl
theorem sh_fold : eqB (foldK 123 (oneB 97)) (addB (oneB 65) 97) = true := by
  refine eqB_true ?_
  have h : (List.range 256).all (fun b => foldK 123 (oneB 97) b == addB (oneB 65) 97 b) = true := by kernel_rfl
  intro b hb
  have := List.all_eq_true.1 h b (List.mem_range.2 hb)
  simpa using this
theorem sh_spans : spansL [97, 98, 99, 122] = [(97, 99), (122, 122)] := by kernel_rfl


end Go.Proofs.Ytlfbjnmehdifeaa
