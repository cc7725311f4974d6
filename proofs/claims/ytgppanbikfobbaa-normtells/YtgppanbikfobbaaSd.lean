/- SyntaxTree, by the landed Parse and Right. -/
import Derived.Test.YtgppanbikfobbaaSc
namespace Go.Proofs.Ytgppanbikfobbaa.Sy
open Go.RowKit
set_option maxRecDepth 100000
set_option linter.unusedVariables false

theorem name_short {n : Nd} (h : shapeB n = true) : n.name.length ≤ 32 := by
  unfold shapeB nameB at h
  repeat' split at h
  all_goals first
    | (simp only [Bool.and_eq_true, beq_iff_eq, decide_eq_true_eq] at h; first | omega | (simp only [h]; decide))
    | cases h
theorem gn_small {gs : List Gd} {ns : List Nd} (hg : GN gs ns) (hs : Shp ns) (hf : ∀ g ∈ gs, g.l.length ≤ 1000000) : ∀ g ∈ gs, g.nm.size ≤ maxLen ∧ g.l.length ≤ maxLen := by
  intro g hgm
  have h2 := hf g hgm
  obtain ⟨i, hi, rfl⟩ := List.getElem_of_mem hgm
  have h1 := (hg.2 i hi).nm
  have hi2 : i < ns.length := by rw [← hg.1]; exact hi
  rw [List.getD_eq_getElem?_getD, List.getElem?_eq_getElem hi, List.getD_eq_getElem?_getD, List.getElem?_eq_getElem hi2] at h1
  simp only [Option.getD_some] at h1
  have h3 := name_short (hs _ (List.getElem_mem hi2))
  rw [← h1, bs_len] at h3
  unfold maxLen
  omega


end Go.Proofs.Ytgppanbikfobbaa.Sy
