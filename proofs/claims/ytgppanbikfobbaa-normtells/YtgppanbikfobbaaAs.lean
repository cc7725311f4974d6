/- NormLong. -/
import Derived.Test.YtgppanbikfobbaaAq
namespace Go.Proofs.Ytgppanbikfobbaa.Sy.Ap
open Go.RowKit
set_option maxRecDepth 100000
set_option linter.unusedVariables false

theorem own_last {w : World} {B : Nat} {v : Value} {l : List NR} {k : Nat} {x : NR} (h : w.ownsRow B 41 9 v (k + 1) (nodesC l ++ gdL x.1 x.2.1 x.2.2)) (hk : l.length = k) : w.ownsRow B 41 9 v (l ++ [x]).length (nodesC (l ++ [x])) := by
  rw [List.length_append, hk, ← nodesC_snoc]
  exact h
theorem rep_snoc {α : Type} (i : Nat) (x : α) : List.replicate i x ++ [x] = List.replicate (i + 1) x := by
  rw [List.replicate_succ']
theorem range_own {w : World} {B : Nat} {v : Value} {i : Nat} (h : w.ownsRow B 3 1 v (i + 1) (i64s (List.range i) ++ [.int .i64 (i : Int)])) : w.ownsRow B 3 1 v (i + 1) (i64s (List.range (i + 1))) := by
  rw [List.range_succ, ← i64s_snoc]
  exact h
/-- Both rows so far. -/
structure LgR (w : World) (x : NR) (i : Nat) (vd vk : Value) (wr : World) : Prop where
  d : wr.ownsRow w.heap.size 41 9 vd i (nodesC (List.replicate i x))
  k : wr.ownsRow w.heap.size 3 1 vk i (i64s (List.range i))
  bel : Below w.heap.size w wr
end Go.Proofs.Ytgppanbikfobbaa.Sy.Ap
