/- Rows of nodes that a law makes; NormLong's trees. -/
import Derived.Test.YtgppanbikfobbaaAo
namespace Go.Proofs.Ytgppanbikfobbaa.Sy.Ap
open Go.RowKit
set_option maxRecDepth 100000
set_option linter.unusedVariables false

theorem its_own {w : World} {base n c : Nat} {A : Option Addr} {xs : List Int} (h : w.ownsRow base 3 1 (.slice A n c) n (ints xs)) (hn : xs.length = n) : Its w w.heap.size A xs := fun hne => by
  have hpos : 0 < n := by
    rcases Nat.eq_zero_or_pos xs.length with q | q
    · exact absurd (List.eq_nil_of_length_eq_zero q) hne
    · omega
  obtain ⟨q, cq, hq, _, hlt⟩ := own_pos h hpos
  have hA : A = some ⟨q, 0, none⟩ := by injection hq
  refine ⟨q, 0, hA, hlt, fun j hj => ?_⟩
  have := h.cells (g := q) (by rw [hq]; rfl) j (.int .i64 (xs.getD j 0)) (by
    unfold ints
    rw [List.getElem?_map, List.getElem?_eq_getElem hj, List.getD_eq_getElem?_getD, List.getElem?_eq_getElem hj]
    rfl)
  rw [addr_add] at this
  rw [Nat.zero_add]
  exact this
theorem own_nds {w : World} {B : Nat} {v : Value} {l : List NR} (h : w.ownsRow B 41 9 v l.length (nodesC l)) (hk : ∀ x ∈ l, Its w w.heap.size x.2.1 x.1.l) : ∃ A c, v = .slice A l.length c ∧ Nds w w.heap.size A (l.map (·.1)) ∧ l.length ≤ c := by
  obtain ⟨A, c, hv⟩ := own_form h
  have hcap := own_cap (by rw [hv] at h; exact h)
  rcases Nat.eq_zero_or_pos l.length with h0 | h0
  · refine ⟨A, c, hv, fun hne => absurd ?_ hne, hcap⟩
    rw [List.eq_nil_of_length_eq_zero h0]
    rfl
  · obtain ⟨g, c', hv', _, hg⟩ := own_pos h h0
    rw [hv] at hv'
    cases hv'
    refine ⟨_, c, hv, fun _ => ⟨g, 0, rfl, hg, fun i hi => ?_⟩, hcap⟩
    rw [List.length_map] at hi
    have hx : l[i]? = some l[i] := List.getElem?_eq_getElem hi
    have e : (l.map (·.1)).getD i gd0 = l[i].1 := by rw [List.getD_eq_getElem?_getD, List.getElem?_map, hx]; rfl
    rw [e]
    refine ⟨l[i].2.1, l[i].2.2, hk _ (List.getElem_mem hi), fun j u hu => ?_⟩
    have hj : j < 9 := by
      rcases Nat.lt_or_ge j 9 with h | h
      · exact h
      · rw [List.getElem?_eq_none (by rw [gdL_len]; exact h)] at hu; cases hu
    have := h.cells (g := g) (by rw [hv]; rfl) (i * 9 + j) u (by rw [nodesC_at l i j _ hx hj]; exact hu)
    rw [Nat.zero_add]
    rw [addr_add] at this
    exact this
/-- Leaves, and a node over them all. -/
theorem leaves_forest : ∀ (L : List Nd), (∀ n ∈ L, n.l = []) → Forest L 0 L.length (List.range L.length) := by
  intro L
  have key : ∀ i, i ≤ L.length → (∀ n ∈ L, n.l = []) → Forest L 0 i (List.range i) := by
    intro i
    induction i with
    | zero => intro _ _; exact .nil 0
    | succ i ih =>
      intro hi hL
      have hx : L[i]? = some L[i] := List.getElem?_eq_getElem (by omega)
      rw [List.range_succ]
      exact .snoc (ih (by omega) hL) hx (by rw [hL _ (List.getElem_mem (by omega))]; exact .nil _)
  exact key L.length (Nat.le_refl _)
theorem leaves_tree {L : List Nd} {n : Nd} (hL : ∀ m ∈ L, m.l = []) (hs : Shp L) (hn : shapeB n = true) (hl : n.l = List.range L.length) (hf : L.length < 1024) : TreeN (L ++ [n]) := by
  refine ⟨hs.put hn, by simp, by simp; omega, ?_⟩
  have f4 := Forest.put (xs := []) (ys := n.l) (n := n) (ns := L) (a := 0) (by rw [hl]; exact leaves_forest L hL) rfl
  rw [show (L ++ [n]).length - 1 = L.length from by simp]
  exact f4
theorem lone_tree {n : Nd} (hn : shapeB n = true) (hl : n.l = []) : TreeN [n] := by
  refine ⟨fun m hm => by rw [List.mem_singleton] at hm; subst hm; exact hn, by simp, by simp, ?_⟩
  exact .snoc (.nil 0) (n := n) rfl (by rw [hl]; exact .nil 0)
/-! ### NormLong's trees -/
def s1 : Nat → Bool := oneB 0
theorem W_s0 : W s1 0 = 1 := by kernel_rfl
theorem W_s1 : W s1 1 = 0 := by kernel_rfl
theorem W_s2 : W s1 2 = 0 := by kernel_rfl
theorem W_s3 : W s1 3 = 0 := by kernel_rfl
def litN : NR := (Rf.setG s1, none, 0)
def refN : NR := (refG dA, none, 0)
theorem litL : gdL (Rf.setG s1) none 0 = [.int .u8 2, .int .u64 1, .int .u64 0, .int .u64 0, .int .u64 0, .slice none 0 0, .int .i64 0, .int .i64 0, .string { data := #[] }] := by
  unfold gdL Rf.setG
  simp only [W_s0, W_s1, W_s2, W_s3, List.length_nil]
theorem refL : gdL (refG dA) none 0 = [.int .u8 6, .int .u64 0, .int .u64 0, .int .u64 0, .int .u64 0, .slice none 0 0, .int .i64 0, .int .i64 0, .string { data := #[100] }] := by
  unfold gdL refG
  simp only [W_zero, List.length_nil]
theorem catL (op : Int) (xs : List Int) (A : Option Addr) (c : Nat) : gdL (catG op xs) A c = [.int .u8 op, .int .u64 0, .int .u64 0, .int .u64 0, .int .u64 0, .slice A xs.length c, .int .i64 0, .int .i64 0, .string { data := #[] }] := by
  unfold gdL catG
  simp only [W_zero]
theorem gn_rep {x : Gd} {n : Nd} (h : GN1 x n) (k : Nat) : GN (List.replicate k x) (List.replicate k n) := by
  refine ⟨by simp, fun i hi => ?_⟩
  rw [List.length_replicate] at hi
  have e1 : (List.replicate k x).getD i gd0 = x := by rw [List.getD_eq_getElem?_getD, List.getElem?_replicate, if_pos hi]; rfl
  have e2 : (List.replicate k n).getD i nd0 = n := by rw [List.getD_eq_getElem?_getD, List.getElem?_replicate, if_pos hi]; rfl
  rw [e1, e2]
  exact h
def dT (n : Nat) : List Nd := List.replicate n (ndBytes s1) ++ [ndCat (List.range n)]
def lT (k : Nat) : List Nd := if k = 1 then [ndRef [100]] else List.replicate k (ndRef [100]) ++ [ndAlt (List.range k)]
theorem s1_some : emptyS s1 = false := emptyS_of (x := 0) (by omega) rfl
theorem dT_tree {n : Nat} (h2 : 2 ≤ n) (h : n < 1024) : TreeN (dT n) := by
  refine leaves_tree (fun m hm => by rw [List.eq_of_mem_replicate hm]; rfl) (fun m hm => by rw [List.eq_of_mem_replicate hm]; exact shape_bytes s1_some) (shape_kids (by simpa using h2)).1 ?_ (by simpa using h)
  show List.range n = _
  rw [List.length_replicate]
theorem dT_len (n : Nat) : (dT n).length = n + 1 := by unfold dT; simp
theorem dT_plain (n : Nat) : PlainN (dT n) := fun m hm => by
  unfold dT at hm
  rcases List.mem_append.1 hm with q | q
  · rw [List.eq_of_mem_replicate q]; decide
  · rw [List.mem_singleton] at q; subst q; show (3 : Nat) ≠ 6; decide
theorem lT_tree {k : Nat} (h1 : 1 ≤ k) (h : k < 1024) : TreeN (lT k) := by
  unfold lT
  split
  · exact lone_tree (shape_ref rfl) rfl
  · refine leaves_tree (fun m hm => by rw [List.eq_of_mem_replicate hm]; rfl) (fun m hm => by rw [List.eq_of_mem_replicate hm]; exact shape_ref rfl) (shape_kids (by simp; omega)).2 ?_ (by simpa using h)
    show List.range k = _
    rw [List.length_replicate]
def sumL (n k : Nat) : Nat := if k = 1 then k * (n + 1) else k * (n + 1) + 1
/-- P6.1: how many nodes come, or too many. -/
theorem long_exp {n k : Nat} (h1 : 1 ≤ k) : (1024 < sumL n k → expN (lT k) [([100], dT n)] = .error 3) ∧ (sumL n k ≤ 1024 → ∃ o, expN (lT k) [([100], dT n)] = .ok o ∧ o.length = sumL n k) := by
  have hf : findD [([100], dT n)] [100] = some (dT n) := rfl
  have hR := exF_refs (all := allD [([100], dT n)]) hf (dT_plain n) k x0 (by show 0 ≤ 1024; omega)
  rw [dT_len] at hR
  have hx : x0.out.length = 0 := rfl
  rw [hx, Nat.zero_add] at hR
  unfold lT sumL expN
  by_cases hk : k = 1
  · subst hk
    rw [if_pos rfl, if_pos rfl]
    refine ⟨fun h => ?_, fun h => ?_⟩
    · have : exF (allD [([100], dT n)]) [([100], dT n)] [ndRef [100]] x0 = .error 3 := hR.2 h
      rw [this]
    · obtain ⟨x', e1, e2⟩ := hR.1 h
      have e1' : exF (allD [([100], dT n)]) [([100], dT n)] [ndRef [100]] x0 = .ok x' := e1
      exact ⟨x'.out, by rw [e1'], e2⟩
  · rw [if_neg hk, if_neg hk]
    have hA : (ndAlt (List.range k)).op ≠ 6 := by show (4 : Nat) ≠ 6; decide
    refine ⟨fun h => ?_, fun h => ?_⟩
    · rw [exF_append]
      by_cases hl : k * (n + 1) ≤ 1024
      · obtain ⟨x', e1, e2⟩ := hR.1 hl
        rw [e1]
        simp only
        rw [exF_long hA (by omega)]
      · rw [hR.2 (by omega)]
    · obtain ⟨x', e1, e2⟩ := hR.1 (by omega)
      rw [exF_append, e1]
      simp only
      rw [exF_put hA (by omega), exF_nil]
      refine ⟨_, rfl, ?_⟩
      show (x'.out ++ [_]).length = _
      rw [List.length_append, List.length_singleton, e2]
end Go.Proofs.Ytgppanbikfobbaa.Sy.Ap
