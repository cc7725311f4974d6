/- Slices of sets that a call has made, by what they read as. -/
import Derived.Test.YtlfbjnmehdifeaaBx
namespace Go.Proofs.Ytlfbjnmehdifeaa
open Go.RowKit

def Sl (ps : List (Nat → Bool)) (v : Value) (w : World) : Prop := ∃ A c, v = .slice A ps.length c ∧ Sts w w.heap.size A ps
theorem Sl.below {ps : List (Nat → Bool)} {v : Value} {w w' : World} (h : Sl ps v w) (hb : Below w.heap.size w w') : Sl ps v w' := by
  obtain ⟨A, c, rfl, hs⟩ := h
  exact ⟨A, c, rfl, (hs.below hb).more hb.size⟩
theorem Sl.two (p q : Nat → Bool) (w : World) : Sl [p, q] (.slice (some ⟨w.heap.size, 0, none⟩) 2 2) (w.alloc (.cells #[.int .u64 (W p 0), .int .u64 (W p 1), .int .u64 (W p 2), .int .u64 (W p 3), .int .u64 (W q 0), .int .u64 (W q 1), .int .u64 (W q 2), .int .u64 (W q 3)] 33)) := ⟨_, 2, rfl, sts2 p q w⟩
def c12 (p q r : Nat → Bool) : Array Value := #[.int .u64 (W p 0), .int .u64 (W p 1), .int .u64 (W p 2), .int .u64 (W p 3), .int .u64 (W q 0), .int .u64 (W q 1), .int .u64 (W q 2), .int .u64 (W q 3), .int .u64 (W r 0), .int .u64 (W r 1), .int .u64 (W r 2), .int .u64 (W r 3)]
theorem sts3 (p q r : Nat → Bool) (w : World) : Sts (w.alloc (.cells (c12 p q r) 33)) (w.alloc (.cells (c12 p q r) 33)).heap.size (some ⟨w.heap.size, 0, none⟩) [p, q, r] := by
  refine fun _ => ⟨_, 0, rfl, by simp, fun i hi k hk => ?_⟩
  have hi' : i = 0 ∨ i = 1 ∨ i = 2 := by simp at hi; omega
  have hk' : k = 0 ∨ k = 1 ∨ k = 2 ∨ k = 3 := by omega
  rcases hi' with rfl | rfl | rfl <;> rcases hk' with rfl | rfl | rfl | rfl <;> exact new_at _ _ _ _ _ rfl
theorem Sl.three (p q r : Nat → Bool) (w : World) : Sl [p, q, r] (.slice (some ⟨w.heap.size, 0, none⟩) 3 3) (w.alloc (.cells #[.int .u64 (W p 0), .int .u64 (W p 1), .int .u64 (W p 2), .int .u64 (W p 3), .int .u64 (W q 0), .int .u64 (W q 1), .int .u64 (W q 2), .int .u64 (W q 3), .int .u64 (W r 0), .int .u64 (W r 1), .int .u64 (W r 2), .int .u64 (W r 3)] 33)) := ⟨_, 3, rfl, sts3 p q r w⟩

theorem neq_no {p q : Nat → Bool} (h : ∀ b, b < 256 → p b = q b) (w : World) : (binOp .neq 33 (.agg #[.int .u64 (W (p) 0), .int .u64 (W (p) 1), .int .u64 (W (p) 2), .int .u64 (W (p) 3)]) (.agg #[.int .u64 (W (q) 0), .int .u64 (W (q) 1), .int .u64 (W (q) 2), .int .u64 (W (q) 3)])).run Try.prog w = .ok (.bool false) w := by
  have := set_neq p q w
  rw [eqB_true h] at this
  exact this
theorem neq_zero {p : Nat → Bool} (h : ∀ b, b < 256 → p b = false) (w : World) : (binOp .neq 33 (.agg #[.int .u64 (W (p) 0), .int .u64 (W (p) 1), .int .u64 (W (p) 2), .int .u64 (W (p) 3)]) (.agg #[.int .u64 0, .int .u64 0, .int .u64 0, .int .u64 0])).run Try.prog w = .ok (.bool false) w := by
  have := neq_no (p := p) (q := noB) h w
  simp only [W_zero] at this
  exact this
theorem eql_yes {p q : Nat → Bool} (h : ∀ b, b < 256 → p b = q b) (w : World) : (binOp .eql 33 (.agg #[.int .u64 (W (p) 0), .int .u64 (W (p) 1), .int .u64 (W (p) 2), .int .u64 (W (p) 3)]) (.agg #[.int .u64 (W (q) 0), .int .u64 (W (q) 1), .int .u64 (W (q) 2), .int .u64 (W (q) 3)])).run Try.prog w = .ok (.bool true) w := by
  have := set_eql p q w
  rw [eqB_true h] at this
  exact this

end Go.Proofs.Ytlfbjnmehdifeaa
