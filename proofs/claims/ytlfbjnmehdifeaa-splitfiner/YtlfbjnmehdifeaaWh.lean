/- Of and Or, And at lists that are written out; Fold of bset. -/
import Derived.Test.YtlfbjnmehdifeaaWg
import Derived.Deep.DeepMust
namespace Go.Proofs.Ytlfbjnmehdifeaa
open Go.RowKit

theorem new_at (w : World) (cs : Array Value) (t : TypeId) (j : Nat) (u : Value) (h : cs[j]? = some u) : (w.alloc (.cells cs t)).cell? ⟨w.heap.size, j, none⟩ = some u := by
  rw [World.cell?_alloc_new]; exact h

theorem of1 (a : Int) (w : World) (a0 : 0 ≤ a) (a1 : a ≤ 255) :
    Calls Try.prog 29 #[.slice (some ⟨w.heap.size, 0, none⟩) 1 1] (w.alloc (.cells #[.int .u8 a] 5)) fun e w' => e = .returned (.agg #[.int .u64 (W (oneB a.toNat) 0), .int .u64 (W (oneB a.toNat) 1), .int .u64 (W (oneB a.toNat) 2), .int .u64 (W (oneB a.toNat) 3)]) ∧ Below w.heap.size w w' := by
  have h := of_any (some ⟨w.heap.size, 0, none⟩) 1 [a] (w.alloc (.cells #[.int .u8 a] 5)) ⟨by simp; omega, fun _ => ⟨_, 0, rfl, by simp, fun i hi => by
    have : i = 0 := by simp at hi; omega
    subst this
    exact new_at _ _ _ _ _ rfl⟩⟩ (by simp)
  have e : inB [a] = oneB a.toNat := by funext x; simp [inB, oneB]
  rw [e] at h
  exact h.mono fun e w' h => ⟨h.1, bel1 h.2⟩

theorem of2 (a b : Int) (w : World) (a0 : 0 ≤ a) (a1 : a ≤ 255) (b0 : 0 ≤ b) (b1 : b ≤ 255) :
    Calls Try.prog 29 #[.slice (some ⟨w.heap.size, 0, none⟩) 2 2] (w.alloc (.cells #[.int .u8 a, .int .u8 b] 5)) fun e w' => e = .returned (.agg #[.int .u64 (W (addB (oneB a.toNat) b.toNat) 0), .int .u64 (W (addB (oneB a.toNat) b.toNat) 1), .int .u64 (W (addB (oneB a.toNat) b.toNat) 2), .int .u64 (W (addB (oneB a.toNat) b.toNat) 3)]) ∧ Below w.heap.size w w' := by
  have h := of_any (some ⟨w.heap.size, 0, none⟩) 2 [a, b] (w.alloc (.cells #[.int .u8 a, .int .u8 b] 5)) ⟨by simp; omega, fun _ => ⟨_, 0, rfl, by simp, fun i hi => by
    have : i = 0 ∨ i = 1 := by simp at hi; omega
    rcases this with rfl | rfl <;> exact new_at _ _ _ _ _ rfl⟩⟩ (by simp)
  have e : inB [a, b] = addB (oneB a.toNat) b.toNat := by funext x; simp [inB, oneB, addB]
  rw [e] at h
  exact h.mono fun e w' h => ⟨h.1, bel1 h.2⟩

theorem of2d (a b : Int) (w : World) (a0 : 0 ≤ a) (a1 : a ≤ 255) (b0 : 0 ≤ b) (b1 : b ≤ 255) :
    Calls Try.prog 29 #[.slice (some ⟨w.heap.size, 0, none⟩) 2 2] (w.alloc (.cells #[.int .u8 a, .int .u8 b] 5)).drew fun e w' => e = .returned (.agg #[.int .u64 (W (addB (oneB a.toNat) b.toNat) 0), .int .u64 (W (addB (oneB a.toNat) b.toNat) 1), .int .u64 (W (addB (oneB a.toNat) b.toNat) 2), .int .u64 (W (addB (oneB a.toNat) b.toNat) 3)]) ∧ Below w.heap.size w w' :=
  Calls.mono (of2 a b w.drew a0 a1 b0 b1) fun _ _ h => ⟨h.1, bel_of_drew h.2⟩

def c8 (p q : Nat → Bool) : Array Value := #[.int .u64 (W p 0), .int .u64 (W p 1), .int .u64 (W p 2), .int .u64 (W p 3), .int .u64 (W q 0), .int .u64 (W q 1), .int .u64 (W q 2), .int .u64 (W q 3)]
theorem sts2 (p q : Nat → Bool) (w : World) : Sts (w.alloc (.cells (c8 p q) 33)) (w.alloc (.cells (c8 p q) 33)).heap.size (some ⟨w.heap.size, 0, none⟩) [p, q] := by
  refine fun _ => ⟨_, 0, rfl, by simp, fun i hi k hk => ?_⟩
  have hi' : i = 0 ∨ i = 1 := by simp at hi; omega
  have hk' : k = 0 ∨ k = 1 ∨ k = 2 ∨ k = 3 := by omega
  rcases hi' with rfl | rfl <;> rcases hk' with rfl | rfl | rfl | rfl <;> exact new_at _ _ _ _ _ rfl

theorem fold_two (k : Nat) (p : Nat → Bool) : orB (foldK k p) (addB (oneB k) (k - 32)) = addB (addB (foldK k p) k) (k - 32) := by
  funext x; simp [orB, addB, oneB, Bool.or_assoc]


end Go.Proofs.Ytlfbjnmehdifeaa
