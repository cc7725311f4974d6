/- Fold, of bset and of its reference. -/
import Derived.Test.YtlfbjnmehdifeaaWf
import Derived.Deep.RegionHeld3
namespace Go.Proofs.Ytlfbjnmehdifeaa
open Go.RowKit

/-- The bytes of p, and of its letters below k (and their capitals) the other case. -/
def foldK (k : Nat) (p : Nat → Bool) (x : Nat) : Bool := p x || (decide (97 ≤ x ∧ x < k) && p (x - 32)) || (decide (65 ≤ x ∧ x + 32 < k) && p (x + 32))
theorem fold_iff (k : Nat) (p : Nat → Bool) (x : Nat) : foldK k p x = true ↔ (p x = true ∨ (97 ≤ x ∧ x < k) ∧ p (x - 32) = true) ∨ (65 ≤ x ∧ x + 32 < k) ∧ p (x + 32) = true := by
  unfold foldK; simp only [Bool.or_eq_true, Bool.and_eq_true, decide_eq_true_eq]
theorem fold_start (p : Nat → Bool) : foldK 97 p = p := by
  funext x
  rw [Bool.eq_iff_iff, fold_iff]
  constructor
  · rintro ((h | ⟨h, _⟩) | ⟨h, _⟩)
    · exact h
    · omega
    · omega
  · exact fun h => .inl (.inl h)
theorem fold_yes (k : Nat) (p : Nat → Bool) (h0 : 97 ≤ k) (h1 : k ≤ 122) (h : p k = true ∨ p (k - 32) = true) : addB (addB (foldK k p) k) (k - 32) = foldK (k + 1) p := by
  funext x
  unfold addB
  rw [Bool.eq_iff_iff, fold_iff, Bool.or_eq_true, Bool.or_eq_true, fold_iff]
  simp only [beq_iff_eq]
  constructor
  · rintro ((((g | ⟨g1, g2⟩) | ⟨g1, g2⟩) | g) | g)
    · exact .inl (.inl g)
    · exact .inl (.inr ⟨by omega, g2⟩)
    · exact .inr ⟨by omega, g2⟩
    · subst g
      rcases h with h | h
      · exact .inl (.inl h)
      · exact .inl (.inr ⟨by omega, h⟩)
    · subst g
      rcases h with h | h
      · exact .inr ⟨by omega, by rw [Nat.sub_add_cancel (by omega)]; exact h⟩
      · exact .inl (.inl h)
  · rintro ((g | ⟨g1, g2⟩) | ⟨g1, g2⟩)
    · exact .inl (.inl (.inl (.inl g)))
    · by_cases e : x = k
      · exact .inl (.inr e)
      · exact .inl (.inl (.inl (.inr ⟨by omega, g2⟩)))
    · by_cases e : x = k - 32
      · exact .inr e
      · exact .inl (.inl (.inr ⟨by omega, g2⟩))
theorem fold_no (k : Nat) (p : Nat → Bool) (h0 : 97 ≤ k) (h1 : k ≤ 122) (h2 : p k = false) (h3 : p (k - 32) = false) : foldK k p = foldK (k + 1) p := by
  funext x
  rw [Bool.eq_iff_iff, fold_iff, fold_iff]
  constructor
  · rintro ((g | ⟨g1, g2⟩) | ⟨g1, g2⟩)
    · exact .inl (.inl g)
    · exact .inl (.inr ⟨by omega, g2⟩)
    · exact .inr ⟨by omega, g2⟩
  · rintro ((g | ⟨g1, g2⟩) | ⟨g1, g2⟩)
    · exact .inl (.inl g)
    · by_cases e : x = k
      · subst e; rw [h3] at g2; cases g2
      · exact .inl (.inr ⟨by omega, g2⟩)
    · by_cases e : x = k - 32
      · subst e; rw [Nat.sub_add_cancel (by omega), h2] at g2; cases g2
      · exact .inr ⟨by omega, g2⟩


end Go.Proofs.Ytlfbjnmehdifeaa
