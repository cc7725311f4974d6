/- split as it landed: what cut tells, in numbers. No program. -/
import Derived.Test.YtlfbjnmehdifeaaYb
namespace Go.Proofs.Ytlfbjnmehdifeaa
open Go.RowKit

/-- Alike, and both in the set, or neither. -/
def cutL (L : Nat → Nat → Bool) (p : Nat → Bool) (a b : Nat) : Bool := L a b && (p a == p b)
theorem cut_eqv {L : Nat → Nat → Bool} (E : Eqv L) (p : Nat → Bool) : Eqv (cutL L p) where
  refl a := by simp [cutL, E.refl a]
  symm a b h := by
    simp only [cutL, Bool.and_eq_true, beq_iff_eq] at h ⊢
    exact ⟨E.symm _ _ h.1, h.2.symm⟩
  trans a b c h h2 := by
    simp only [cutL, Bool.and_eq_true, beq_iff_eq] at h h2 ⊢
    exact ⟨E.trans _ _ _ h.1 h2.1, h.2.trans h2.2⟩

/-- The number that a class, within the set or without it, has behind the bytes below b. -/
def num (L : Nat → Nat → Bool) (p : Nat → Bool) (k : Nat) (q : Bool) : Nat → Int
  | 0 => 0
  | b + 1 => if clsOf L b = k ∧ p b = q then (clsOf (cutL L p) b : Int) + 1 else num L p k q b
section
variable {L : Nat → Nat → Bool} {p : Nat → Bool}
theorem num_cases (k : Nat) (q : Bool) (b : Nat) : (num L p k q b = 0 ∧ ∀ a, a < b → ¬ (clsOf L a = k ∧ p a = q)) ∨ ∃ a, a < b ∧ clsOf L a = k ∧ p a = q ∧ num L p k q b = (clsOf (cutL L p) a : Int) + 1 := by
  induction b with
  | zero => exact .inl ⟨rfl, fun a h => by omega⟩
  | succ b ih =>
    unfold num
    by_cases h : clsOf L b = k ∧ p b = q
    · rw [if_pos h]
      exact .inr ⟨b, by omega, h.1, h.2, rfl⟩
    · rw [if_neg h]
      rcases ih with ⟨h0, ha⟩ | ⟨a, ha, h1, h2, h3⟩
      · refine .inl ⟨h0, fun a hl => ?_⟩
        by_cases e : a = b
        · subst e; exact h
        · exact ha a (by omega)
      · exact .inr ⟨a, by omega, h1, h2, h3⟩
/-- None came yet: a new class. -/
theorem num_new (E : Eqv L) (b : Nat) (h : num L p (clsOf L b) (p b) b = 0) : clsOf (cutL L p) b = (frsts (cutL L p) b).length := by
  rcases num_cases (L := L) (p := p) (clsOf L b) (p b) b with ⟨_, ha⟩ | ⟨a, _, _, _, h3⟩
  · apply cls_none
    intro j hj
    have hm : (frsts (cutL L p) b).getD j 0 ∈ frsts (cutL L p) b := by
      rw [List.getD_eq_getElem?_getD, List.getElem?_eq_getElem hj]; exact List.getElem_mem hj
    have hl := frsts_lt _ _ _ hm
    have hn := ha _ hl
    generalize (frsts (cutL L p) b).getD j 0 = c at *
    rw [cls_iff E] at hn
    unfold cutL
    cases hL : L c b
    · rfl
    · have : ¬ p c = p b := fun e => hn ⟨hL, e⟩
      simp [this]
  · omega
/-- One came: its class. -/
theorem num_old (E : Eqv L) (b : Nat) (h : num L p (clsOf L b) (p b) b ≠ 0) : num L p (clsOf L b) (p b) b = (clsOf (cutL L p) b : Int) + 1 ∧ clsOf (cutL L p) b < (frsts (cutL L p) b).length := by
  rcases num_cases (L := L) (p := p) (clsOf L b) (p b) b with ⟨h0, _⟩ | ⟨a, h0, h1, h2, h3⟩
  · exact absurd h0 h
  · have e : clsOf (cutL L p) a = clsOf (cutL L p) b := by
      rw [cls_iff (cut_eqv E p)]
      unfold cutL
      rw [(cls_iff E a b).1 h1, h2]
      simp
    rw [h3, e]
    refine ⟨rfl, ?_⟩
    rw [← e]
    exact (cls_like (cut_eqv E p) a b h0).1
end
theorem like_cut (ps : List (Nat → Bool)) (k : Nat) (hk : k < ps.length) : likeB (ps.take (k + 1)) = cutL (likeB (ps.take k)) (ps.getD k noB) := by
  funext a b
  exact like_snoc ps k hk a b
theorem cls_one (b : Nat) : clsOf (likeB []) b = 0 ∧ frsts (likeB []) (b + 1) = [0] := by
  induction b with
  | zero => exact ⟨rfl, rfl⟩
  | succ b ih =>
    have h : clsOf (likeB []) (b + 1) = 0 := by unfold clsOf; rw [ih.2]; rfl
    exact ⟨h, by rw [frsts_old _ _ (by rw [h, ih.2]; simp), ih.2]⟩
theorem spC_congr {f f' : Nat → Int} (m : Int) (e : ∀ i, i < 256 → f i = f' i) : spC f m = spC f' m := by
  unfold spC
  congr 2
  apply List.map_congr_left
  intro i hi
  rw [e i (by simpa using hi)]

end Go.Proofs.Ytlfbjnmehdifeaa
