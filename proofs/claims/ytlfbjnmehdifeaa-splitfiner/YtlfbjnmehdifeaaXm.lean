/- What classes are: two bytes are of one class just if they are alike; classes come in the order of their least bytes. No program. -/
import Derived.Test.YtlfbjnmehdifeaaXe
namespace Go.Proofs.Ytlfbjnmehdifeaa
open Go.RowKit

theorem like_refl (ps : List (Nat → Bool)) (a : Nat) : likeB ps a a = true := by
  unfold likeB; rw [List.all_eq_true]; intro p _; simp
theorem like_symm (ps : List (Nat → Bool)) (a b : Nat) (h : likeB ps a b = true) : likeB ps b a = true := by
  unfold likeB at h ⊢
  rw [List.all_eq_true] at h ⊢
  intro p hp
  have := h p hp
  simp only [beq_iff_eq] at this ⊢
  exact this.symm
theorem like_trans (ps : List (Nat → Bool)) (a b c : Nat) (h : likeB ps a b = true) (h2 : likeB ps b c = true) : likeB ps a c = true := by
  unfold likeB at h h2 ⊢
  rw [List.all_eq_true] at h h2 ⊢
  intro p hp
  have h1 := h p hp
  have h3 := h2 p hp
  simp only [beq_iff_eq] at h1 h3 ⊢
  exact h1.trans h3

structure Eqv (L : Nat → Nat → Bool) : Prop where
  refl : ∀ a, L a a = true
  symm : ∀ a b, L a b = true → L b a = true
  trans : ∀ a b c, L a b = true → L b c = true → L a c = true
theorem like_eqv (ps : List (Nat → Bool)) : Eqv (likeB ps) := ⟨like_refl ps, like_symm ps, like_trans ps⟩

section
variable {L : Nat → Nat → Bool}
theorem cls_le (L : Nat → Nat → Bool) (n : Nat) : clsOf L n ≤ (frsts L n).length := List.findIdx_le_length
theorem frsts_step (L : Nat → Nat → Bool) (n : Nat) : (clsOf L n < (frsts L n).length ∧ frsts L (n + 1) = frsts L n) ∨ (clsOf L n = (frsts L n).length ∧ frsts L (n + 1) = frsts L n ++ [n]) := by
  rcases Nat.lt_or_ge (clsOf L n) (frsts L n).length with h | h
  · exact .inl ⟨h, frsts_old L n h⟩
  · have e : clsOf L n = (frsts L n).length := Nat.le_antisymm (cls_le L n) h
    exact .inr ⟨e, frsts_new L n e⟩
/-- More bytes only add classes. -/
theorem frsts_more (L : Nat → Nat → Bool) (n d : Nat) : ∃ t, frsts L (n + d) = frsts L n ++ t := by
  induction d with
  | zero => exact ⟨[], by simp⟩
  | succ d ih =>
    obtain ⟨t, ht⟩ := ih
    rcases frsts_step L (n + d) with ⟨_, h⟩ | ⟨_, h⟩
    · exact ⟨t, by rw [← Nat.add_assoc, h, ht]⟩
    · exact ⟨t ++ [n + d], by rw [← Nat.add_assoc, h, ht, List.append_assoc]⟩
theorem getD_append_left {l t : List Nat} {k : Nat} (h : k < l.length) : (l ++ t).getD k 0 = l.getD k 0 := by
  rw [List.getD_eq_getElem?_getD, List.getElem?_append_left h, List.getD_eq_getElem?_getD]
/-- Each byte is alike the least of its class. -/
theorem cls_like (E : Eqv L) (b n : Nat) (h : b < n) : clsOf L b < (frsts L n).length ∧ L ((frsts L n).getD (clsOf L b) 0) b = true := by
  obtain ⟨t, ht⟩ := frsts_more L (b + 1) (n - (b + 1))
  rw [show b + 1 + (n - (b + 1)) = n from by omega] at ht
  have key : clsOf L b < (frsts L (b + 1)).length ∧ L ((frsts L (b + 1)).getD (clsOf L b) 0) b = true := by
    rcases frsts_step L b with ⟨h1, h2⟩ | ⟨h1, h2⟩
    · rw [h2]
      refine ⟨h1, ?_⟩
      have := List.findIdx_getElem (w := h1)
      rw [List.getD_eq_getElem?_getD, List.getElem?_eq_getElem h1]
      exact this
    · rw [h2, h1]
      refine ⟨by simp, ?_⟩
      rw [List.getD_eq_getElem?_getD, List.getElem?_append_right (Nat.le_refl _)]
      simpa using E.refl b
  rw [ht]
  refine ⟨by rw [List.length_append]; omega, ?_⟩
  rw [getD_append_left key.1]
  exact key.2
/-- A byte is alike none of the least ones ahead of its class. -/
theorem cls_not (L : Nat → Nat → Bool) (b n k : Nat) (h : b ≤ n) (hk : k < clsOf L b) : L ((frsts L n).getD k 0) b = false := by
  obtain ⟨t, ht⟩ := frsts_more L b (n - b)
  rw [show b + (n - b) = n from by omega] at ht
  have hl : k < (frsts L b).length := Nat.lt_of_lt_of_le hk (cls_le L b)
  rw [ht, getD_append_left hl]
  have := List.not_of_lt_findIdx (p := fun c => L c b) (xs := frsts L b) hk
  rw [List.getD_eq_getElem?_getD, List.getElem?_eq_getElem hl]
  simpa using this
/-- One class just if alike. -/
theorem cls_iff (E : Eqv L) (a b : Nat) : clsOf L a = clsOf L b ↔ L a b = true := by
  have ha := cls_like E a (a + b + 1) (by omega)
  have hb := cls_like E b (a + b + 1) (by omega)
  constructor
  · intro e
    rw [e] at ha
    exact E.trans _ _ _ (E.symm _ _ ha.2) hb.2
  · intro h
    rcases Nat.lt_trichotomy (clsOf L a) (clsOf L b) with hl | he | hg
    · have := cls_not L b (a + b + 1) (clsOf L a) (by omega) hl
      rw [E.trans _ _ _ ha.2 h] at this; cases this
    · exact he
    · have := cls_not L a (a + b + 1) (clsOf L b) (by omega) hg
      rw [E.trans _ _ _ hb.2 (E.symm _ _ h)] at this; cases this
/-- The least bytes rise. -/
theorem frsts_rise (L : Nat → Nat → Bool) (n : Nat) : (frsts L n).Pairwise (· < ·) := by
  induction n with
  | zero => exact List.Pairwise.nil
  | succ n ih =>
    rcases frsts_step L n with ⟨_, h⟩ | ⟨_, h⟩
    · rw [h]; exact ih
    · rw [h, List.pairwise_append]
      exact ⟨ih, by simp, fun a ha b hb => by simp at hb; subst hb; exact frsts_lt L _ a ha⟩
/-- The least byte of class k is of class k, and none of that class lies below it. -/
theorem cls_first (L : Nat → Nat → Bool) (n : Nat) : ∀ k, k < (frsts L n).length → clsOf L ((frsts L n).getD k 0) = k := by
  induction n with
  | zero => intro k hk; simp [frsts] at hk
  | succ n ih =>
    intro k hk
    rcases frsts_step L n with ⟨_, h⟩ | ⟨e, h⟩
    · rw [h] at hk ⊢; exact ih k hk
    · rw [h] at hk ⊢
      by_cases hkl : k < (frsts L n).length
      · rw [getD_append_left hkl]; exact ih k hkl
      · have : k = (frsts L n).length := by rw [List.length_append] at hk; simp at hk; omega
        subst this
        rw [List.getD_eq_getElem?_getD, List.getElem?_append_right (Nat.le_refl _)]
        simpa using e
theorem cls_least (E : Eqv L) (b n : Nat) (h : b < n) : (frsts L n).getD (clsOf L b) 0 ≤ b := by
  obtain ⟨t, ht⟩ := frsts_more L (b + 1) (n - (b + 1))
  rw [show b + 1 + (n - (b + 1)) = n from by omega] at ht
  have hl := (cls_like E b (b + 1) (by omega)).1
  rw [ht, getD_append_left hl]
  have hm : (frsts L (b + 1)).getD (clsOf L b) 0 ∈ frsts L (b + 1) := by
    rw [List.getD_eq_getElem?_getD, List.getElem?_eq_getElem hl]; exact List.getElem_mem hl
  have := frsts_lt L (b + 1) _ hm
  omega
/-- What is dealt so is right. -/
theorem right_cls (L : Nat → Nat → Bool) (n : Nat) : rightK (fun b => (clsOf L b : Int)) n = some ((frsts L n).length : Int) := by
  induction n with
  | zero => rfl
  | succ n ih =>
    have hle := cls_le L n
    unfold rightK
    rw [ih]
    rcases frsts_step L n with ⟨h1, h2⟩ | ⟨h1, h2⟩
    · rw [h2]; simp; omega
    · rw [h2, h1]; simp
theorem frsts_zero (n : Nat) (h : 0 < n) : (frsts L n).getD 0 0 = 0 ∧ 0 < (frsts L n).length := by
  obtain ⟨t, ht⟩ := frsts_more L 1 (n - 1)
  rw [show 1 + (n - 1) = n from by omega] at ht
  have h1 : frsts L 1 = [0] := by
    rcases frsts_step L 0 with ⟨h, _⟩ | ⟨_, h⟩
    · simp [frsts] at h
    · rw [Nat.zero_add] at h
      rw [h]
      rfl
  rw [ht, h1]
  simp
end

end Go.Proofs.Ytlfbjnmehdifeaa
