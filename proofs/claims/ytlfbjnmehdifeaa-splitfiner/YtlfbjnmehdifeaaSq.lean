/- Ranges of a rising list stand apart, and together have just its numbers. Plain lists. -/
import Derived.Test.YtlfbjnmehdifeaaSp
import Derived.Test.YtlfbjnmehdifeaaWc
namespace Go.Proofs.Ytlfbjnmehdifeaa

structure Good (l : List Int) (o : List (Int × Int)) : Prop where
  apart : o.Pairwise fun x y => x.2 + 1 < y.1
  up : ∀ x ∈ o, x.1 ≤ x.2
  has : ∀ n : Int, (∃ x ∈ o, x.1 ≤ n ∧ n ≤ x.2) ↔ n ∈ l

theorem good_step {l : List Int} {b : Int} (hr : (l ++ [b]).Pairwise (· < ·)) (g : Good l (spansL l)) : Good (l ++ [b]) (spansL (l ++ [b])) := by
  have hlt : ∀ x ∈ l, x < b := fun x hx => (List.pairwise_append.1 hr).2.2 x hx b (by simp)
  rw [spans_snoc]
  rcases List.eq_nil_or_concat l with rfl | ⟨l', c, rfl⟩
  · have e : spStep (spansL []) b = [(b, b)] := rfl
    rw [e]
    refine ⟨by simp, by simp, fun n => ?_⟩
    simp
    omega
  · rw [List.concat_eq_append] at g hlt ⊢
    have hne : l' ++ [c] ≠ [] := by simp
    obtain ⟨init, a, e⟩ := spans_last (l' ++ [c]) hne
    rw [show (l' ++ [c]).getLast hne = c from by simp] at e
    rw [e] at g ⊢
    obtain ⟨ga, gu, gh⟩ := g
    rw [step_last]
    have hc : c < b := hlt c (by simp)
    have hac : a ≤ c := gu (a, c) (by simp)
    have hin : ∀ x ∈ init, x.2 + 1 < a := fun x hx => (List.pairwise_append.1 ga).2.2 x hx (a, c) (by simp)
    by_cases hcb : c + 1 = b
    · rw [if_pos hcb]
      refine ⟨?_, ?_, fun n => ?_⟩
      · rw [List.pairwise_append] at ga ⊢
        refine ⟨ga.1, by simp, fun x hx y hy => ?_⟩
        simp at hy
        subst hy
        exact hin x hx
      · intro x hx
        rw [List.mem_append] at hx
        rcases hx with hx | hx
        · exact gu x (by simp [hx])
        · simp at hx; subst hx; show a ≤ b; omega
      · rw [List.mem_append, ← gh n]
        constructor
        · rintro ⟨x, hx, h1, h2⟩
          rw [List.mem_append] at hx
          rcases hx with hx | hx
          · exact .inl ⟨x, by simp [hx], h1, h2⟩
          · simp at hx; subst hx
            by_cases e1 : n = b
            · exact .inr (by simp [e1])
            · exact .inl ⟨(a, c), by simp, h1, by have : n ≤ b := h2; show n ≤ c; omega⟩
        · rintro (⟨x, hx, h1, h2⟩ | h)
          · rw [List.mem_append] at hx
            rcases hx with hx | hx
            · exact ⟨x, by simp [hx], h1, h2⟩
            · simp at hx; subst hx
              exact ⟨(a, b), by simp, h1, by have : n ≤ c := h2; show n ≤ b; omega⟩
          · simp at h; subst h
            exact ⟨(a, n), by simp, by show a ≤ n; omega, Int.le_refl _⟩
    · rw [if_neg hcb]
      refine ⟨?_, ?_, fun n => ?_⟩
      · rw [List.pairwise_append]
        refine ⟨ga, by simp, fun x hx y hy => ?_⟩
        simp at hy
        subst hy
        rw [List.mem_append] at hx
        rcases hx with hx | hx
        · have := hin x hx; show x.2 + 1 < b; omega
        · simp at hx; subst hx; show c + 1 < b; omega
      · intro x hx
        rw [List.mem_append] at hx
        rcases hx with hx | hx
        · exact gu x hx
        · simp at hx; subst hx; exact Int.le_refl _
      · rw [List.mem_append, ← gh n]
        constructor
        · rintro ⟨x, hx, h1, h2⟩
          rw [List.mem_append] at hx
          rcases hx with hx | hx
          · exact .inl ⟨x, hx, h1, h2⟩
          · simp at hx; subst hx
            have h1' : b ≤ n := h1
            have h2' : n ≤ b := h2
            exact .inr (by simp; omega)
        · rintro (⟨x, hx, h1, h2⟩ | h)
          · exact ⟨x, by rw [List.mem_append]; exact .inl hx, h1, h2⟩
          · simp at h; subst h
            exact ⟨(n, n), by simp, Int.le_refl _, Int.le_refl _⟩

theorem good_spans (l : List Int) (hr : l.Pairwise (· < ·)) : Good l (spansL l) := by
  have key : ∀ n, ∀ l : List Int, l.length = n → l.Pairwise (· < ·) → Good l (spansL l) := by
    intro n
    induction n with
    | zero =>
      intro l hl _
      rw [List.eq_nil_of_length_eq_zero hl]
      exact ⟨List.Pairwise.nil, by simp [spansL], fun n => by simp [spansL]⟩
    | succ n ih =>
      intro l hl hr
      have hne : l ≠ [] := fun e => by subst e; simp at hl
      obtain ⟨l', b, rfl⟩ : ∃ l' b, l = l' ++ [b] := ⟨l.dropLast, l.getLast hne, (List.dropLast_concat_getLast hne).symm⟩
      exact good_step hr (ih l' (by simpa using hl) (List.pairwise_append.1 hr).1)
  exact key _ l rfl hr

/-- The ranges as sets. -/
def rngs (o : List (Int × Int)) : List (Nat → Bool) := o.map fun x => rngB x.1 (x.2 + 1)

theorem rngs_has (p : Nat → Bool) (b : Nat) (hb : b < 256) : anyB (rngs (spansL (lstB p 256))) b = p b := by
  have g := good_spans _ (lst_rises p 256)
  have h := g.has (b : Int)
  rw [lst_mem] at h
  rw [Bool.eq_iff_iff]
  unfold anyB rngs
  rw [List.any_map, List.any_eq_true]
  constructor
  · rintro ⟨x, hx, h1⟩
    simp only [Function.comp_apply, rngB, decide_eq_true_eq] at h1
    obtain ⟨b', e, _, hp⟩ := h.1 ⟨x, hx, h1.1, by omega⟩
    rw [show b = b' from by omega]; exact hp
  · intro hp
    obtain ⟨x, hx, h1, h2⟩ := h.2 ⟨b, rfl, hb, hp⟩
    exact ⟨x, hx, by simp only [Function.comp_apply, rngB, decide_eq_true_eq]; omega⟩

theorem lst_has (p : Nat → Bool) (b : Nat) (hb : b < 256) : inB (lstB p 256) b = p b := by
  rw [Bool.eq_iff_iff]
  unfold inB
  rw [List.any_eq_true]
  constructor
  · rintro ⟨x, hx, h1⟩
    obtain ⟨b', rfl, _, hp⟩ := (lst_mem p 256 x).1 hx
    simp at h1
    rw [h1]; exact hp
  · intro hp
    exact ⟨(b : Int), (lst_mem p 256 b).2 ⟨b, rfl, hb, hp⟩, by simp⟩

/-- What a round over the ranges of a set meets. -/
theorem span_at (p : Nat → Bool) (k : Nat) (hk : k < (spansL (lstB p 256)).length) :
    0 ≤ ((spansL (lstB p 256)).getD k (0, 0)).1 ∧ ((spansL (lstB p 256)).getD k (0, 0)).1 ≤ ((spansL (lstB p 256)).getD k (0, 0)).2 ∧ ((spansL (lstB p 256)).getD k (0, 0)).2 ≤ 255 := by
  have g := good_spans _ (lst_rises p 256)
  have hm : (spansL (lstB p 256)).getD k (0, 0) ∈ spansL (lstB p 256) := by rw [List.getD_eq_getElem?_getD, List.getElem?_eq_getElem hk]; exact List.getElem_mem hk
  generalize (spansL (lstB p 256)).getD k (0, 0) = x at *
  have hu := g.up x hm
  have h1 := lst_byte p _ ((g.has x.1).1 ⟨x, hm, Int.le_refl _, hu⟩)
  have h2 := lst_byte p _ ((g.has x.2).1 ⟨x, hm, hu, Int.le_refl _⟩)
  omega
theorem span_next (p : Nat → Bool) (k : Nat) (hk : k + 1 < (spansL (lstB p 256)).length) :
    ((spansL (lstB p 256)).getD k (0, 0)).2 + 1 < ((spansL (lstB p 256)).getD (k + 1) (0, 0)).1 := by
  have g := (good_spans _ (lst_rises p 256)).apart
  rw [List.getD_eq_getElem?_getD, List.getD_eq_getElem?_getD, List.getElem?_eq_getElem (by omega), List.getElem?_eq_getElem hk]
  exact List.pairwise_iff_getElem.1 g k (k + 1) (by omega) hk (by omega)

end Go.Proofs.Ytlfbjnmehdifeaa
