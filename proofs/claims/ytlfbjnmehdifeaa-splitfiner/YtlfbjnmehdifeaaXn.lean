/- First tells the least bytes of the classes that Of deals. No program. -/
import Derived.Test.YtlfbjnmehdifeaaXm
namespace Go.Proofs.Ytlfbjnmehdifeaa
open Go.RowKit

theorem lst_head (p : Nat → Bool) (b n : Nat) (hb : b < n) (hp : p b = true) (hn : ∀ x, x < b → p x = false) : (lstB p n).getD 0 0 = (b : Int) := by
  have h1 : ∀ k, k ≤ b → lstB p k = [] := by
    intro k
    induction k with
    | zero => intro _; rfl
    | succ k ih => intro hk; rw [lst_no p k (hn k (by omega))]; exact ih (by omega)
  have h2 : ∀ d, ∃ t, lstB p (b + 1 + d) = (b : Int) :: t := by
    intro d
    induction d with
    | zero => exact ⟨[], by rw [Nat.add_zero, lst_yes p b hp, h1 b (Nat.le_refl _)]; rfl⟩
    | succ d ih =>
      obtain ⟨t, ht⟩ := ih
      rw [← Nat.add_assoc]
      cases h : p (b + 1 + d) with
      | true => exact ⟨t ++ [((b + 1 + d : Nat) : Int)], by rw [lst_yes p _ h, ht]; rfl⟩
      | false => exact ⟨t, by rw [lst_no p _ h, ht]⟩
  obtain ⟨t, ht⟩ := h2 (n - (b + 1))
  rw [show b + 1 + (n - (b + 1)) = n from by omega] at ht
  rw [ht]; rfl

section
variable {L : Nat → Nat → Bool}
theorem least_eq (E : Eqv L) (c : Nat) (hc : c < (frsts L 256).length) : leastB (fun b => (clsOf L b : Int)) (c : Int) = (((frsts L 256).getD c 0 : Nat) : Int) := by
  have hm : (frsts L 256).getD c 0 ∈ frsts L 256 := by rw [List.getD_eq_getElem?_getD, List.getElem?_eq_getElem hc]; exact List.getElem_mem hc
  have hlt := frsts_lt L 256 _ hm
  have h1 := cls_first L 256 c hc
  refine lst_head _ _ 256 hlt ?_ ?_
  · simp only [clsB, decide_eq_true_eq]; rw [h1]
  · intro x hx
    simp only [clsB, decide_eq_false_iff_not]
    intro e
    have e' : clsOf L x = c := by omega
    have := cls_least E x 256 (by omega)
    rw [e'] at this
    omega
theorem first_eq (E : Eqv L) : frstM (fun b => (clsOf L b : Int)) ((frsts L 256).length : Int) = natI (frsts L 256) := by
  have h1 := frsts_len L 256
  have h2 := (frsts_zero (L := L) 256 (by omega)).2
  unfold frstM
  rw [if_pos (by omega), Int.toNat_natCast]
  apply List.ext_getElem?
  intro i
  unfold frstL natI
  by_cases hi : i < (frsts L 256).length
  · rw [List.getElem?_map, List.getElem?_map, List.getElem?_range hi, List.getElem?_eq_getElem hi]
    have := least_eq E i hi
    rw [List.getD_eq_getElem?_getD, List.getElem?_eq_getElem hi] at this
    simpa using this
  · rw [List.getElem?_eq_none (by simp; omega), List.getElem?_eq_none (by simp; omega)]
end

end Go.Proofs.Ytlfbjnmehdifeaa
