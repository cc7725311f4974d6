/- The landed parser: bounds, and how often something is repeated. -/
import Derived.Test.YtghjkbjpdjlddaaDoorTh
import Derived.WalkLawsBesides
namespace Go.Proofs.YtghjkbjpdjlddaaDoor.Sy
open Go.RowKit
set_option maxRecDepth 100000

section
variable {t : List Nat}
theorem digEnd_all : ∀ (f i x : Nat), i ≤ x → x < digEnd t f i → dig t x = true
  | 0, i, x, h1, h2 => by unfold digEnd at h2; omega
  | f + 1, i, x, h1, h2 => by
    unfold digEnd at h2
    split at h2
    · rename_i h3
      rcases Nat.eq_or_lt_of_le h1 with e | e
      · subst e; exact h3
      · exact digEnd_all f (i + 1) x e h2
    · omega
theorem digEnd_pos {f i : Nat} (h : dig t i = true) (hf : 1 ≤ f) : i < digEnd t f i := by
  obtain ⟨g, rfl⟩ : ∃ g, f = g + 1 := ⟨f - 1, by omega⟩
  unfold digEnd
  rw [if_pos h]
  exact digEnd_ge g (i + 1)
theorem digEnd_same {f i : Nat} (h : dig t i = false) : digEnd t f i = i := by
  cases f with
  | zero => rfl
  | succ f => unfold digEnd; rw [h]; rfl
theorem cut_dig {f i j : Nat} (h : digEnd t f i = j) : ∀ c ∈ cut t i j, digitB c = true := by
  intro c hc
  unfold cut at hc
  obtain ⟨k, hk, rfl⟩ := List.getElem_of_mem hc
  rw [List.length_take, List.length_drop] at hk
  have hd := digEnd_all (t := t) f i (i + k) (by omega) (by omega)
  unfold dig at_ at hd
  rw [List.getElem_take, List.getElem_drop]
  rw [List.getD_eq_getElem?_getD, List.getElem?_eq_getElem (by omega)] at hd
  simp at hd
  exact hd.2
/-- What stands behind the first number: P, and the greatest number as its digits m tell it (none: there are none). -/
structure HiP (t : List Nat) (i P : Nat) (l m : List Nat) : Prop where
  lo : loPart t i = numV l
  pl : (hiPart t (loPart t i) (loEnd t i)).2 = P
  hi : (hiPart t (loPart t i) (loEnd t i)).1 = if m = [] then none else some (numV m)
theorem HiP.soon {i P : Nat} {l m : List Nat} (h : HiP t i P l m) (hP : t.length ≤ P) : bounds t i = .error (40, t.length) := by
  unfold bounds; rw [h.pl, if_pos hP]
theorem HiP.no {i P : Nat} {l m : List Nat} (h : HiP t i P l m) (hP : P < t.length) (hn : at_ t P ≠ 125) : bounds t i = .error (41, P) := by
  unfold bounds; rw [h.pl, if_neg (by omega), if_pos hn]
theorem HiP.ok {i P : Nat} {l m : List Nat} (h : HiP t i P l m) (hP : P < t.length) (hn : at_ t P = 125) :
    bounds t i = if bndB (numI l) (if m = [] then -1 else numI m) = true then .ok ((numI l, if m = [] then -1 else numI m), P + 1) else .error (45, i) := by
  unfold bounds
  rw [h.pl, if_neg (by omega), if_neg (fun e => e hn), h.hi, h.lo]
  unfold numI bndB
  cases numV l with
  | none => simp [okBounds]
  | some a =>
    by_cases hm : m = []
    · simp only [hm, if_true]
      by_cases ha : a ≤ 4096
      · rw [show okBounds (some a) none = some ((a : Int), -1) from by simp [okBounds, ha]]
        simp
        omega
      · rw [show okBounds (some a) none = none from by simp [okBounds, ha]]
        simp
        omega
    · simp only [hm, if_false]
      cases numV m with
      | none => simp [okBounds]
      | some c =>
        by_cases ha : a ≤ 4096 ∧ c ≤ 4096 ∧ 1 ≤ c ∧ a ≤ c
        · rw [show okBounds (some a) (some (some c)) = some ((a : Int), (c : Int)) from by simp [okBounds, ha]]
          simp
          omega
        · rw [show okBounds (some a) (some (some c)) = none from by simp [okBounds, ha]]
          simp
          omega
end
end Go.Proofs.YtghjkbjpdjlddaaDoor.Sy
