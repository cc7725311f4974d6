/- Or and And of bset. -/
import Derived.Test.YtlfbjnmehdifeaaWb
namespace Go.Proofs.Ytlfbjnmehdifeaa
open Go.RowKit
def anyB (ps : List (Nat → Bool)) (x : Nat) : Bool := ps.any fun p => p x
def everyB (ps : List (Nat → Bool)) (x : Nat) : Bool := ps.all fun p => p x
theorem anyB_snoc (l : List (Nat → Bool)) (k : Nat) (h : k < l.length) : anyB (l.take (k + 1)) = orB (anyB (l.take k)) (l.getD k noB) := by
  funext x
  unfold anyB orB
  rw [List.take_succ_eq_append_getElem h, List.any_append, List.getD_eq_getElem?_getD, List.getElem?_eq_getElem h]
  simp
theorem everyB_snoc (l : List (Nat → Bool)) (k : Nat) (h : k < l.length) : everyB (l.take (k + 1)) = andB (everyB (l.take k)) (l.getD k noB) := by
  funext x
  unfold everyB andB
  rw [List.take_succ_eq_append_getElem h, List.all_append, List.getD_eq_getElem?_getD, List.getElem?_eq_getElem h]
  simp

/-- The words below n of p, the others of q. -/
def mixB (n : Nat) (p q : Nat → Bool) (x : Nat) : Bool := if x < 64 * n then p x else q x
theorem mix_lo {n k : Nat} (p q : Nat → Bool) (h : k < n) : W (mixB n p q) k = W p k := by
  apply W_congr
  intro j hj
  unfold mixB
  rw [if_pos (by omega)]
theorem mix_hi {n k : Nat} (p q : Nat → Bool) (h : n ≤ k) : W (mixB n p q) k = W q k := by
  apply W_congr
  intro j hj
  unfold mixB
  rw [if_neg (by omega)]
theorem mix_zero (p q : Nat → Bool) : mixB 0 p q = q := by
  funext x; unfold mixB; rw [if_neg (by omega)]
theorem Row4.same {w : World} {g : Nat} {p q : Nat → Bool} (h : Row4 w g p) (e : ∀ k, k < 4 → W p k = W q k) : Row4 w g q := by
  unfold Row4 at h ⊢
  rw [h, e 0 (by omega), e 1 (by omega), e 2 (by omega), e 3 (by omega)]
theorem Row4.mix4 {w : World} {g : Nat} {p q : Nat → Bool} (h : Row4 w g (mixB 4 p q)) : Row4 w g p := h.same fun _ hk => mix_lo p q hk
theorem Row4.mixPut {w : World} {g : Nat} {p q : Nat → Bool} {j : Nat} (hj : j < 4) (h : Row4 w g (mixB j p q)) : Row4 (w.setCell ⟨g, j, none⟩ (.int .u64 (W p j))) g (mixB (j + 1) p q) := by
  rw [← mix_lo (n := j + 1) p q (by omega : j < j + 1)]
  refine h.put hj fun i _ hne => ?_
  rcases Nat.lt_or_ge i j with hl | hg
  · rw [mix_lo p q (by omega), mix_lo p q hl]
  · rw [mix_hi p q (by omega), mix_hi p q hg]




end Go.Proofs.Ytlfbjnmehdifeaa
