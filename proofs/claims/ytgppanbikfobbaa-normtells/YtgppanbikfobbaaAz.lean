/- NormFold. -/
import Derived.Test.YtgppanbikfobbaaAy
namespace Go.Proofs.Ytgppanbikfobbaa.Sy.Ap
open Go.RowKit
set_option maxRecDepth 100000
set_option linter.unusedVariables false

theorem foldN_twice (n : Nd) : foldN (foldN n) = foldN n := by
  unfold foldN
  rw [show foldK 123 (foldK 123 n.s) = foldK 123 n.s from funext (fold_fold n.s)]
theorem foldL_twice (l : List Nd) : foldL (foldL l) = foldL l := by
  unfold foldL
  rw [List.map_map]
  exact List.map_congr_left fun n _ => foldN_twice n
theorem set_back (g : Gd) : setSG (foldG g) g.s = g := by
  unfold foldG
  split <;> rfl
theorem leq_refl (gs : List Gd) : LEq gs gs := ⟨rfl, fun i hi => ⟨rfl, fun _ _ => rfl, rfl, rfl, rfl, rfl⟩⟩
/-- One node in a row of its own. -/
def NdOne (g : Gd) (A : Option Addr) (c : Nat) (v : Value) (u : World) : Prop := ∃ q, v = .slice (some ⟨q, 0, none⟩) 1 1 ∧ RowA u q 41 (gdL g A c).toArray
theorem NdOne.below {g : Gd} {A : Option Addr} {c : Nat} {v : Value} {u u' : World} (h : NdOne g A c v u) (hb : Below u.heap.size u u') : NdOne g A c v u' := by
  obtain ⟨q, h1, h2⟩ := h
  exact ⟨q, h1, h2.below hb h2.lt⟩
theorem nds_one {u : World} {q : Nat} {g : Gd} {A : Option Addr} {c : Nat} (R : RowA u q 41 (gdL g A c).toArray) (hI : Its u u.heap.size A g.l) : Nds u u.heap.size (some ⟨q, 0, none⟩) [g] := fun _ => by
  refine ⟨q, 0, rfl, R.lt, fun i hi => ?_⟩
  have : i = 0 := by simp at hi; omega
  subst this
  exact ⟨A, c, hI, range_row R⟩
theorem put_none (a : Act) (v : Value) : a.put none v = a := rfl
structure FlS (w : World) (q bb o : Nat) (g : Gd) (A1 : Option Addr) (c1 : Nat) (A2 : Option Addr) (c2 : Nat) (u : World) : Prop where
  box : RowA u q 41 (gdL g A1 c1).toArray
  nd : u.rangeAt bb o (gdL g A2 c2)
  i1 : Its u w.heap.size A1 g.l
  i2 : Its u w.heap.size A2 g.l
  bel : Below w.heap.size w u
  lt : bb < w.heap.size
theorem FlS.below {w : World} {q bb o : Nat} {g : Gd} {A1 : Option Addr} {c1 : Nat} {A2 : Option Addr} {c2 : Nat} {u u' : World} (h : FlS w q bb o g A1 c1 A2 c2 u) (hb : Below u.heap.size u u') : FlS w q bb o g A1 c1 A2 c2 u' :=
  ⟨h.box.below hb h.box.lt, fun j v hv => by rw [hb.cell (by have := h.lt; have := h.bel.size; show bb < _; omega)]; exact h.nd j v hv, h.i1.below (hb.mono h.bel.size), h.i2.below (hb.mono h.bel.size), h.bel.trans (hb.mono h.bel.size), h.lt⟩
theorem same_ones {w : World} {q bb o : Nat} {g : Gd} {A1 : Option Addr} {c1 : Nat} {A2 : Option Addr} {c2 : Nat} {u : World} {v1 v2 : Value} (hl : g.l.length ≤ 1024) (hS : FlS w q bb o g A1 c1 A2 c2 u) (h1 : NdOne g A1 c1 v1 u) (h2 : NdOne g A2 c2 v2 u) :
    Calls Try.prog 11 #[v1, v2] u fun e w' => e = .returned (.bool true) ∧ Below u.heap.size u w' := by
  obtain ⟨q1, rfl, R1⟩ := h1
  obtain ⟨q2, rfl, R2⟩ := h2
  exact same_any (some ⟨q1, 0, none⟩) (some ⟨q2, 0, none⟩) 1 1 [g] [g] u (nds_one R1 (hS.i1.more hS.bel.size)) (nds_one R2 (hS.i2.more hS.bel.size)) (leq_refl _) (by show 1 ≤ _; omega) (fun x hx => by rw [List.mem_singleton] at hx; subst hx; omega)
theorem range_mid {w : World} {b o : Nat} {g : Gd} {A : Option Addr} {c : Nat} (r : w.rangeAt b o (gdL g A c)) : w.rangeAt b (o + 1) [.int .u64 (W g.s 0), .int .u64 (W g.s 1), .int .u64 (W g.s 2), .int .u64 (W g.s 3)] := fun j v hv => by
  have hj : j < 4 := by
    rcases Nat.lt_or_ge j 4 with h | h
    · exact h
    · rw [List.getElem?_eq_none (by show 4 ≤ j; exact h)] at hv; cases hv
  have := r (j + 1) v (by
    rcases (by omega : j = 0 ∨ j = 1 ∨ j = 2 ∨ j = 3) with rfl | rfl | rfl | rfl <;> exact hv)
  rw [show o + 1 + j = o + (j + 1) from by omega]
  exact this
end Go.Proofs.Ytgppanbikfobbaa.Sy.Ap
