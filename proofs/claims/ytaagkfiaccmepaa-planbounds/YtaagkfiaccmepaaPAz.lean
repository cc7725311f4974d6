/- The landed Fold. -/
import Derived.Test.YtaagkfiaccmepaaPAv
namespace Go.Proofs.Ytaagkfiaccmepaa.Sy.Ap
open Go.RowKit
set_option maxRecDepth 100000
set_option linter.unusedVariables false

def setSG (g : Gd) (s : Nat → Bool) : Gd := ⟨g.op, s, g.l, g.lo, g.hi, g.nm⟩
def foldG (g : Gd) : Gd := if g.op = 2 then setSG g (foldK 123 g.s) else g
theorem there_row {w : World} {g : Nat} {t : TypeId} {cs : Array Value} (r : RowA w g t cs) {o n : Nat} (h : o + n ≤ cs.size) : w.there g o n := fun j hj => by
  refine ⟨?_, r.thawed _⟩
  have hlt : o + j < cs.size := by omega
  rw [r.at_ (k := o + j) (v := cs[o + j]) (Array.getElem?_eq_getElem hlt)]
  rfl
theorem row_cells {g : Nat} {t : TypeId} : ∀ (vs : List Value) (o : Nat) (w : World) (cs : Array Value), RowA w g t cs → ∃ cs', RowA (w.setCells g o vs) g t cs' ∧ cs'.size = cs.size
  | [], _, w, cs, r => ⟨cs, r, rfl⟩
  | v :: vs, o, w, cs, r => by
    obtain ⟨c2, r2, h2⟩ := row_cells vs (o + 1) _ _ (r.set o v)
    exact ⟨c2, r2, by rw [h2]; simp⟩
theorem bel_cells {B g : Nat} {a : World} (hB : B ≤ g) : ∀ (vs : List Value) (o : Nat) (w : World), Below B a w → Below B a (w.setCells g o vs)
  | [], _, w, h => h
  | v :: vs, o, w, h => bel_cells hB vs (o + 1) _ (bel_set h _ v hB)
theorem own_cells {base : Nat} {e e' : TypeId} {sz n g : Nat} {v : Value} {xs : List Value} (hne : e ≠ e') : ∀ (vs : List Value) (o : Nat) (w : World) (cs : Array Value), RowA w g e' cs → w.ownsRow base e sz v n xs → (w.setCells g o vs).ownsRow base e sz v n xs
  | [], _, w, cs, _, h => h
  | u :: vs, o, w, cs, r, h => own_cells hne vs (o + 1) _ _ (r.set o u) (own_sb h (own_neR h r hne) u)
/-- So many nodes are folded. -/
structure FdS (w : World) (b n : Nat) (gs : List Gd) (k : Nat) (wr : World) : Prop where
  row : ∃ cs, RowA wr b 39 cs ∧ cs.size = n * 9
  rows : ∀ i, i < k → ∃ A c, wr.ownsRow w.heap.size 3 1 (.slice A (gs.getD i gd0).l.length c) (gs.getD i gd0).l.length (ints (gs.getD i gd0).l) ∧ wr.rangeAt b (i * 9) (gdL (foldG (gs.getD i gd0)) A c)
  bel : Below w.heap.size w wr
  base : w.heap.size ≤ b
theorem foldG_l (g : Gd) : (foldG g).l = g.l := by unfold foldG; split <;> rfl
/-- Once more round: what the round did far from the row (w'), and the row's node. -/
theorem FdS.next {w : World} {b n : Nat} {gs : List Gd} {k : Nat} {wr w' : World} (h : FdS w b n gs k wr) (hk : k < n) (hb : Below wr.heap.size wr w') {A : Option Addr} {c : Nat} {g : Gd} (hg : gs.getD k gd0 = g)
    (ho : w'.ownsRow w.heap.size 3 1 (.slice A g.l.length c) g.l.length (ints g.l)) : FdS w b n gs (k + 1) (w'.setCells b (k * 9) (gdL (foldG g) A c)) := by
  obtain ⟨cs, r, hcs⟩ := h.row
  have r' : RowA w' b 39 cs := r.below hb r.lt
  obtain ⟨cs2, r2, h2⟩ := row_cells (gdL (foldG g) A c) (k * 9) w' cs r'
  have hth : w'.there b (k * 9) (gdL (foldG g) A c).length := there_row r' (by rw [hcs]; show k * 9 + 9 ≤ _; omega)
  refine ⟨⟨cs2, r2, h2.trans hcs⟩, fun i hi => ?_, bel_cells h.base _ _ _ (h.bel.trans (hb.mono h.bel.size)), h.base⟩
  by_cases hik : i = k
  · subst hik
    rw [hg]
    exact ⟨A, c, own_cells (by decide) _ _ _ _ r' ho, World.rangeAt_setCells_same w' b (i * 9) _ hth⟩
  · obtain ⟨A1, c1, o1, r1⟩ := h.rows i (by omega)
    refine ⟨A1, c1, own_cells (by decide) _ _ _ _ r' (own_below o1 hb (Nat.le_refl _)), ?_⟩
    refine World.rangeAt_setCells_apart (fun j v hv => ?_) b (k * 9) _ (.inr (.inl (by show i * 9 + 9 ≤ k * 9; omega)))
    rw [hb.cell (by exact r.lt)]
    exact r1 j v hv
theorem FdS.nds {w : World} {b n : Nat} {gs : List Gd} {wr : World} (h : FdS w b n gs n wr) (hn : gs.length = n) : Nds wr wr.heap.size (some ⟨b, 0, none⟩) (gs.map foldG) := fun _ => by
  obtain ⟨cs, r, hcs⟩ := h.row
  refine ⟨b, 0, rfl, r.lt, fun i hi => ?_⟩
  rw [List.length_map] at hi
  obtain ⟨A, c, o1, r1⟩ := h.rows i (by omega)
  have e : (gs.map foldG).getD i gd0 = foldG (gs.getD i gd0) := by
    rw [List.getD_eq_getElem?_getD, List.getElem?_map, List.getD_eq_getElem?_getD, List.getElem?_eq_getElem hi]
    rfl
  rw [e, Nat.zero_add]
  refine ⟨A, c, ?_, r1⟩
  rw [foldG_l]
  exact its_own o1 rfl
/-- Nodes whose rows are told by their types: they stay where rows of other types grow. -/
def NdT (u : World) (A : Option Addr) (gs : List Gd) : Prop :=
  gs ≠ [] → ∃ b cs, A = some ⟨b, 0, none⟩ ∧ RowA u b 39 cs ∧ ∀ i, i < gs.length → ∃ A' c', u.ownsRow 0 3 1 (.slice A' (gs.getD i gd0).l.length c') (gs.getD i gd0).l.length (ints (gs.getD i gd0).l) ∧ u.rangeAt b (i * 9) (gdL (gs.getD i gd0) A' c')
theorem NdT.nds {u : World} {A : Option Addr} {gs : List Gd} (h : NdT u A gs) : Nds u u.heap.size A gs := fun hne => by
  obtain ⟨b, cs, e, R, hi⟩ := h hne
  refine ⟨b, 0, e, R.lt, fun i hi2 => ?_⟩
  obtain ⟨A', c', o, r⟩ := hi i hi2
  rw [Nat.zero_add]
  exact ⟨A', c', its_own o rfl, r⟩
theorem NdT.below {u u' : World} {A : Option Addr} {gs : List Gd} (h : NdT u A gs) (hb : Below u.heap.size u u') : NdT u' A gs := fun hne => by
  obtain ⟨b, cs, e, R, hi⟩ := h hne
  refine ⟨b, cs, e, R.below hb R.lt, fun i hi2 => ?_⟩
  obtain ⟨A', c', o, r⟩ := hi i hi2
  exact ⟨A', c', own_below o hb (Nat.le_refl _), fun j v hv => by rw [hb.cell (by exact R.lt)]; exact r j v hv⟩
theorem range_row {w : World} {g : Nat} {t : TypeId} {cs : List Value} (r : RowA w g t cs.toArray) : w.rangeAt g 0 cs := fun j v hv => by
  rw [Nat.zero_add]
  exact r.at_ (by rw [List.getElem?_toArray]; exact hv)
end Go.Proofs.Ytaagkfiaccmepaa.Sy.Ap

namespace Go.Proofs.Ytaagkfiaccmepaa.Sy.Ap
open Go.RowKit
set_option maxRecDepth 100000
set_option linter.unusedVariables false

theorem low_kids {ns : List Nd} (ht : TreeN ns) {k : Nat} (hk : k < ns.length) : ∀ i ∈ (ns.getD k nd0).l, i < k := fun i hi => by
  have h := (ht.low k ns[k] (List.getElem?_eq_getElem hk)).2
  rw [List.getD_eq_getElem?_getD, List.getElem?_eq_getElem hk] at hi
  exact h i hi
end Go.Proofs.Ytaagkfiaccmepaa.Sy.Ap

namespace Go.Proofs.Ytaagkfiaccmepaa.Sy.Ap
open Go.RowKit
set_option maxRecDepth 100000
set_option linter.unusedVariables false

/-- One node in a row of its own. -/
def NdOne (g : Gd) (A : Option Addr) (c : Nat) (v : Value) (u : World) : Prop := ∃ q, v = .slice (some ⟨q, 0, none⟩) 1 1 ∧ RowA u q 39 (gdL g A c).toArray
theorem NdOne.below {g : Gd} {A : Option Addr} {c : Nat} {v : Value} {u u' : World} (h : NdOne g A c v u) (hb : Below u.heap.size u u') : NdOne g A c v u' := by
  obtain ⟨q, h1, h2⟩ := h
  exact ⟨q, h1, h2.below hb h2.lt⟩
theorem nds_one {u : World} {q : Nat} {g : Gd} {A : Option Addr} {c : Nat} (R : RowA u q 39 (gdL g A c).toArray) (hI : Its u u.heap.size A g.l) : Nds u u.heap.size (some ⟨q, 0, none⟩) [g] := fun _ => by
  refine ⟨q, 0, rfl, R.lt, fun i hi => ?_⟩
  have : i = 0 := by simp at hi; omega
  subst this
  exact ⟨A, c, hI, range_row R⟩
structure FlS (w : World) (q bb o : Nat) (g : Gd) (A1 : Option Addr) (c1 : Nat) (A2 : Option Addr) (c2 : Nat) (u : World) : Prop where
  box : RowA u q 39 (gdL g A1 c1).toArray
  nd : u.rangeAt bb o (gdL g A2 c2)
  i1 : Its u w.heap.size A1 g.l
  i2 : Its u w.heap.size A2 g.l
  bel : Below w.heap.size w u
  lt : bb < w.heap.size
theorem FlS.below {w : World} {q bb o : Nat} {g : Gd} {A1 : Option Addr} {c1 : Nat} {A2 : Option Addr} {c2 : Nat} {u u' : World} (h : FlS w q bb o g A1 c1 A2 c2 u) (hb : Below u.heap.size u u') : FlS w q bb o g A1 c1 A2 c2 u' :=
  ⟨h.box.below hb h.box.lt, fun j v hv => by rw [hb.cell (by have := h.lt; have := h.bel.size; show bb < _; omega)]; exact h.nd j v hv, h.i1.below (hb.mono h.bel.size), h.i2.below (hb.mono h.bel.size), h.bel.trans (hb.mono h.bel.size), h.lt⟩
end Go.Proofs.Ytaagkfiaccmepaa.Sy.Ap
