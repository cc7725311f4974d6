/- NormName: a name alone; names that nothing has, or that stand for themselves. -/
import Derived.Test.YtdaaigkmlbpbgaaPJs
import Derived.Test.YtdaaigkmlbpbgaaPJn
import Derived.ArgAppend
import Derived.Test.YtdaaigkmlbpbgaaPRs
import Derived.Test.YtdaaigkmlbpbgaaPCa
import Derived.Lib.LaidTab
import Derived.Shelf.Spec.TrailingZeros
namespace Go.Proofs.Ytdaaigkmlbpbgaa.Sy.Ap
open Go.RowKit
set_option maxRecDepth 100000
set_option linter.unusedVariables false

abbrev bA : ByteArray := { data := #[98] }
section
variable {P : Program} {ops : Array Oper} {rest : List Oper} {o : Oper} {a : Act} {w : World} {Q : Exit → Act → World → Prop}
end
end Go.Proofs.Ytdaaigkmlbpbgaa.Sy.Ap

namespace Go.Proofs.Ytdaaigkmlbpbgaa.Sy.Ap
open Go.RowKit
set_option maxRecDepth 100000
set_option linter.unusedVariables false

def setSG (g : Gd) (s : Nat → Bool) : Gd := ⟨g.op, s, g.l, g.lo, g.hi, g.nm⟩
def foldG (g : Gd) : Gd := if g.op = 2 then setSG g (foldK 123 g.s) else g
theorem there_row {w : World} {g : Nat} {t : TypeId} {cs : Array Value} (r : RowA w g t cs) {o n : Nat} (h : o + n ≤ cs.size) : w.there g o n := fun j hj => by
  refine ⟨?_, r.thawed _⟩
  have hlt : o + j < cs.size := by omega
  rw [r.at_ (k := o + j) (v := cs[o + j]) (Array.getElem?_eq_getElem hlt)]
  rfl
theorem row_cells {g : Nat} {t : TypeId} : ∀ (vs : List Value) (o : Nat) (w : World) (cs : Array Value), RowA w g t cs → ∃ cs', RowA (w.setCells g o vs) g t cs' ∧ cs'.size = cs.size
  | [], _, w, cs, r => ⟨cs, r, rfl⟩
  | v :: vs, o, w, cs, r => by
    obtain ⟨c2, r2, h2⟩ := row_cells vs (o + 1) _ _ (r.set o v)
    exact ⟨c2, r2, by rw [h2]; simp⟩
theorem bel_cells {B g : Nat} {a : World} (hB : B ≤ g) : ∀ (vs : List Value) (o : Nat) (w : World), Below B a w → Below B a (w.setCells g o vs)
  | [], _, w, h => h
  | v :: vs, o, w, h => bel_cells hB vs (o + 1) _ (bel_set h _ v hB)
theorem own_cells {base : Nat} {e e' : TypeId} {sz n g : Nat} {v : Value} {xs : List Value} (hne : e ≠ e') : ∀ (vs : List Value) (o : Nat) (w : World) (cs : Array Value), RowA w g e' cs → w.ownsRow base e sz v n xs → (w.setCells g o vs).ownsRow base e sz v n xs
  | [], _, w, cs, _, h => h
  | u :: vs, o, w, cs, r, h => own_cells hne vs (o + 1) _ _ (r.set o u) (own_sb h (own_neR h r hne) u)
/-- So many nodes are folded. -/
structure FdS (w : World) (b n : Nat) (gs : List Gd) (k : Nat) (wr : World) : Prop where
  row : ∃ cs, RowA wr b 38 cs ∧ cs.size = n * 9
  rows : ∀ i, i < k → ∃ A c, wr.ownsRow w.heap.size 3 1 (.slice A (gs.getD i gd0).l.length c) (gs.getD i gd0).l.length (ints (gs.getD i gd0).l) ∧ wr.rangeAt b (i * 9) (gdL (foldG (gs.getD i gd0)) A c)
  bel : Below w.heap.size w wr
  base : w.heap.size ≤ b
theorem foldG_l (g : Gd) : (foldG g).l = g.l := by unfold foldG; split <;> rfl
/-- Once more round: what the round did far from the row (w'), and the row's node. -/
theorem FdS.next {w : World} {b n : Nat} {gs : List Gd} {k : Nat} {wr w' : World} (h : FdS w b n gs k wr) (hk : k < n) (hb : Below wr.heap.size wr w') {A : Option Addr} {c : Nat} {g : Gd} (hg : gs.getD k gd0 = g)
    (ho : w'.ownsRow w.heap.size 3 1 (.slice A g.l.length c) g.l.length (ints g.l)) : FdS w b n gs (k + 1) (w'.setCells b (k * 9) (gdL (foldG g) A c)) := by
  obtain ⟨cs, r, hcs⟩ := h.row
  have r' : RowA w' b 38 cs := r.below hb r.lt
  obtain ⟨cs2, r2, h2⟩ := row_cells (gdL (foldG g) A c) (k * 9) w' cs r'
  have hth : w'.there b (k * 9) (gdL (foldG g) A c).length := there_row r' (by rw [hcs]; show k * 9 + 9 ≤ _; omega)
  refine ⟨⟨cs2, r2, h2.trans hcs⟩, fun i hi => ?_, bel_cells h.base _ _ _ (h.bel.trans (hb.mono h.bel.size)), h.base⟩
  by_cases hik : i = k
  · subst hik
    rw [hg]
    exact ⟨A, c, own_cells (by decide) _ _ _ _ r' ho, World.rangeAt_setCells_same w' b (i * 9) _ hth⟩
  · obtain ⟨A1, c1, o1, r1⟩ := h.rows i (by omega)
    refine ⟨A1, c1, own_cells (by decide) _ _ _ _ r' (own_below o1 hb (Nat.le_refl _)), ?_⟩
    refine World.rangeAt_setCells_apart (fun j v hv => ?_) b (k * 9) _ (.inr (.inl (by show i * 9 + 9 ≤ k * 9; omega)))
    rw [hb.cell (by exact r.lt)]
    exact r1 j v hv
theorem FdS.nds {w : World} {b n : Nat} {gs : List Gd} {wr : World} (h : FdS w b n gs n wr) (hn : gs.length = n) : Nds wr wr.heap.size (some ⟨b, 0, none⟩) (gs.map foldG) := fun _ => by
  obtain ⟨cs, r, hcs⟩ := h.row
  refine ⟨b, 0, rfl, r.lt, fun i hi => ?_⟩
  rw [List.length_map] at hi
  obtain ⟨A, c, o1, r1⟩ := h.rows i (by omega)
  have e : (gs.map foldG).getD i gd0 = foldG (gs.getD i gd0) := by
    rw [List.getD_eq_getElem?_getD, List.getElem?_map, List.getD_eq_getElem?_getD, List.getElem?_eq_getElem hi]
    rfl
  rw [e, Nat.zero_add]
  refine ⟨A, c, ?_, r1⟩
  rw [foldG_l]
  exact its_own o1 rfl
/-- Nodes whose rows are told by their types: they stay where rows of other types grow. -/
def NdT (u : World) (A : Option Addr) (gs : List Gd) : Prop :=
  gs ≠ [] → ∃ b cs, A = some ⟨b, 0, none⟩ ∧ RowA u b 38 cs ∧ ∀ i, i < gs.length → ∃ A' c', u.ownsRow 0 3 1 (.slice A' (gs.getD i gd0).l.length c') (gs.getD i gd0).l.length (ints (gs.getD i gd0).l) ∧ u.rangeAt b (i * 9) (gdL (gs.getD i gd0) A' c')
theorem NdT.nds {u : World} {A : Option Addr} {gs : List Gd} (h : NdT u A gs) : Nds u u.heap.size A gs := fun hne => by
  obtain ⟨b, cs, e, R, hi⟩ := h hne
  refine ⟨b, 0, e, R.lt, fun i hi2 => ?_⟩
  obtain ⟨A', c', o, r⟩ := hi i hi2
  rw [Nat.zero_add]
  exact ⟨A', c', its_own o rfl, r⟩
theorem NdT.below {u u' : World} {A : Option Addr} {gs : List Gd} (h : NdT u A gs) (hb : Below u.heap.size u u') : NdT u' A gs := fun hne => by
  obtain ⟨b, cs, e, R, hi⟩ := h hne
  refine ⟨b, cs, e, R.below hb R.lt, fun i hi2 => ?_⟩
  obtain ⟨A', c', o, r⟩ := hi i hi2
  exact ⟨A', c', own_below o hb (Nat.le_refl _), fun j v hv => by rw [hb.cell (by exact R.lt)]; exact r j v hv⟩
theorem own_less {w : World} {b b' : Nat} {e : TypeId} {size : Nat} {v : Value} {n : Nat} {xs : List Value} (h : w.ownsRow b e size v n xs) (hb : b' ≤ b) : w.ownsRow b' e size v n xs := by
  obtain ⟨h1, h2⟩ := h
  refine ⟨h1, ?_⟩
  rcases h2 with h2 | ⟨g, cap, cur, hv, hg, r⟩
  · exact .inl h2
  · exact .inr ⟨g, cap, cur, hv, Nat.le_trans hb hg, r⟩
end Go.Proofs.Ytdaaigkmlbpbgaa.Sy.Ap

namespace Go.Proofs.Ytdaaigkmlbpbgaa.Sy.Ap
open Go.RowKit
set_option maxRecDepth 100000
set_option linter.unusedVariables false

theorem low_kids {ns : List Nd} (ht : TreeN ns) {k : Nat} (hk : k < ns.length) : ∀ i ∈ (ns.getD k nd0).l, i < k := fun i hi => by
  have h := (ht.low k ns[k] (List.getElem?_eq_getElem hk)).2
  rw [List.getD_eq_getElem?_getD, List.getElem?_eq_getElem hk] at hi
  exact h i hi
theorem bool_info6 : (Try.prog.info? 4).map (fun i => (i.zero, i.size, i.bytes)) = some (some (.bool false), 1, 1) := by kernel_rfl
theorem make_bools6 (n : Nat) (hn : n ≤ 1000000) (w : World) : (Instr.makeSlice 58 (.int .i64 (n : Int)) (.int .i64 (n : Int))).run Try.prog w =
    .ok (.slice (some ⟨w.heap.size, 0, none⟩) n n) (w.alloc (.cells (fnC n (fun _ => .bool false)) 4)) := by
  obtain ⟨i0, hi0, hz0, hz1, hz2⟩ := info_parts bool_info6
  have := run_make (P := Try.prog) w 58 4 i0 _ Try.underlying58 hi0 hz0 .i64 .i64 (n : Int) (n : Int) (by omega) (Int.le_refl _) (by rw [hz2]; omega) (by omega)
  rw [this, hz1, Int.toNat_natCast, made_one _ rfl]
end Go.Proofs.Ytdaaigkmlbpbgaa.Sy.Ap

namespace Go.Proofs.Ytdaaigkmlbpbgaa.Sy.Ap
open Go.RowKit
set_option maxRecDepth 100000
set_option linter.unusedVariables false

/-- One node in a row of its own. -/
def NdOne (g : Gd) (A : Option Addr) (c : Nat) (v : Value) (u : World) : Prop := ∃ q, v = .slice (some ⟨q, 0, none⟩) 1 1 ∧ RowA u q 38 (gdL g A c).toArray
theorem NdOne.below {g : Gd} {A : Option Addr} {c : Nat} {v : Value} {u u' : World} (h : NdOne g A c v u) (hb : Below u.heap.size u u') : NdOne g A c v u' := by
  obtain ⟨q, h1, h2⟩ := h
  exact ⟨q, h1, h2.below hb h2.lt⟩
theorem put_none (a : Act) (v : Value) : a.put none v = a := rfl
structure FlS (w : World) (q bb o : Nat) (g : Gd) (A1 : Option Addr) (c1 : Nat) (A2 : Option Addr) (c2 : Nat) (u : World) : Prop where
  box : RowA u q 38 (gdL g A1 c1).toArray
  nd : u.rangeAt bb o (gdL g A2 c2)
  i1 : Its u w.heap.size A1 g.l
  i2 : Its u w.heap.size A2 g.l
  bel : Below w.heap.size w u
  lt : bb < w.heap.size
theorem FlS.below {w : World} {q bb o : Nat} {g : Gd} {A1 : Option Addr} {c1 : Nat} {A2 : Option Addr} {c2 : Nat} {u u' : World} (h : FlS w q bb o g A1 c1 A2 c2 u) (hb : Below u.heap.size u u') : FlS w q bb o g A1 c1 A2 c2 u' :=
  ⟨h.box.below hb h.box.lt, fun j v hv => by rw [hb.cell (by have := h.lt; have := h.bel.size; show bb < _; omega)]; exact h.nd j v hv, h.i1.below (hb.mono h.bel.size), h.i2.below (hb.mono h.bel.size), h.bel.trans (hb.mono h.bel.size), h.lt⟩
end Go.Proofs.Ytdaaigkmlbpbgaa.Sy.Ap

namespace Go.Proofs.Ytdaaigkmlbpbgaa.Sy.Ap
open Go.RowKit
set_option maxRecDepth 100000
set_option linter.unusedVariables false

theorem own_last {w : World} {B : Nat} {v : Value} {l : List NR} {k : Nat} {x : NR} (h : w.ownsRow B 38 9 v (k + 1) (nodesC l ++ gdL x.1 x.2.1 x.2.2)) (hk : l.length = k) : w.ownsRow B 38 9 v (l ++ [x]).length (nodesC (l ++ [x])) := by
  rw [List.length_append, hk, ← nodesC_snoc]
  exact h
end Go.Proofs.Ytdaaigkmlbpbgaa.Sy.Ap

namespace Go.Proofs.Ytdaaigkmlbpbgaa.Sy.Ap
open Go.RowKit
set_option maxRecDepth 100000
set_option linter.unusedVariables false

def foldH (g : Gd) : Gd := setSG g (foldK 123 g.s)
structure RfS (w : World) (gs : List Gd) (i : Nat) (ov : Value) (l : List NR) (wr : World) : Prop where
  own : wr.ownsRow w.heap.size 38 9 ov l.length (nodesC l)
  map : l.map (·.1) = (gs.take i).map foldH
  kid : ∀ x ∈ l, wr.ownsRow w.heap.size 3 1 (.slice x.2.1 x.1.l.length x.2.2) x.1.l.length (ints x.1.l)
  bel : Below w.heap.size w wr
theorem RfS.len {w : World} {gs : List Gd} {i : Nat} {ov : Value} {l : List NR} {wr : World} (h : RfS w gs i ov l wr) (hi : i ≤ gs.length) : l.length = i := by
  have := congrArg List.length h.map
  rw [List.length_map, List.length_map, List.length_take] at this
  omega
theorem takeG_snoc {gs : List Gd} {k : Nat} (hk : k < gs.length) : gs.take (k + 1) = gs.take k ++ [gs.getD k gd0] := by
  rw [List.take_add_one, List.getElem?_eq_getElem hk, List.getD_eq_getElem?_getD, List.getElem?_eq_getElem hk]
  rfl
/-- Once more round: u: what the round did far from the row (with the copied list); then the node is appended. -/
theorem RfS.next {w : World} {gs : List Gd} {i : Nat} {ov v' : Value} {l : List NR} {wr u w7 : World} {g : Gd} {A : Option Addr} {c : Nat} (h : RfS w gs i ov l wr) (hi : i < gs.length) (hg : gs.getD i gd0 = g) (hb : Below wr.heap.size wr u)
    (ho : u.ownsRow w.heap.size 3 1 (.slice A g.l.length c) g.l.length (ints g.l)) (hown : u.ownsRow w.heap.size 38 9 ov l.length (nodesC l)) (hgr : u.grownBy w7 ov.ownBlock) (h7 : w7.ownsRow w.heap.size 38 9 v' (i + 1) (nodesC l ++ gdL (foldH g) A c)) : RfS w gs (i + 1) v' (l ++ [(foldH g, A, c)]) w7 := by
  have hl := h.len (Nat.le_of_lt hi)
  refine ⟨own_last (k := i) h7 hl, ?_, fun x hx => ?_, ?_⟩
  · rw [List.map_append, h.map, takeG_snoc hi, List.map_append, hg]
    rfl
  · rcases List.mem_append.1 hx with q | q
    · have k1 := own_below (h.kid x q) hb (Nat.le_refl _)
      exact own_kept k1 hgr (fun k hk => fun r => own_apart hown k1 (by decide) k hk r)
    · rw [List.mem_singleton] at q
      subst q
      exact own_kept ho hgr (fun k hk => fun r => own_apart hown ho (by decide) k hk r)
  · exact bel_row (h.bel.trans (hb.mono h.bel.size)) (Nat.le_trans h.bel.size hb.size) hgr (fun k hk => (hown.lt k hk).1)
end Go.Proofs.Ytdaaigkmlbpbgaa.Sy.Ap

namespace Go.Proofs.Ytdaaigkmlbpbgaa.Sy.Ap
open Go.RowKit
set_option maxRecDepth 100000
set_option linter.unusedVariables false

theorem addr_addO (g o r : Nat) : (⟨g, o, none⟩ : Addr).add r = ⟨g, o + r, none⟩ := by
  unfold Addr.add
  split
  · rename_i h; rw [h]; rfl
  · rfl
def shfG (c : Nat) (g : Gd) : Gd := withG g (g.l.map fun k => k + (c : Int))
theorem gn_snoc {gs : List Gd} {ns : List Nd} (h : GN gs ns) {g : Gd} {n : Nd} (h1 : GN1 g n) : GN (gs ++ [g]) (ns ++ [n]) := by
  refine ⟨by rw [List.length_append, List.length_append, h.1]; rfl, fun i hi => ?_⟩
  rw [List.length_append, List.length_singleton] at hi
  have hl := h.1
  rcases Nat.lt_or_ge i gs.length with q | q
  · rw [List.getD_eq_getElem?_getD, List.getElem?_append_left q, List.getD_eq_getElem?_getD, List.getElem?_append_left (by omega), ← List.getD_eq_getElem?_getD, ← List.getD_eq_getElem?_getD]
    exact h.2 i q
  · have e : i = gs.length := by omega
    subst e
    rw [List.getD_eq_getElem?_getD, List.getElem?_append_right (Nat.le_refl _), List.getD_eq_getElem?_getD, List.getElem?_append_right (by omega), Nat.sub_self, hl, Nat.sub_self]
    exact h1
/-- Both so far: the first nodes, and i of the others. -/
structure PrS (w : World) (gx gy : List Gd) (i : Nat) (ov : Value) (l : List NR) (wr : World) : Prop where
  own : wr.ownsRow w.heap.size 38 9 ov l.length (nodesC l)
  map : l.map (·.1) = gx ++ (gy.take i).map (shfG gx.length)
  kid : ∀ x ∈ l, Its wr w.heap.size x.2.1 x.1.l ∨ wr.ownsRow w.heap.size 3 1 (.slice x.2.1 x.1.l.length x.2.2) x.1.l.length (ints x.1.l)
  bel : Below w.heap.size w wr
theorem PrS.len {w : World} {gx gy : List Gd} {i : Nat} {ov : Value} {l : List NR} {wr : World} (h : PrS w gx gy i ov l wr) (hi : i ≤ gy.length) : l.length = gx.length + i := by
  have := congrArg List.length h.map
  rw [List.length_map, List.length_append, List.length_map, List.length_take] at this
  omega
theorem PrS.its {w : World} {gx gy : List Gd} {i : Nat} {ov : Value} {l : List NR} {wr : World} (h : PrS w gx gy i ov l wr) : ∀ x ∈ l, Its wr wr.heap.size x.2.1 x.1.l := fun x hx => by
  rcases h.kid x hx with q | q
  · exact q.more h.bel.size
  · exact its_own q rfl
/-- The first nodes, copied. -/
theorem PrS.first {w w' : World} {gx gy : List Gd} {v : Value} {l : List NR} (hm : l.map (·.1) = gx) (hI : ∀ x ∈ l, Its w w.heap.size x.2.1 x.1.l) (ho : w'.ownsRow w.heap.size 38 9 v l.length (nodesC l)) (hb : Below w.heap.size w w') : PrS w gx gy 0 v l w' :=
  ⟨ho, by rw [hm]; simp, fun x hx => .inl ((hI x hx).below hb), hb⟩
theorem PrS.next {w : World} {gx gy : List Gd} {i : Nat} {ov v' : Value} {l : List NR} {wr u w7 : World} {g : Gd} {A : Option Addr} {c k : Nat} (h : PrS w gx gy i ov l wr) (hi : i < gy.length) (hg : gy.getD i gd0 = g) (hb : Below wr.heap.size wr u)
    (ho : u.ownsRow w.heap.size 3 1 (.slice A g.l.length c) g.l.length (ints (g.l.map fun k => k + (gx.length : Int)))) (hk : l.length = k) (hgr : u.grownBy w7 ov.ownBlock) (h7 : w7.ownsRow w.heap.size 38 9 v' (k + 1) (nodesC l ++ gdL (shfG gx.length g) A c)) : PrS w gx gy (i + 1) v' (l ++ [(shfG gx.length g, A, c)]) w7 := by
  have hown := own_below h.own hb (Nat.le_refl _)
  refine ⟨own_last (k := k) h7 hk, ?_, fun x hx => ?_, ?_⟩
  · rw [List.map_append, h.map, takeG_snoc hi, List.map_append, hg]
    simp
  · rcases List.mem_append.1 hx with q | q
    · rcases h.kid x q with r | r
      · left
        have b2 : Below w.heap.size u w7 := bel_row (Below.refl _ _) (Nat.le_trans h.bel.size hb.size) hgr (fun k hk => (hown.lt k hk).1)
        exact (r.below (hb.mono h.bel.size)).below b2
      · right
        have k1 := own_below r hb (Nat.le_refl _)
        exact own_kept k1 hgr (fun k hk => fun r => own_apart hown k1 (by decide) k hk r)
    · rw [List.mem_singleton] at q
      subst q
      right
      have e : (shfG gx.length g).l.length = g.l.length := by simp [shfG, withG]
      have ho2 : u.ownsRow w.heap.size 3 1 (.slice A (shfG gx.length g).l.length c) (shfG gx.length g).l.length (ints (shfG gx.length g).l) := by rw [e]; exact ho
      exact own_kept ho2 hgr (fun k hk => fun r => own_apart hown ho2 (by decide) k hk r)
  · exact bel_row (h.bel.trans (hb.mono h.bel.size)) (Nat.le_trans h.bel.size hb.size) hgr (fun k hk => (hown.lt k hk).1)
end Go.Proofs.Ytdaaigkmlbpbgaa.Sy.Ap

namespace Go.Proofs.Ytdaaigkmlbpbgaa.Sy.Ap.Wk
open Go.RowKit
set_option maxRecDepth 100000
set_option linter.unusedVariables false

/-! ### The Defs that are not being walked -/
section
variable {D : List Df} {o : List Bool} {k : Nat} {d : Df}
end
def shut (o : List Bool) : Nat := o.countP fun b => !b
/-! ### The walker in memory -/
/-- All blocks but those of P are as they were. -/
structure Keeps (P : Nat → Prop) (u u' : World) : Prop where
  os : u'.os = u.os
  tape : u'.tape = u.tape
  output : u'.output = u.output
  size : u.heap.size ≤ u'.heap.size
  block : ∀ k, k < u.heap.size → ¬ P k → u'.heap[k]? = u.heap[k]?
theorem Keeps.below {P : Nat → Prop} {u u' : World} (h : Keeps P u u') {B : Nat} (hB : B ≤ u.heap.size) (hP : ∀ k, P k → B ≤ k) : Below B u u' :=
  ⟨h.os, h.tape, h.output, h.size, fun k hk => h.block k (by omega) (fun q => by have := hP k q; omega)⟩
theorem Keeps.of_below {P : Nat → Prop} {u u' : World} (h : Below u.heap.size u u') : Keeps P u u' := ⟨h.os, h.tape, h.output, h.size, fun k hk _ => h.block k hk⟩
theorem Keeps.trans {P Q : Nat → Prop} {u v w : World} (h : Keeps P u v) (h2 : Keeps Q v w) (hQ : ∀ k, k < u.heap.size → ¬ P k → ¬ Q k) : Keeps P u w :=
  ⟨h2.os.trans h.os, h2.tape.trans h.tape, h2.output.trans h.output, Nat.le_trans h.size h2.size, fun k hk hp => (h2.block k (Nat.lt_of_lt_of_le hk h.size) (hQ k hk hp)).trans (h.block k hk hp)⟩
section
variable {B : Nat} {w w' : World} {b ob m : Nat} {A2 : Option Addr} {c2 : Nat} {nv : Value} {l : List NR} {o : List Bool} {e : Int}
end
/-! ### A name found -/
end Go.Proofs.Ytdaaigkmlbpbgaa.Sy.Ap.Wk

namespace Go.Proofs.Ytdaaigkmlbpbgaa.Sy.Ap.Wk
open Go.RowKit
set_option maxRecDepth 100000
set_option linter.unusedVariables false

/-! ### By plain lists -/
section
variable {all : List Nat → Bool} {D : List Df} {ns : List Nd} {bb mid k c : Nat} {out : List Nd}
end
/-! ### What a walk owes -/
end Go.Proofs.Ytdaaigkmlbpbgaa.Sy.Ap.Wk

namespace Go.Proofs.Ytdaaigkmlbpbgaa.Sy.Lg
open Go.RowKit
set_option maxRecDepth 100000
set_option linter.unusedVariables false

/-! ### The lowest bit -/
section
variable {n k : Nat}
end
def tabT : List Int := Lib.deBruijn64tab.map fun n : Nat => (n : Int)
/-- The table of the Go library that TrailingZeros64 reads. -/
def DB (w : World) : Prop := Lib.TabIs Try.prog w "math/bits.deBruijn64tab" .u8 tabT
/-! ### Places in memory -/
/-- v is the places p, all below 64: no word, or one at b. -/
def Pl (w : World) (v : Value) (p : Nat → Bool) : Prop :=
  (∀ i, p i = true → i < 64) ∧ ((v = .agg #[.int .i64 0, .slice none 0 0] ∧ ∀ i, p i = false) ∨
    ∃ b c i, v = .agg #[.int .i64 0, .slice (some ⟨b, 0, none⟩) 1 c] ∧ 1 ≤ c ∧ b < w.heap.size ∧ w.cell? ⟨b, 0, none⟩ = some (.int .u64 (W p 0)) ∧ p i = true)
/-- The block that places lie in. -/
def plB : Value → Option Nat
  | .agg cs => (cs.getD 1 undef).ownBlock
  | _ => none
theorem Pl.keep {w w' : World} {v : Value} {p : Nat → Bool} (h : Pl w v p) (hs : w.heap.size ≤ w'.heap.size) (hk : ∀ b, plB v = some b → w'.heap[b]? = w.heap[b]?) : Pl w' v p := by
  obtain ⟨h1, h2⟩ := h
  refine ⟨h1, ?_⟩
  rcases h2 with h2 | ⟨b, c, i, rfl, hc, hb, hcell, hi⟩
  · exact .inl h2
  · refine .inr ⟨b, c, i, rfl, hc, Nat.lt_of_lt_of_le hb hs, ?_, hi⟩
    rw [← hcell]
    have := hk b rfl
    simp [World.cell?, this]
theorem Pl.below {w w' : World} {v : Value} {p : Nat → Bool} (h : Pl w v p) (hb : Below w.heap.size w w') : Pl w' v p := by
  refine h.keep hb.size fun b hv => ?_
  rcases h.2 with ⟨rfl, _⟩ | ⟨b', c, i, rfl, _, hl, _⟩
  · have hv : (none : Option Nat) = some b := hv
    cases hv
  · have hv : some b' = some b := hv
    cases hv
    exact hb.block _ hl
theorem Pl.lt {w : World} {v : Value} {p : Nat → Bool} (h : Pl w v p) {b : Nat} (hv : plB v = some b) : b < w.heap.size := by
  rcases h.2 with ⟨rfl, _⟩ | ⟨b', c, i, rfl, _, hl, _⟩
  · have hv : (none : Option Nat) = some b := hv
    cases hv
  · have hv : some b' = some b := hv
    cases hv
    exact hl
def noneB (p : Nat → Bool) : Prop := ∀ i, p i = false
end Go.Proofs.Ytdaaigkmlbpbgaa.Sy.Lg
