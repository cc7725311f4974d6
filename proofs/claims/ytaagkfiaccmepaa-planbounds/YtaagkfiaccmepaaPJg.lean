/- The landed planner in memory. -/
import Derived.Test.YtaagkfiaccmepaaPAg
import Derived.Test.YtaagkfiaccmepaaPJa
namespace Go.Proofs.Ytaagkfiaccmepaa.Sy.Pl
open Go.RowKit Go.Proofs.Ytaagkfiaccmepaa.Sy.Ap
set_option maxRecDepth 100000
set_option linter.unusedVariables false

abbrev plC (tv : Value) (most : Int) (nv rv : Value) : Array Value := #[tv, .int .i64 most, nv, rv]
/-- The planner in block b: its nodes, and those that have no parent yet. -/
structure PM (B : Nat) (w : World) (b : Nat) (tv : Value) (most : Int) (nv rv : Value) (l : List NR) (rt : List Nat) : Prop where
  row : RowA w b 42 (plC tv most nv rv)
  nodes : w.ownsRow B 39 9 nv l.length (nodesC l)
  roots : w.ownsRow B 3 1 rv rt.length (i64s rt)
  kids : ∀ x ∈ l, KidR w B rv x
  hb : B ≤ b
section
variable {B : Nat} {w w' u : World} {b : Nat} {tv : Value} {most : Int} {nv rv z : Value} {l : List NR} {rt rt' : List Nat}
theorem PM.cells (h : PM B w b tv most nv rv l rt) : w.cell? ⟨b, 0, none⟩ = some tv ∧ w.cell? ⟨b, 1, none⟩ = some (.int .i64 most) ∧ w.cell? ⟨b, 2, none⟩ = some nv ∧ w.cell? ⟨b, 3, none⟩ = some rv :=
  ⟨h.row.at_ rfl, h.row.at_ rfl, h.row.at_ rfl, h.row.at_ rfl⟩
theorem PM.size (h : PM B w b tv most nv rv l rt) : B ≤ w.heap.size := Nat.le_trans h.hb (Nat.le_of_lt h.row.lt)
theorem PM.below (h : PM B w b tv most nv rv l rt) (hb : Below w.heap.size w w') : PM B w' b tv most nv rv l rt :=
  ⟨h.row.below hb h.row.lt, own_below h.nodes hb (Nat.le_refl _), own_below h.roots hb (Nat.le_refl _), fun x hx => ⟨own_below (h.kids x hx).1 hb (Nat.le_refl _), (h.kids x hx).2⟩, h.hb⟩
theorem kid_roots {x : NR} {cs : Array Value} (h : KidR w B rv x) (hg : w.grownBy u rv.ownBlock) (R : RowA u b 42 cs) (hz : Lies w rv z) : KidR (u.setCell ⟨b, 3, none⟩ z) B z x := by
  obtain ⟨k1, k2⟩ := h
  have k3 := own_kept k1 hg (fun k q r => k2 k r q)
  exact ⟨own_sb k3 (own_neR k3 R (by decide)) z, hz.ne k1 k2⟩
/-- Another row of those that have no parent. -/
theorem PM.setRoots (h : PM B w b tv most nv rv l rt) (hg : w.grownBy u rv.ownBlock) (hn : u.ownsRow B 3 1 z rt'.length (i64s rt')) (hz : Lies w rv z) : PM B (u.setCell ⟨b, 3, none⟩ z) b tv most nv z l rt' := by
  have nb := own_neR h.roots h.row (by decide)
  have R : RowA u b 42 (plC tv most nv rv) := (hg.block b h.row.lt (fun q => nb q.symm)).trans h.row
  have o2 := own_kept h.nodes hg (fun k q => fun r => own_apart h.roots h.nodes (by decide) k q r)
  exact ⟨R.set 3 z, own_sb o2 (own_neR o2 R (by decide)) z, own_sb hn (own_neR hn R (by decide)) z, fun x hx => kid_roots (h.kids x hx) hg R hz, h.hb⟩
/-- One more node. -/
theorem PM.addNode (h : PM B w b tv most nv rv l rt) (hg : w.grownBy u nv.ownBlock) {x : NR} (hn : u.ownsRow B 39 9 z (l ++ [x]).length (nodesC (l ++ [x]))) (hx : KidR w B rv x) : PM B (u.setCell ⟨b, 2, none⟩ z) b tv most z rv (l ++ [x]) rt := by
  have nb := own_neR h.nodes h.row (by decide)
  have R : RowA u b 42 (plC tv most nv rv) := (hg.block b h.row.lt (fun q => nb q.symm)).trans h.row
  have o2 := own_kept h.roots hg (fun k q => fun r => own_apart h.nodes h.roots (by decide) k q r)
  exact ⟨R.set 2 z, own_sb hn (own_neR hn R (by decide)) z, own_sb o2 (own_neR o2 R (by decide)) z, fun y hy => by
    have hy2 : KidR w B rv y := by
      rcases List.mem_append.1 hy with q | q
      · exact h.kids y q
      · rw [List.mem_singleton] at q
        exact q ▸ hx
    obtain ⟨k1, k2⟩ := hy2
    have k3 := own_kept k1 hg (fun k q => fun r => own_apart h.nodes k1 (by decide) k q r)
    exact ⟨own_sb k3 (own_neR k3 R (by decide)) z, k2⟩, h.hb⟩
/-- The nodes read as a slice. -/
theorem PM.nds (p : PM B w b tv most nv rv l rt) : ∃ A c, nv = .slice A l.length c ∧ Nds w w.heap.size A (l.map (·.1)) ∧ l.length ≤ c := by
  obtain ⟨A, c, hv⟩ := own_form p.nodes
  have hcap := own_cap (by have := p.nodes; rw [hv] at this; exact this)
  rcases Nat.eq_zero_or_pos l.length with h0 | h0
  · refine ⟨A, c, hv, fun hne => absurd ?_ hne, hcap⟩
    rw [List.eq_nil_of_length_eq_zero h0]
    rfl
  · obtain ⟨g, c', hv', _, hg⟩ := own_pos p.nodes h0
    rw [hv] at hv'
    cases hv'
    refine ⟨_, c, hv, fun _ => ⟨g, 0, rfl, hg, fun i hi => ?_⟩, hcap⟩
    rw [List.length_map] at hi
    have hx : l[i]? = some l[i] := List.getElem?_eq_getElem hi
    have e : (l.map (·.1)).getD i gd0 = l[i].1 := by rw [List.getD_eq_getElem?_getD, List.getElem?_map, hx]; rfl
    rw [e]
    obtain ⟨k1, -⟩ := p.kids _ (List.getElem_mem hi)
    refine ⟨l[i].2.1, l[i].2.2, fun hne => ?_, fun j u hu => ?_⟩
    · have hpos : 0 < l[i].1.l.length := by
        rcases Nat.eq_zero_or_pos l[i].1.l.length with q | q
        · exact absurd (List.eq_nil_of_length_eq_zero q) hne
        · exact q
      obtain ⟨q, cq, hq, _, hlt⟩ := own_pos k1 hpos
      have hA : l[i].2.1 = some ⟨q, 0, none⟩ := by injection hq
      refine ⟨q, 0, hA, hlt, fun j hj => ?_⟩
      have := k1.cells (g := q) (by rw [hq]; rfl) j (.int .i64 (l[i].1.l.getD j 0)) (by
        unfold ints
        rw [List.getElem?_map, List.getElem?_eq_getElem hj, List.getD_eq_getElem?_getD, List.getElem?_eq_getElem hj]
        rfl)
      rw [addr_add] at this
      rw [Nat.zero_add]
      exact this
    · have hj : j < 9 := by
        rcases Nat.lt_or_ge j 9 with h | h
        · exact h
        · rw [List.getElem?_eq_none (by rw [gdL_len]; exact h)] at hu; cases hu
      have := p.nodes.cells (g := g) (by rw [hv]; rfl) (i * 9 + j) u (by rw [nodesC_at l i j _ hx hj]; exact hu)
      rw [Nat.zero_add]
      rw [addr_add] at this
      exact this
end
/-- The blocks F lie apart from the planner and from its rows. -/
def Far (F : Nat → Prop) (w : World) (b : Nat) (nv rv : Value) : Prop := ∀ q, F q → q < w.heap.size ∧ q ≠ b ∧ nv.ownBlock ≠ some q ∧ rv.ownBlock ≠ some q
/-- What lies below B, and the blocks F, stay. -/
structure BF (B : Nat) (F : Nat → Prop) (w w' : World) : Prop where
  bel : Below B w w'
  keep : ∀ q, F q → w'.heap[q]? = w.heap[q]?
theorem BF.refl (B : Nat) (F : Nat → Prop) (w : World) : BF B F w w := ⟨Below.refl _ _, fun _ _ => rfl⟩
theorem BF.trans {B : Nat} {F : Nat → Prop} {w w1 w2 : World} (h : BF B F w w1) (h2 : BF B F w1 w2) : BF B F w w2 := ⟨h.bel.trans h2.bel, fun q hq => (h2.keep q hq).trans (h.keep q hq)⟩
/-- The planner holds the nodes o, and the roots rt; the tree that it plans is gs; the blocks F lie apart. -/
def St (F : Nat → Prop) (B b : Nat) (At : Option Addr) (ct : Nat) (gs : List Gd) (most : Int) (w : World) (rt : List Nat) (o : List Nd) : Prop :=
  ∃ nv rv l, PM B w b (.slice At gs.length ct) most nv rv l rt ∧ GN (l.map (·.1)) o ∧ rt.length ≤ o.length ∧ o.length ≤ 1024 ∧ Far F w b nv rv
/-- What a call of the planner tells. -/
def PlR (F : Nat → Prop) (B b : Nat) (At : Option Addr) (ct : Nat) (gs : List Gd) (most : Int) (w : World) (rt : List Nat) (R : Option (List Nd)) (e : Ending) (w' : World) : Prop :=
  BF B F w w' ∧ match R with
  | none => e = .returned (.bool false)
  | some o' => e = .returned (.bool true) ∧ St F B b At ct gs most w' (rt ++ [o'.length - 1]) o'
end Go.Proofs.Ytaagkfiaccmepaa.Sy.Pl
