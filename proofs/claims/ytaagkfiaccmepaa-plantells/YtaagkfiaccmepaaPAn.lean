/- The landed expander: a walk is left; a node is taken. -/
import Derived.Test.YtaagkfiaccmepaaPAg
import Derived.Deep.AppendLies
import Derived.Deep.LoopGhost
import Derived.Test.YtaagkfiaccmepaaPSe
namespace Go.Proofs.Ytaagkfiaccmepaa.Sy.Ap
open Go.RowKit
set_option maxRecDepth 100000
set_option linter.unusedVariables false

namespace Lv
def Eb (_ : Option Nat) (u u' : World) : Prop := Below u.heap.size u u'
theorem eby {d : Option Nat} {u u' : World} (_ : true = true) (h : Below u.heap.size u u') : Eb d u u' := h
end Lv

section
variable {B : Nat} {w : World} {b bt bo nt no : Nat} {f g : ByteArray → Option Value} {wv nv rv : Value} {wl : List WkE} {l : List NR} {rt : List Nat}
end
end Go.Proofs.Ytaagkfiaccmepaa.Sy.Ap

namespace Go.Proofs.Ytaagkfiaccmepaa.Sy.Ap
open Go.RowKit
set_option maxRecDepth 100000
set_option linter.unusedVariables false

/-! ### Plain lists -/
section
variable {all : List Nat → Bool} {D : List Df} {n : Nd} {r t : List Nd} {st : List (List Nd × List Df)} {x : X}
end

/-! ### In memory -/
/-- A walk: as memory has it, what is yet to come, what the names that are not being walked stand for. -/
abbrev FR := WkE × List Nd × List Df
def Small (gs : List Gd) : Prop := ∀ g ∈ gs, g.nm.size ≤ maxLen ∧ g.l.length ≤ maxLen
structure Frm (w : World) (B : Nat) (e : WkE) (ns : List Nd) : Prop where
  nds : Nds w B e.A e.rest
  gn : GN e.rest ns
  cap : e.rest.length ≤ e.c
  shp : Shp ns
  sml : Small e.rest
theorem Frm.below {w w' : World} {B : Nat} {e : WkE} {ns : List Nd} (h : Frm w B e ns) (hb : Below B w w') : Frm w' B e ns := ⟨h.nds.below hb, h.gn, h.cap, h.shp, h.sml⟩
/-- Walks within each other, the innermost first; g: the names that are being walked. -/
inductive Stk (w : World) (B : Nat) (D0 : List Df) : (ByteArray → Option Value) → List FR → Prop
  | nil : Stk w B D0 (fun _ => none) []
  | base {e : WkE} {ns : List Nd} : e.nm.size = 0 → Frm w B e ns → Stk w B D0 (fun _ => none) [(e, ns, D0)]
  | step {g : ByteArray → Option Value} {e e' : WkE} {ns ns' t : List Nd} {D' : List Df} {fs : List FR} : Stk w B D0 g ((e', ns', D') :: fs) → findD D' (bs e.nm) = some t → g e.nm = none → e.nm.size ≤ maxLen → Frm w B e ns → Stk w B D0 (fun k => if k = e.nm then some (.agg #[]) else g k) ((e, ns, remD D' (bs e.nm)) :: (e', ns', D') :: fs)
section
variable {w w' : World} {B : Nat} {D0 : List Df} {g : ByteArray → Option Value} {fs : List FR}
theorem Stk.keep (h : Stk w B D0 g fs) (hb : Below B w w') : Stk w' B D0 g fs := by
  induction h with
  | nil => exact .nil
  | base h1 h2 => exact .base h1 (h2.below hb)
  | step h1 h2 h3 h4 h5 ih => exact .step ih h2 h3 h4 (h5.below hb)
theorem Stk.len (h : Stk w B D0 g fs) : ∀ e ns D r, fs = (e, ns, D) :: r → D.length + fs.length ≤ D0.length + 1 := by
  induction h with
  | nil => intro e ns D r q; cases q
  | base h1 h2 => intro e ns D r q; cases q; exact Nat.le_refl _
  | @step g e e' ns ns' t D' fs h1 h2 h3 h4 h5 ih =>
    intro e2 ns2 D2 r2 q
    cases q
    have := ih _ _ _ _ rfl
    have := remD_lt h2
    simp only [List.length_cons] at *
    omega
/-- The innermost walk goes on. -/
theorem Stk.turn {e e2 : WkE} {ns ns2 : List Nd} {D : List Df} {r : List FR} (h : Stk w B D0 g ((e, ns, D) :: r)) (hn : e2.nm = e.nm) (hf : Frm w B e2 ns2) : Stk w B D0 g ((e2, ns2, D) :: r) := by
  obtain ⟨nm2, A2, c2, rest2⟩ := e2
  obtain ⟨nm, A, c, rest⟩ := e
  simp only at hn
  subst hn
  cases h with
  | base h1 h2 => exact .base h1 hf
  | step h1 h2 h3 h4 h5 => exact .step (e := ⟨nm2, A2, c2, rest2⟩) h1 h2 h3 h4 hf
end
end Go.Proofs.Ytaagkfiaccmepaa.Sy.Ap

namespace Go.Proofs.Ytaagkfiaccmepaa.Sy.Ap
open Go.RowKit
set_option maxRecDepth 100000
set_option linter.unusedVariables false

/-- The map of what names stand for, by plain lists. -/
structure TrM (w : World) (B : Nat) (D0 : List Df) (f : ByteArray → Option Value) : Prop where
  none : ∀ s, f s = none → findD D0 (bs s) = none
  some : ∀ s v, f s = some v → ∃ A c gs t, v = .slice A gs.length c ∧ Nds w B A gs ∧ gs.length ≤ c ∧ GN gs t ∧ findD D0 (bs s) = some t ∧ TreeN t ∧ Small gs
theorem TrM.keep {w w' : World} {B : Nat} {D0 : List Df} {f : ByteArray → Option Value} (h : TrM w B D0 f) (hb : Below B w w') : TrM w' B D0 f :=
  ⟨h.none, fun s v hv => by
    obtain ⟨A, c, gs, t, h1, h2, h3⟩ := h.some s v hv
    exact ⟨A, c, gs, t, h1, h2.below hb, h3⟩⟩
section
variable {B : Nat} {w wr w' : World} {b bt bo nt no : Nat} {f g : ByteArray → Option Value} {D0 : List Df} {RES : Except Nat X} {k : Nat} {fs : List FR} {x : X} {wv nv rv : Value} {wl : List WkE} {l : List NR}
end
end Go.Proofs.Ytaagkfiaccmepaa.Sy.Ap

namespace Go.Proofs.Ytaagkfiaccmepaa.Sy.Ap
open Go.RowKit
set_option maxRecDepth 100000
set_option linter.unusedVariables false

def df0 : Df := ([], [])
/-- Defs as plain lists. -/
structure GD (ds : List DG) (D : List Df) : Prop where
  len : ds.length = D.length
  at_ : ∀ i, i < ds.length → bs (ds.getD i dg0).1 = (D.getD i df0).1 ∧ GN (ds.getD i dg0).2 (D.getD i df0).2
  trs : TreesD D
theorem tree_rg {gs : List Gd} {ns : List Nd} (h : GN gs ns) (ht : TreeN ns) : RightG gs := ⟨ns, h, ht.shp, ht.pos, ht.few, ht.frs⟩
theorem GD.back {ds : List DG} {D : List Df} (h : GD ds D) {x : Df} (hx : x ∈ D) : ∃ d ∈ ds, bs d.1 = x.1 := by
  obtain ⟨i, hi, rfl⟩ := List.getElem_of_mem hx
  have hi2 : i < ds.length := by rw [h.len]; exact hi
  have h1 := h.at_ i hi2
  have e1 : ds.getD i dg0 = ds[i] := by rw [List.getD_eq_getElem?_getD, List.getElem?_eq_getElem hi2]; rfl
  have e2 : D.getD i df0 = D[i] := by rw [List.getD_eq_getElem?_getD, List.getElem?_eq_getElem hi]; rfl
  rw [e1, e2] at h1
  exact ⟨ds[i], List.getElem_mem hi2, h1.1⟩
theorem GD.apart {ds : List DG} {D : List Df} (h : GD ds D) (hr : RightDs ds) : D.Pairwise fun a b => a.1 ≠ b.1 := by
  rw [List.pairwise_iff_getElem]
  intro i j hi hj hij q
  have hi2 : i < ds.length := by rw [h.len]; exact hi
  have hj2 : j < ds.length := by rw [h.len]; exact hj
  have h1 := (h.at_ i hi2).1
  have h2 := (h.at_ j hj2).1
  have e1 : ds.getD i dg0 = ds[i] := by rw [List.getD_eq_getElem?_getD, List.getElem?_eq_getElem hi2]; rfl
  have e2 : D.getD i df0 = D[i] := by rw [List.getD_eq_getElem?_getD, List.getElem?_eq_getElem hi]; rfl
  have e3 : ds.getD j dg0 = ds[j] := by rw [List.getD_eq_getElem?_getD, List.getElem?_eq_getElem hj2]; rfl
  have e4 : D.getD j df0 = D[j] := by rw [List.getD_eq_getElem?_getD, List.getElem?_eq_getElem hj]; rfl
  rw [e1, e2] at h1
  rw [e3, e4] at h2
  exact (List.pairwise_iff_getElem.1 hr.2) i j hi2 hj2 hij (bs_inj (h1.trans (q.trans h2.symm)))
end Go.Proofs.Ytaagkfiaccmepaa.Sy.Ap
