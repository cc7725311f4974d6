/- The landed expander: walks within each other, by plain lists and in memory. -/
import Derived.Test.YtgppanbikfobbaaAi
namespace Go.Proofs.Ytgppanbikfobbaa.Sy.Ap
open Go.RowKit
set_option maxRecDepth 100000
set_option linter.unusedVariables false

/-! ### Plain lists -/
/-- Walks within each other, the innermost first. -/
def res (all : List Nat → Bool) : List (List Nd × List Df) → X → Except Nat X
  | [], x => .ok x
  | (r, D) :: st, x => match exF all D r x with | .error e => .error e | .ok x' => res all st x'
/-- How many rounds some nodes take at most. -/
def cost (D : List Df) (l : List Nd) : Nat :=
  match l with
  | [] => 0
  | n :: r => 1 + (if n.op = 6 then (match h : findD D n.name with | some t => cost (remD D n.name) t + 1 | none => 0) else 0) + cost D r
termination_by (D.length, l.length)
decreasing_by
  · exact Prod.Lex.left _ _ (remD_lt h)
  · exact Prod.Lex.right _ (by simp)
theorem cost_lt (D : List Df) (n : Nd) (r : List Nd) : cost D r < cost D (n :: r) := by
  rw [cost]
  omega
theorem cost_in {D : List Df} {n : Nd} {r t : List Nd} (h6 : n.op = 6) (h : findD D n.name = some t) : cost (remD D n.name) t + 1 + cost D r < cost D (n :: r) := by
  have e : cost D (n :: r) = 1 + (cost (remD D n.name) t + 1) + cost D r := by
    rw [cost.eq_2, if_pos h6]
    split
    · rename_i t' h'
      rw [h] at h'
      cases h'
      rfl
    · rename_i h'
      rw [h] at h'
      cases h'
  rw [e]
  omega
def costs : List (List Nd × List Df) → Nat
  | [] => 0
  | (r, D) :: st => cost D r + 1 + costs st
section
variable {all : List Nat → Bool} {D : List Df} {n : Nd} {r t : List Nd} {st : List (List Nd × List Df)} {x : X}
theorem res_leave : res all (([], D) :: st) x = res all st x := by rw [res, exF_nil]
theorem res_enter (h6 : n.op = 6) (h : findD D n.name = some t) : res all ((n :: r, D) :: st) x = res all ((t, remD D n.name) :: (r, D) :: st) x := by
  rw [res, exF_some h6 h, res]
  cases exF all (remD D n.name) t x with
  | error e => rfl
  | ok x' => rfl
theorem res_bad (h6 : n.op = 6) (h : findD D n.name = none) : res all ((n :: r, D) :: st) x = .error (if all n.name then 61 else 60) := by rw [res, exF_none h6 h]
theorem res_long (h6 : n.op ≠ 6) (h : 1024 ≤ x.out.length) : res all ((n :: r, D) :: st) x = .error 3 := by rw [res, exF_long h6 h]
theorem res_put (h6 : n.op ≠ 6) (h : ¬ 1024 ≤ x.out.length) : res all ((n :: r, D) :: st) x = res all ((r, D) :: st) (putX n x) := by rw [res, exF_put h6 h, res]
end

/-! ### In memory -/
/-- A walk: as memory has it, what is yet to come, what the names that are not being walked stand for. -/
abbrev FR := WkE × List Nd × List Df
def Small (gs : List Gd) : Prop := ∀ g ∈ gs, g.nm.size ≤ maxLen ∧ g.l.length ≤ maxLen
structure Frm (w : World) (B : Nat) (e : WkE) (ns : List Nd) : Prop where
  nds : Nds w B e.A e.rest
  gn : GN e.rest ns
  cap : e.rest.length ≤ e.c
  shp : Shp ns
  sml : Small e.rest
theorem Frm.below {w w' : World} {B : Nat} {e : WkE} {ns : List Nd} (h : Frm w B e ns) (hb : Below B w w') : Frm w' B e ns := ⟨h.nds.below hb, h.gn, h.cap, h.shp, h.sml⟩
/-- Walks within each other, the innermost first; g: the names that are being walked. -/
inductive Stk (w : World) (B : Nat) (D0 : List Df) : (ByteArray → Option Value) → List FR → Prop
  | nil : Stk w B D0 (fun _ => none) []
  | base {e : WkE} {ns : List Nd} : e.nm.size = 0 → Frm w B e ns → Stk w B D0 (fun _ => none) [(e, ns, D0)]
  | step {g : ByteArray → Option Value} {e e' : WkE} {ns ns' t : List Nd} {D' : List Df} {fs : List FR} : Stk w B D0 g ((e', ns', D') :: fs) → findD D' (bs e.nm) = some t → g e.nm = none → e.nm.size ≤ maxLen → Frm w B e ns → Stk w B D0 (fun k => if k = e.nm then some (.agg #[]) else g k) ((e, ns, remD D' (bs e.nm)) :: (e', ns', D') :: fs)
section
variable {w w' : World} {B : Nat} {D0 : List Df} {g : ByteArray → Option Value} {fs : List FR}
theorem Stk.keep (h : Stk w B D0 g fs) (hb : Below B w w') : Stk w' B D0 g fs := by
  induction h with
  | nil => exact .nil
  | base h1 h2 => exact .base h1 (h2.below hb)
  | step h1 h2 h3 h4 h5 ih => exact .step ih h2 h3 h4 (h5.below hb)
/-- What a name stands for, by what is being walked. -/
theorem Stk.find (h : Stk w B D0 g fs) : ∀ e ns D r, fs = (e, ns, D) :: r → ∀ s, (g s = none ∧ findD D (bs s) = findD D0 (bs s)) ∨ (g s = some (.agg #[]) ∧ findD D (bs s) = none ∧ (findD D0 (bs s)).isSome = true) := by
  induction h with
  | nil => intro e ns D r q; cases q
  | base h1 h2 => intro e ns D r q s; cases q; exact .inl ⟨rfl, rfl⟩
  | @step g e e' ns ns' t D' fs h1 h2 h3 h4 h5 ih =>
    intro e2 ns2 D2 r2 q s
    cases q
    rcases ih _ _ _ _ rfl s with ⟨q1, q2⟩ | ⟨q1, q2, q3⟩
    · by_cases hs : s = e.nm
      · subst hs
        refine .inr ⟨if_pos rfl, by rw [findD_rem, if_pos rfl], ?_⟩
        rw [← q2, h2]
        rfl
      · refine .inl ⟨(if_neg hs).trans q1, ?_⟩
        rw [findD_rem, if_neg (fun q => hs (bs_inj q))]
        exact q2
    · have hs : s ≠ e.nm := fun q => by subst q; rw [h3] at q1; cases q1
      refine .inr ⟨(if_neg hs).trans q1, ?_, q3⟩
      rw [findD_rem, if_neg (fun q => hs (bs_inj q))]
      exact q2
theorem Stk.len (h : Stk w B D0 g fs) : ∀ e ns D r, fs = (e, ns, D) :: r → D.length + fs.length ≤ D0.length + 1 := by
  induction h with
  | nil => intro e ns D r q; cases q
  | base h1 h2 => intro e ns D r q; cases q; exact Nat.le_refl _
  | @step g e e' ns ns' t D' fs h1 h2 h3 h4 h5 ih =>
    intro e2 ns2 D2 r2 q
    cases q
    have := ih _ _ _ _ rfl
    have := remD_lt h2
    simp only [List.length_cons] at *
    omega
theorem Stk.len' (h : Stk w B D0 g fs) : fs.length ≤ D0.length + 1 := by
  cases fs with
  | nil => exact Nat.zero_le _
  | cons f r =>
    obtain ⟨e, ns, D⟩ := f
    have := h.len _ _ _ _ rfl
    omega
theorem Stk.top {e : WkE} {ns : List Nd} {D : List Df} {r : List FR} (h : Stk w B D0 g ((e, ns, D) :: r)) : Frm w B e ns ∧ e.nm.size ≤ maxLen := by
  cases h with
  | base h1 h2 => exact ⟨h2, by omega⟩
  | step h1 h2 h3 h4 h5 => exact ⟨h5, h4⟩
/-- The innermost walk goes on. -/
theorem Stk.turn {e e2 : WkE} {ns ns2 : List Nd} {D : List Df} {r : List FR} (h : Stk w B D0 g ((e, ns, D) :: r)) (hn : e2.nm = e.nm) (hf : Frm w B e2 ns2) : Stk w B D0 g ((e2, ns2, D) :: r) := by
  obtain ⟨nm2, A2, c2, rest2⟩ := e2
  obtain ⟨nm, A, c, rest⟩ := e
  simp only at hn
  subst hn
  cases h with
  | base h1 h2 => exact .base h1 hf
  | step h1 h2 h3 h4 h5 => exact .step (e := ⟨nm2, A2, c2, rest2⟩) h1 h2 h3 h4 hf
/-- The innermost walk is left. -/
theorem Stk.pop {e : WkE} {ns : List Nd} {D : List Df} {r : List FR} (h : Stk w B D0 g ((e, ns, D) :: r)) : Stk w B D0 (fun k => if k = e.nm then none else g k) r ∧ (r ≠ [] → (g e.nm).isSome = true) := by
  cases h with
  | base h1 h2 =>
    refine ⟨?_, fun q => absurd rfl q⟩
    have : (fun k => if k = e.nm then none else (fun _ => none : ByteArray → Option Value) k) = (fun _ => none : ByteArray → Option Value) := by funext k; simp
    rw [this]
    exact .nil
  | @step g' e e' ns ns' t D' fs h1 h2 h3 h4 h5 =>
    refine ⟨?_, fun _ => by simp⟩
    have : (fun k => if k = e.nm then none else (fun k => if k = e.nm then some (.agg #[]) else g' k : ByteArray → Option Value) k) = g' := by
      funext k
      by_cases hk : k = e.nm
      · subst hk; simp [h3]
      · simp [hk]
    rw [this]
    exact h1
end
/-- A cell of the last walk is written. -/
theorem own_put {w : World} {base : Nat} {e : TypeId} {sz n gw cw j : Nat} {xs : List Value} (h : w.ownsRow base e sz (.slice (some ⟨gw, 0, none⟩) n cw) n xs) (hj : j < xs.length) (v : Value) : (w.setCell ⟨gw, j, none⟩ v).ownsRow base e sz (.slice (some ⟨gw, 0, none⟩) n cw) n (xs.set j v) := by
  obtain ⟨h1, h2⟩ := h
  refine ⟨by rw [List.length_set]; exact h1, ?_⟩
  rcases h2 with ⟨h2, h3⟩ | ⟨g, cap, cur, hv, hg, hh, h3, h4, h5, h6⟩
  · cases h2
  · cases hv
    refine .inr ⟨gw, cw, cur.setIfInBounds j v, rfl, hg, ?_, h3, h4, by rw [Array.size_setIfInBounds]; exact h5, ?_⟩
    · simp [World.setCell, Array.getElem?_modify, hh]
    · rw [Array.toList_setIfInBounds, List.take_set, h6]
theorem wksC_set (wl : List WkE) (e e2 : WkE) (hn : e2.nm = e.nm) : (wksC (wl ++ [e])).set (wl.length * 2 + 1) (.slice e2.A e2.rest.length e2.c) = wksC (wl ++ [e2]) := by
  rw [← wksC_snoc, ← wksC_snoc, List.set_append_right _ _ (by rw [wksC_len]; omega), wksC_len]
  have : wl.length * 2 + 1 - wl.length * 2 = 1 := by omega
  rw [this]
  unfold wkL
  rw [hn]
  rfl
/-- What is yet to come of the last walk turns. -/
theorem _root_.Go.Proofs.Ytgppanbikfobbaa.Sy.ES.setRest {B : Nat} {w : World} {b bt bo nt no gw cw k : Nat} {f g : ByteArray → Option Value} {nv rv : Value} {wl : List WkE} {e e2 : WkE} {l : List NR} {rt : List Nat} (h : ES B w b bt bo nt no f g (.slice (some ⟨gw, 0, none⟩) (k + 1) cw) nv rv (wl ++ [e]) l rt) (hk : wl.length = k) (hn : e2.nm = e.nm) :
    ES B (w.setCell ⟨gw, k * 2 + 1, none⟩ (.slice e2.A e2.rest.length e2.c)) b bt bo nt no f g (.slice (some ⟨gw, 0, none⟩) (k + 1) cw) nv rv (wl ++ [e2]) l rt ∧ Below B w (w.setCell ⟨gw, k * 2 + 1, none⟩ (.slice e2.A e2.rest.length e2.c)) := by
  subst hk
  have hw := h.walks
  obtain ⟨cur, hc⟩ := own_blk h.walks (k := gw) rfl
  have kp : ∀ {base : Nat} {t : TypeId} {sz n : Nat} {y : Value} {xs : List Value}, w.ownsRow base t sz y n xs → t ≠ 69 → (w.setCell ⟨gw, wl.length * 2 + 1, none⟩ (.slice e2.A e2.rest.length e2.c)).ownsRow base t sz y n xs := fun o hne => own_sb o (own_ne o hc hne) _
  have nb : b ≠ gw := fun q => (own_neR h.walks h.row (by decide)) (by rw [q]; rfl)
  refine ⟨⟨h.row.far (a := ⟨gw, wl.length * 2 + 1, none⟩) nb _, h.trees.sb (fun q => h.trees.far h.walks (by rw [q]; rfl)) _, h.opn.sb (fun q => h.opn.far h.walks (by rw [q]; rfl)) _, h.apart, ?_, kp h.nodes (by decide), kp h.roots (by decide), fun y hy => ⟨kp (h.kids y hy).1 (by decide), (h.kids y hy).2⟩, h.hb, h.ho⟩, bel_set (Below.refl _ _) _ _ (h.walks.lt gw rfl).1⟩
  have hl : (wl ++ [e2]).length = (wl ++ [e]).length := by simp
  rw [hl, ← wksC_set wl e e2 hn]
  have e1 : (wl ++ [e]).length = wl.length + 1 := by simp
  rw [e1] at hw ⊢
  exact own_put hw (by rw [wksC_len, e1]; omega) _
theorem nds_tail {w : World} {B b o : Nat} {g : Gd} {rest : List Gd} (h : Nds w B (some ⟨b, o, none⟩) (g :: rest)) : Nds w B (some ⟨b, o + 9, none⟩) rest := fun hne => by
  obtain ⟨b', o', e, hb, ha⟩ := h (by simp)
  cases e
  refine ⟨b, o + 9, rfl, hb, fun i hi => ?_⟩
  have := ha (i + 1) (by simp; omega)
  rw [show o + (i + 1) * 9 = o + 9 + i * 9 from by omega] at this
  exact this
end Go.Proofs.Ytgppanbikfobbaa.Sy.Ap
