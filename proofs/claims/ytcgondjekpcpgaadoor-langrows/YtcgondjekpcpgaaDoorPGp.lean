/- LangRows: what it calls; its two rows made. -/
import Derived.Test.YtcgondjekpcpgaaDoorPGl
namespace Go.Proofs.YtcgondjekpcpgaaDoor.Sy.Lg.En
open Go.RowKit Go.Proofs.YtcgondjekpcpgaaDoor.Sy.Ap Go.Proofs.YtcgondjekpcpgaaDoor.Sy.Ap.Wk
set_option maxRecDepth 100000
set_option linter.unusedVariables false

/-- Two rows made in any order are apart; the first is kept in a third slot besides. -/
structure MkS (w : World) (t1 t2 t3 n : Nat) (a : Act) (v : World) : Prop where
  bel : Below w.heap.size w v
  l1 : ∀ g, a.tmps[t1]? = some (.slice (some ⟨g, 0, none⟩) n n) → g < v.heap.size
  l2 : ∀ g, a.tmps[t2]? = some (.slice (some ⟨g, 0, none⟩) n n) → g < v.heap.size
  l3 : ∀ g, a.tmps[t3]? = some (.slice (some ⟨g, 0, none⟩) n n) → g < v.heap.size
  far : ∀ g h, a.tmps[t1]? = some (.slice (some ⟨g, 0, none⟩) n n) → a.tmps[t2]? = some (.slice (some ⟨h, 0, none⟩) n n) → g ≠ h
  far3 : ∀ g h, a.tmps[t3]? = some (.slice (some ⟨g, 0, none⟩) n n) → a.tmps[t2]? = some (.slice (some ⟨h, 0, none⟩) n n) → g ≠ h
def BlQ (w : World) (n : Nat) (z : Value) (u : World) : Prop := ∃ b, z = .slice (some ⟨b, 0, none⟩) n n ∧ RowF u b 4 n (fun _ => .bool false) ∧ w.heap.size ≤ b
def dNo (t1 t2 t3 : Nat) (d : Option Nat) : Bool := d != some t1 && d != some t2 && d != some t3
theorem put_ne {a : Act} {t : Nat} {d : Option Nat} (h : d ≠ some t) (u : Value) : (a.put d u).tmps[t]? = a.tmps[t]? := by
  cases d with
  | none => rfl
  | some d => rw [put_tmps, Array.getElem?_setIfInBounds_ne (fun e => h (by rw [e]))]
theorem put_eq {a : Act} {t g k n : Nat} (e : (a.put (some t) (.slice (some ⟨k, 0, none⟩) n n)).tmps[t]? = some (.slice (some ⟨g, 0, none⟩) n n)) : g = k := by
  rw [put_tmps, Array.getElem?_setIfInBounds] at e
  simp only [if_true] at e
  split at e
  · cases e; rfl
  · cases e
theorem put_val {a : Act} {t : Nat} {v z : Value} (e : (a.put (some t) v).tmps[t]? = some z) : z = v := by
  rw [put_tmps, Array.getElem?_setIfInBounds] at e
  simp only [if_true] at e
  split at e
  · cases e; rfl
  · cases e
section
variable {w : World} {t1 t2 t3 n : Nat} {a : Act} {v v' : World}
theorem BlQ.below {z : Value} (h : BlQ w n z v) (hb : Below v.heap.size v v') : BlQ w n z v' := by
  obtain ⟨b, h1, h2, h3⟩ := h
  exact ⟨b, h1, h2.below hb h2.lt, h3⟩
theorem MkS.below (h : MkS w t1 t2 t3 n a v) (hb : Below v.heap.size v v') : MkS w t1 t2 t3 n a v' :=
  ⟨h.bel.trans (hb.mono h.bel.size), fun g e => Nat.lt_of_lt_of_le (h.l1 g e) hb.size, fun g e => Nat.lt_of_lt_of_le (h.l2 g e) hb.size, fun g e => Nat.lt_of_lt_of_le (h.l3 g e) hb.size, h.far, h.far3⟩
theorem MkS.put (h : MkS w t1 t2 t3 n a v) {d : Option Nat} (hd : dNo t1 t2 t3 d = true) (u : Value) : MkS w t1 t2 t3 n (a.put d u) v := by
  have e1 := put_ne (a := a) (t := t1) (d := d) (fun e => by subst e; simp [dNo] at hd) u
  have e2 := put_ne (a := a) (t := t2) (d := d) (fun e => by subst e; simp [dNo] at hd) u
  have e3 := put_ne (a := a) (t := t3) (d := d) (fun e => by subst e; simp [dNo] at hd) u
  exact ⟨h.bel, fun g e => h.l1 g (e1 ▸ e), fun g e => h.l2 g (e2 ▸ e), fun g e => h.l3 g (e3 ▸ e), fun g k e f => h.far g k (e1 ▸ e) (e2 ▸ f), fun g k e f => h.far3 g k (e3 ▸ e) (e2 ▸ f)⟩
theorem MkS.put3 (h : MkS w t1 t2 t3 n a v) (h1 : t3 ≠ t1) (h2 : t3 ≠ t2) {u : Value} (hu : a.tmps[t1]? = some u) : MkS w t1 t2 t3 n (a.put (some t3) u) v := by
  have e1 := put_ne (a := a) (t := t1) (d := some t3) (fun e => h1 (Option.some.inj e)) u
  have e2 := put_ne (a := a) (t := t2) (d := some t3) (fun e => h2 (Option.some.inj e)) u
  exact ⟨h.bel, fun g e => h.l1 g (e1 ▸ e), fun g e => h.l2 g (e2 ▸ e), fun g e => h.l1 g (by rw [hu, put_val e]), fun g k e f => h.far g k (e1 ▸ e) (e2 ▸ f), fun g k e f => h.far g k (by rw [hu, put_val e]) (e2 ▸ f)⟩
theorem MkS.new1 (h : MkS w t1 t2 t3 n a v) (h2 : t1 ≠ t2) (h3 : t1 ≠ t3) (o : Obj) : MkS w t1 t2 t3 n (a.put (some t1) (.slice (some ⟨v.heap.size, 0, none⟩) n n)) (v.alloc o) := by
  have h' := h.below ((Below.refl _ _).alloc (Nat.le_refl _) o)
  have e2 := put_ne (a := a) (t := t2) (d := some t1) (fun e => h2 (Option.some.inj e)) (.slice (some ⟨v.heap.size, 0, none⟩) n n)
  have e3 := put_ne (a := a) (t := t3) (d := some t1) (fun e => h3 (Option.some.inj e)) (.slice (some ⟨v.heap.size, 0, none⟩) n n)
  exact ⟨h'.bel, fun g e => by rw [put_eq e]; simp, fun g e => h'.l2 g (e2 ▸ e), fun g e => h'.l3 g (e3 ▸ e), fun g k e f => by rw [put_eq e]; have := h.l2 k (e2 ▸ f); omega, fun g k e f => h.far3 g k (e3 ▸ e) (e2 ▸ f)⟩
theorem MkS.new2 (h : MkS w t1 t2 t3 n a v) (h1 : t2 ≠ t1) (h3 : t2 ≠ t3) (o : Obj) : MkS w t1 t2 t3 n (a.put (some t2) (.slice (some ⟨v.heap.size, 0, none⟩) n n)) (v.alloc o) := by
  have h' := h.below ((Below.refl _ _).alloc (Nat.le_refl _) o)
  have e1 := put_ne (a := a) (t := t1) (d := some t2) (fun e => h1 (Option.some.inj e)) (.slice (some ⟨v.heap.size, 0, none⟩) n n)
  have e3 := put_ne (a := a) (t := t3) (d := some t2) (fun e => h3 (Option.some.inj e)) (.slice (some ⟨v.heap.size, 0, none⟩) n n)
  exact ⟨h'.bel, fun g e => h'.l1 g (e1 ▸ e), fun g e => by rw [put_eq e]; simp, fun g e => h'.l3 g (e3 ▸ e), fun g k e f => by rw [put_eq f]; have := h.l1 g (e1 ▸ e); omega, fun g k e f => by rw [put_eq f]; have := h.l3 g (e3 ▸ e); omega⟩
end
end Go.Proofs.YtcgondjekpcpgaaDoor.Sy.Lg.En
