/- The matcher: what its calls owe; needed. -/
import Derived.Test.YtcgondjekpcpgaaDoorPCn
namespace Go.Proofs.YtcgondjekpcpgaaDoor.Sy.Lg
open Go.RowKit Go.Proofs.YtcgondjekpcpgaaDoor.Sy.Ap Go.Proofs.YtcgondjekpcpgaaDoor.Sy.Ap.Wk
set_option maxRecDepth 100000
set_option linter.unusedVariables false

def MRet (M : MC) (F : Nat → Prop) (u u' : World) (v' : Value) (Y : Nat → Prop) : Prop := (∃ (cs : List Nat) (ms : List (Option Nat)), MI M F cs ms u') ∧ Keeps (MP M u) u u' ∧ PlX u' v' Y ∧ Off F v'
def RetQ (M : MC) (F : Nat → Prop) (u : World) (Y : Nat → Prop) (e : Ending) (u' : World) : Prop := ∃ v', e = .returned v' ∧ MRet M F u u' v' Y
/-- What is handed over. -/
structure Inp (M : MC) (F : Nat → Prop) (u : World) (v : Value) (X : Nat → Prop) : Prop where
  mi : ∃ (cs : List Nat) (ms : List (Option Nat)), MI M F cs ms u
  fl : ∀ f, F f → f < u.heap.size
  pl : PlX u v X
  off : Off F v
  le : ∀ j, X j → j ≤ M.s.size
def EndsC (M : MC) (k : Nat) : Prop := ∀ (F : Nat → Prop) (u : World) (v : Value) (X : Nat → Prop), Inp M F u v X →
  Calls Tryd.prog 31 #[.pointer (some ⟨M.mq, 0, none⟩), .int .i64 (k : Int), v] u (RetQ M F u (img (M.R k) X))
/-- The slice at kA has k at i, in the tree's memory. -/
def KidAt (M : MC) (kA : Option Addr) (i k : Nat) : Prop := ∃ b off, kA = some ⟨b, off, none⟩ ∧ b < M.B ∧ M.W0.cell? ⟨b, off + i, none⟩ = some (.int .i64 (k : Int))
abbrev Row3 := Nat × TypeId × Array Value
/-- Memory within a call of the matcher's. -/
structure FS (M : MC) (F : Nat → Prop) (w : World) (L : List Row3) (v : Value) (X : Nat → Prop) (u : World) : Prop where
  mi : ∃ (cs : List Nat) (ms : List (Option Nat)), MI M F cs ms u
  keep : Keeps (MP M w) w u
  rows : ∀ x ∈ L, RowA u x.1 x.2.1 x.2.2 ∧ x.2.1 ≠ 3 ∧ x.2.1 ≠ 94
  pl : PlX u v X
  off : Off F v
  lo : M.B ≤ w.heap.size
section
variable {M : MC} {F : Nat → Prop} {w : World} {L : List Row3} {v : Value} {X : Nat → Prop} {u u' : World}
theorem mi_row {cs : List Nat} {ms : List (Option Nat)} (h : MI M F cs ms u) {q : Nat} {t : TypeId} {c : Array Value} (r : RowA u q t c) (h1 : t ≠ 3) (h2 : t ≠ 94) (hk : Keeps (MP M u) u u') : RowA u' q t c := row_keeps r hk (h.row_off r h1 h2)
theorem FS.step (h : FS M F w L v X u) (hm : ∃ (cs : List Nat) (ms : List (Option Nat)), MI M F cs ms u') (hk : Keeps (MP M u) u u') : FS M F w L v X u' := by
  obtain ⟨cs, ms, hm0⟩ := h.mi
  exact ⟨hm, mp_trans h.keep hk, fun x hx => by
    obtain ⟨h1, h2, h3⟩ := h.rows x hx
    exact ⟨mi_row hm0 h1 h2 h3 hk, h2, h3⟩, h.pl.keeps hm0 hk, h.off, h.lo⟩
theorem FS.below (h : FS M F w L v X u) (hb : Below u.heap.size u u') : FS M F w L v X u' := by
  obtain ⟨cs, ms, hm0⟩ := h.mi
  exact h.step ⟨cs, ms, hm0.below hb⟩ (Keeps.of_below hb)
theorem FS.put (h : FS M F w L v X u) {x : Row3} (r : RowA u x.1 x.2.1 x.2.2) (h1 : x.2.1 ≠ 3) (h2 : x.2.1 ≠ 94) : FS M F w (x :: L) v X u :=
  ⟨h.mi, h.keep, fun y hy => by rcases List.mem_cons.1 hy with e | e; exact e ▸ ⟨r, h1, h2⟩; exact h.rows y e, h.pl, h.off, h.lo⟩
theorem FS.sub {L' : List Row3} (h : FS M F w L v X u) (hs : ∀ x ∈ L', x ∈ L) : FS M F w L' v X u := ⟨h.mi, h.keep, fun x hx => h.rows x (hs x hx), h.pl, h.off, h.lo⟩
theorem FS.r0 {q : Nat} {t : TypeId} {c : Array Value} {L' : List Row3} (h : FS M F w ((q, t, c) :: L') v X u) : RowA u q t c := (h.rows (q, t, c) (by simp)).1
theorem FS.r1 {x : Row3} {q : Nat} {t : TypeId} {c : Array Value} {L' : List Row3} (h : FS M F w (x :: (q, t, c) :: L') v X u) : RowA u q t c := (h.rows (q, t, c) (by simp)).1
theorem FS.r2 {x y : Row3} {q : Nat} {t : TypeId} {c : Array Value} {L' : List Row3} (h : FS M F w (x :: y :: (q, t, c) :: L') v X u) : RowA u q t c := (h.rows (q, t, c) (by simp)).1
theorem FS.r3 {x y z : Row3} {q : Nat} {t : TypeId} {c : Array Value} {L' : List Row3} (h : FS M F w (x :: y :: z :: (q, t, c) :: L') v X u) : RowA u q t c := (h.rows (q, t, c) (by simp)).1
theorem FS.start (h : Inp M F w v X) : FS M F w [] v X w := ⟨h.mi, Keeps.of_below (Below.refl _ _), (fun x hx => by cases hx), h.pl, h.off, by obtain ⟨cs, ms, hm⟩ := h.mi; exact hm.bel.size⟩
theorem FS.inp (h : FS M F w L v X u) (hf : ∀ f, F f → f < w.heap.size) (hl : ∀ j, X j → j ≤ M.s.size) : Inp M F u v X := ⟨h.mi, fun f hf2 => Nat.lt_of_lt_of_le (hf f hf2) h.keep.size, h.pl, h.off, hl⟩
/-- Other places are looked at. -/
theorem FS.turn (h : FS M F w L v X u) {v' : Value} {X' : Nat → Prop} (hp : PlX u v' X') (ho : Off F v') : FS M F w L v' X' u := ⟨h.mi, h.keep, h.rows, hp, ho, h.lo⟩
theorem FS.bel (h : FS M F w L v X u) : Below M.B M.W0 u := by
  obtain ⟨cs, ms, hm⟩ := h.mi
  exact hm.bel
theorem FS.kid (h : FS M F w L v X u) {b o k : Nat} (hb : b < M.B) (hc : M.W0.cell? ⟨b, o, none⟩ = some (.int .i64 (k : Int))) : u.cell? ⟨b, o, none⟩ = some (.int .i64 (k : Int)) := by rw [h.bel.cell (by exact hb)]; exact hc
theorem FS.mbox (h : FS M F w L v X u) : RowA u M.mq 75 M.cells := by
  obtain ⟨cs, ms, hm⟩ := h.mi
  exact hm.box
/-- A row of the call's own is written. -/
theorem FS.setRow {q : Nat} {c c' : Array Value} (h : FS M F w ((q, 58, c) :: L) v X u) (hq : w.heap.size ≤ q) (hne : ∀ x ∈ L, x.1 ≠ q) (hc : c[0]? = some (.int .i64 0)) : FS M F w ((q, 58, c') :: L) v X (u.setRow q c') := by
  have r := h.r0
  obtain ⟨cs, ms, hm⟩ := h.mi
  have hk : Keeps (fun k => k = q) u (u.setRow q c') := ⟨rfl, rfl, rfl, by simp [World.setRow], fun k hl hn => setRow_other u q k _ hn⟩
  have hB := h.lo
  have m2 : MI M F cs ms (u.setRow q c') := hm.step hk (fun k hk hl => by
    have hk : k = q := hk
    subst hk
    exact ⟨by omega, fun e => row_neq r hm.box (by decide) e, hm.row_off r (by decide) (by decide), .inr ⟨_, r.at_ hc, fun y e => by cases e⟩⟩) (fun k hk => .inl hk)
  refine ⟨⟨cs, ms, m2⟩, h.keep.trans hk (fun k hl hn e => by
    have e : k = q := e
    omega), fun x hx => ?_, ?_, h.off, h.lo⟩
  · rcases List.mem_cons.1 hx with e | e
    · subst e
      exact ⟨r.row c', (show (58 : TypeId) ≠ 3 by decide), (show (58 : TypeId) ≠ 94 by decide)⟩
    · obtain ⟨h1, h2, h3⟩ := h.rows x (by simp [e])
      exact ⟨h1.apart _ (hne x e), h2, h3⟩
  · obtain ⟨p, h1, h2⟩ := h.pl
    exact ⟨p, h1.keep (by simp [World.setRow]) fun b hb => setRow_other u q b _ (h1.off r hc (fun y e => by cases e) hb), h2⟩
theorem FS.chain {L' : List Row3} {v' : Value} {X' : Nat → Prop} (h : FS M F w L v X u) (h2 : FS M F u L' v' X' u') : FS M F w L' v' X' u' := ⟨h2.mi, mp_trans h.keep h2.keep, h2.rows, h2.pl, h2.off, h.lo⟩
theorem FS.again (h : FS M F w L v X u) : FS M F u L v X u := ⟨h.mi, Keeps.of_below (Below.refl _ _), h.rows, h.pl, h.off, Nat.le_trans h.lo h.keep.size⟩
theorem FS.new (h : FS M F w L v X u) (t : TypeId) (c : Array Value) (h1 : t ≠ 3) (h2 : t ≠ 94) : FS M F w ((u.heap.size, t, c) :: L) v X (u.alloc (.cells c t)) :=
  (h.below ((Below.refl _ _).alloc (Nat.le_refl _) _)).put (RowA.new u t c) h1 h2
/-- The boxes of a call of three. -/
theorem FS.three (h : FS M F w [] v X w) (t : TypeId) (h1 : t ≠ 3) (h2 : t ≠ 94) (c1 c2 c3 : Array Value) : FS M F w [(w.heap.size, t, c1), (w.heap.size + 1, 58, c2), (w.heap.size + 1 + 1, 58, c3)] v X (((w.alloc (.cells c1 t)).alloc (.cells c2 58)).alloc (.cells c3 58)) := by
  have f1 := h.new t c1 h1 h2
  have f2 := f1.new 58 c2 (by decide) (by decide)
  have f3 := f2.new 58 c3 (by decide) (by decide)
  have s1 : (w.alloc (.cells c1 t)).heap.size = w.heap.size + 1 := World.size_alloc ..
  have s2 : ((w.alloc (.cells c1 t)).alloc (.cells c2 58)).heap.size = w.heap.size + 1 + 1 := by rw [World.size_alloc, s1]
  rw [s1, s2] at f3
  exact f3.sub (fun x hx => by simp at hx ⊢; rcases hx with e | e | e <;> simp [e])
end
end Go.Proofs.YtcgondjekpcpgaaDoor.Sy.Lg
