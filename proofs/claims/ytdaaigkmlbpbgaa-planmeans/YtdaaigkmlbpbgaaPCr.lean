/- The places as a rising list. -/
import Derived.Test.YtdaaigkmlbpbgaaPCb
import Derived.Lib.SliceRun
import Derived.Test.YtdaaigkmlbpbgaaPRr
namespace Go.Proofs.Ytdaaigkmlbpbgaa.Sy.Lg
open Go.RowKit Go.Proofs.Ytdaaigkmlbpbgaa.Sy.Ap
set_option maxRecDepth 100000
set_option linter.unusedVariables false

/-! ### Its loop -/
def NewI (k : Nat) (z : Value) (u : World) : Prop := ∃ g, z = .slice (some ⟨g, 0, none⟩) 1 1 ∧ RowA u g 3 #[.int .i64 (k : Int)]
theorem NewI.below {k : Nat} {z : Value} {u u' : World} (h : NewI k z u) (hb : Below u.heap.size u u') : NewI k z u' := by
  obtain ⟨g, h1, h2⟩ := h
  exact ⟨g, h1, h2.below hb h2.lt⟩
def EbL (d : Option Nat) (u u' : World) : Prop := Below u.heap.size u u'
namespace Li
theorem eby {d : Option Nat} {u u' : World} (_ : true = true) (h : Below u.heap.size u u') : EbL d u u' := h
end Li
/-- A list of numbers in a row of one's own. -/
def LstR (w : World) (l : List Nat) (e : Ending) (w' : World) : Prop := Below w.heap.size w w' ∧ ∃ A c, e = .returned (.slice A l.length c) ∧ w'.ownsRow w.heap.size 3 1 (.slice A l.length c) l.length (i64s l)
namespace Li
end Li
end Go.Proofs.Ytdaaigkmlbpbgaa.Sy.Lg

namespace Go.Proofs.Ytdaaigkmlbpbgaa.Sy.Lg
open Go.RowKit Go.Proofs.Ytdaaigkmlbpbgaa.Sy.Ap Go.Proofs.Ytdaaigkmlbpbgaa.Sy.Ap.Wk
set_option maxRecDepth 100000
set_option linter.unusedVariables false

theorem u64_info : (Try.prog.info? 33).map (fun i => (i.zero, i.size, i.bytes)) = some (some (.int .u64 0), 1, 8) := by kernel_rfl
end Go.Proofs.Ytdaaigkmlbpbgaa.Sy.Lg

namespace Go.Proofs.Ytdaaigkmlbpbgaa.Sy.Lg.Pt
open Go.RowKit Go.Proofs.Ytdaaigkmlbpbgaa.Sy.Ap Go.Proofs.Ytdaaigkmlbpbgaa.Sy.Ap.Wk
set_option maxRecDepth 100000
set_option linter.unusedVariables false

theorem eby {d : Option Nat} {u u' : World} (_ : true = true) (h : Below u.heap.size u u') : EbL d u u' := h
end Go.Proofs.Ytdaaigkmlbpbgaa.Sy.Lg.Pt

namespace Go.Proofs.Ytdaaigkmlbpbgaa.Sy.Lg.Jo
open Go.RowKit Go.Proofs.Ytdaaigkmlbpbgaa.Sy.Ap Go.Proofs.Ytdaaigkmlbpbgaa.Sy.Ap.Wk Go.Proofs.Ytdaaigkmlbpbgaa.Sy.Lg.Pt
set_option maxRecDepth 100000
set_option linter.unusedVariables false

theorem eby {d : Option Nat} {u u' : World} (_ : true = true) (h : Below u.heap.size u u') : EbL d u u' := h
end Go.Proofs.Ytdaaigkmlbpbgaa.Sy.Lg.Jo

namespace Go.Proofs.Ytdaaigkmlbpbgaa.Sy.Lg.Cp
open Go.RowKit Go.Proofs.Ytdaaigkmlbpbgaa.Sy.Ap Go.Proofs.Ytdaaigkmlbpbgaa.Sy.Ap.Wk Go.Proofs.Ytdaaigkmlbpbgaa.Sy.Lg.Pt
set_option maxRecDepth 100000
set_option linter.unusedVariables false

/-- The words of places, copied. -/
def ClR (u : World) (p : Nat → Bool) (v : Value) (u' : World) : Prop := (v = .slice none 0 0 ∧ noneB p) ∨ ((∃ i, p i = true) ∧ u'.ownsRow u.heap.size 33 1 v 1 [.int .u64 (W p 0)])
theorem ClR.below {u : World} {p : Nat → Bool} {v : Value} {u1 u2 : World} (h : ClR u p v u1) (hb : Below u1.heap.size u1 u2) : ClR u p v u2 := by
  rcases h with h | ⟨h1, h2⟩
  · exact .inl h
  · exact .inr ⟨h1, own_below h2 hb (Nat.le_refl _)⟩
def CpA (w : World) (p : Nat → Bool) (v : Value) (u : World) : Prop := ∃ sv, v = .agg #[.int .i64 0, sv] ∧ ClR w p sv u
theorem CpA.below {w : World} {p : Nat → Bool} {v : Value} {u1 u2 : World} (h : CpA w p v u1) (hb : Below u1.heap.size u1 u2) : CpA w p v u2 := by
  obtain ⟨sv, h1, h2⟩ := h
  exact ⟨sv, h1, h2.below hb⟩
theorem eby {d : Option Nat} {u u' : World} (_ : true = true) (h : Below u.heap.size u u') : EbL d u u' := h
end Go.Proofs.Ytdaaigkmlbpbgaa.Sy.Lg.Cp

namespace Go.Proofs.Ytdaaigkmlbpbgaa.Sy.Lg
open Go.RowKit Go.Proofs.Ytdaaigkmlbpbgaa.Sy.Ap Go.Proofs.Ytdaaigkmlbpbgaa.Sy.Ap.Wk
set_option maxRecDepth 100000
set_option linter.unusedVariables false
/-- Places lie in no block whose first cell is something else. -/
theorem Pl.off {w : World} {v : Value} {p : Nat → Bool} {q : Nat} {t : TypeId} {cs : Array Value} (h : Pl w v p) (r : RowA w q t cs) {z : Value} (hz : cs[0]? = some z) (hne : ∀ x, z ≠ .int .u64 x) {b : Nat} (hb : plB v = some b) : b ≠ q := by
  intro e
  subst e
  rcases h.2 with ⟨rfl, _⟩ | ⟨b', c, i, rfl, _, _, hc, _⟩
  · cases hb
  · have hb : some b' = some b := hb
    cases hb
    have h2 := r.at_ hz
    rw [hc] at h2
    injection h2 with h2
    exact hne _ h2.symm
end Go.Proofs.Ytdaaigkmlbpbgaa.Sy.Lg
namespace Go.Proofs.Ytdaaigkmlbpbgaa.Sy.Lg.Wo
open Go.RowKit Go.Proofs.Ytdaaigkmlbpbgaa.Sy.Ap Go.Proofs.Ytdaaigkmlbpbgaa.Sy.Ap.Wk Go.Proofs.Ytdaaigkmlbpbgaa.Sy.Lg.Pt Go.Proofs.Ytdaaigkmlbpbgaa.Sy.Lg.Cp Go.Proofs.Ytdaaigkmlbpbgaa.Sy.Lg.Jo
set_option maxRecDepth 100000
set_option linter.unusedVariables false

theorem eby {d : Option Nat} {u u' : World} (_ : true = true) (h : Below u.heap.size u u') : EbL d u u' := h
end Go.Proofs.Ytdaaigkmlbpbgaa.Sy.Lg.Wo

namespace Go.Proofs.Ytdaaigkmlbpbgaa.Sy.Lg
open Go.RowKit Go.Proofs.Ytdaaigkmlbpbgaa.Sy.Ap Go.Proofs.Ytdaaigkmlbpbgaa.Sy.Ap.Wk
set_option maxRecDepth 100000
set_option linter.unusedVariables false

/-! ### Maps keyed by numbers -/
def keyI (k : Nat) : Lit := .int .i64 (k : Int)
/-- Block b is a map that has these values at these keys. -/
def MapI (w : World) (b : Nat) (f : Nat → Option Value) : Prop :=
  ∃ D : DataW Value, w.ownsMap Try.prog 3 heldE b 64 D ∧ Maps.size D ≤ cnt (fun k => (f k).isSome) 63 ∧ ∀ s : Nat, Maps.has D (keyI s) = (f s).isSome ∧ ∀ v z, f s = some v → D.atKey (keyI s) z = .held v
section
variable {w w' : World} {b : Nat} {f : Nat → Option Value}
theorem MapI.lt (h : MapI w b f) : b < w.heap.size := by
  obtain ⟨D, h, _⟩ := h
  exact h.lt
theorem MapI.blk (h : MapI w b f) : ∃ es clock, w.heap[b]? = some (.map es clock) := by
  obtain ⟨D, ⟨es, clock, h, _⟩, _⟩ := h
  exact ⟨es, clock, h⟩
theorem MapI.keep (h : MapI w b f) (hb : w'.heap[b]? = w.heap[b]?) : MapI w' b f := by
  obtain ⟨D, ⟨es, clock, h1, h2⟩, h3⟩ := h
  exact ⟨D, ⟨es, clock, hb.trans h1, h2⟩, h3⟩
end
section
variable {w : World} {ops : Array Oper} {rest : List Oper} {o : Oper} {a : Act} {Q : Exit → Act → World → Prop}
end
/-! ### The matcher -/
/-- v is the places X. -/
def PlX (u : World) (v : Value) (X : Nat → Prop) : Prop := ∃ p, Pl u v p ∧ ∀ j, p j = true ↔ X j
/-- v lies in none of the blocks F. -/
def Off (F : Nat → Prop) (v : Value) : Prop := ∀ b, plB v = some b → ¬ F b
theorem PlX.congr {u : World} {v : Value} {X Y : Nat → Prop} (h : PlX u v X) (e : ∀ j, X j ↔ Y j) : PlX u v Y := by
  obtain ⟨p, h1, h2⟩ := h
  exact ⟨p, h1, fun j => (h2 j).trans (e j)⟩
theorem PlX.below {u u' : World} {v : Value} {X : Nat → Prop} (h : PlX u v X) (hb : Below u.heap.size u u') : PlX u' v X := by
  obtain ⟨p, h1, h2⟩ := h
  exact ⟨p, h1.below hb, h2⟩
theorem PlX.lt {u : World} {v : Value} {X : Nat → Prop} (h : PlX u v X) {b : Nat} (hb : plB v = some b) : b < u.heap.size := by
  obtain ⟨p, h1, h2⟩ := h
  exact h1.lt hb
/-- What a matcher stands for. -/
structure MC where
  W0 : World
  mq : Nat
  wb : Nat
  kb : Nat
  n : Nat
  tA : Option Addr
  tc : Nat
  s : ByteArray
  gs : List Gd
  ns : List Nd
abbrev MC.B (M : MC) : Nat := M.W0.heap.size
abbrev MC.cells (M : MC) : Array Value := #[.slice M.tA M.n M.tc, .string M.s, .slice (some ⟨M.wb, 0, none⟩) M.n M.n, .slice (some ⟨M.kb, 0, none⟩) M.n M.n]
def MC.R (M : MC) (k : Nat) : Nat → Nat → Prop := Mt M.ns (bs M.s) k
structure MC.Ok (M : MC) : Prop where
  few : M.s.size ≤ 63
  len : M.gs.length = M.n
  gn : GN M.gs M.ns
  tree : TreeN M.ns
  nds : Nds M.W0 M.B M.tA M.gs
  db : DB M.W0
  bmq : M.B ≤ M.mq
  bwb : M.B ≤ M.wb
  bkb : M.B ≤ M.kb
/-- What is kept of the node i, in block b. -/
def Kept (M : MC) (F : Nat → Prop) (u : World) (i b : Nat) : Prop := M.B ≤ b ∧ ∃ f, MapI u b f ∧ ∀ k v, f k = some v → PlX u v (M.R i k) ∧ Off F v
/-- What the matcher's calls may write. -/
def MP (M : MC) (u : World) (k : Nat) : Prop := k = M.wb ∨ k = M.kb ∨ (M.B ≤ k ∧ ∃ es cl, u.heap[k]? = some (.map es cl))
section
variable {M : MC} {F G : Nat → Prop} {cs : List Nat} {ms : List (Option Nat)} {u u' : World}
end
end Go.Proofs.Ytdaaigkmlbpbgaa.Sy.Lg

namespace Go.Proofs.Ytdaaigkmlbpbgaa.Sy.Lg.Be
open Go.RowKit Go.Proofs.Ytdaaigkmlbpbgaa.Sy.Ap Go.Proofs.Ytdaaigkmlbpbgaa.Sy.Ap.Wk
set_option maxRecDepth 100000
set_option linter.unusedVariables false

theorem eby {d : Option Nat} {u u' : World} (_ : true = true) (h : Below u.heap.size u u') : EbL d u u' := h
end Go.Proofs.Ytdaaigkmlbpbgaa.Sy.Lg.Be

namespace Go.Proofs.Ytdaaigkmlbpbgaa.Sy.Lg
open Go.RowKit Go.Proofs.Ytdaaigkmlbpbgaa.Sy.Ap Go.Proofs.Ytdaaigkmlbpbgaa.Sy.Ap.Wk
set_option maxRecDepth 100000
set_option linter.unusedVariables false

/-- The slice at kA has k at i, in the tree's memory. -/
def KidAt (M : MC) (kA : Option Addr) (i k : Nat) : Prop := ∃ b off, kA = some ⟨b, off, none⟩ ∧ b < M.B ∧ M.W0.cell? ⟨b, off + i, none⟩ = some (.int .i64 (k : Int))
abbrev Row3 := Nat × TypeId × Array Value
section
variable {M : MC} {F : Nat → Prop} {w : World} {L : List Row3} {v : Value} {X : Nat → Prop} {u u' : World}
end
end Go.Proofs.Ytdaaigkmlbpbgaa.Sy.Lg

namespace Go.Proofs.Ytdaaigkmlbpbgaa.Sy.Lg
open Go.RowKit Go.Proofs.Ytdaaigkmlbpbgaa.Sy.Ap Go.Proofs.Ytdaaigkmlbpbgaa.Sy.Ap.Wk
set_option maxRecDepth 100000
set_option linter.unusedVariables false

/-- A node's cells. -/
abbrev ndC (g : Gd) (kA : Option Addr) (mm kc : Nat) : Array Value := #[.int .u8 g.op, .int .u64 (W g.s 0), .int .u64 (W g.s 1), .int .u64 (W g.s 2), .int .u64 (W g.s 3), .slice kA mm kc, .int .i64 g.lo, .int .i64 g.hi, .string g.nm]
def EbM (M : MC) (d : Option Nat) (u u' : World) : Prop := Keeps (MP M u) u u'
namespace Ne
theorem eby {M : MC} {d : Option Nat} {u u' : World} (_ : true = true) (h : Below u.heap.size u u') : EbM M d u u' := Keeps.of_below h
end Ne
namespace Ne
end Ne
end Go.Proofs.Ytdaaigkmlbpbgaa.Sy.Lg

namespace Go.Proofs.Ytdaaigkmlbpbgaa.Sy.Lg
open Go.RowKit Go.Proofs.Ytdaaigkmlbpbgaa.Sy.Ap Go.Proofs.Ytdaaigkmlbpbgaa.Sy.Ap.Wk
set_option maxRecDepth 100000
set_option linter.unusedVariables false

/-! ### As many times as there are places find all -/
/-! ### Two new blocks, made in a region that draws -/
structure TwoS (S0 : World → Prop) (d1 d2 : Nat) (a : Act) (u : World) : Prop where
  s : S0 u
  p1 : ∀ g, a.tmps[d1]? = some (.pointer (some ⟨g, 0, none⟩)) → g < u.heap.size
  p2 : ∀ g, a.tmps[d2]? = some (.pointer (some ⟨g, 0, none⟩)) → g < u.heap.size
  far : ∀ g h, a.tmps[d1]? = some (.pointer (some ⟨g, 0, none⟩)) → a.tmps[d2]? = some (.pointer (some ⟨h, 0, none⟩)) → g ≠ h
section
variable {S0 : World → Prop} {d1 d2 : Nat} {a : Act} {u u' : World}
theorem TwoS.to (h : TwoS S0 d1 d2 a u) (hs : S0 u') (hz : u.heap.size ≤ u'.heap.size) : TwoS S0 d1 d2 a u' :=
  ⟨hs, fun g e => Nat.lt_of_lt_of_le (h.p1 g e) hz, fun g e => Nat.lt_of_lt_of_le (h.p2 g e) hz, h.far⟩
theorem TwoS.put (h : TwoS S0 d1 d2 a u) {d : Option Nat} (hd : (d != some d1 && d != some d2) = true) (z : Value) : TwoS S0 d1 d2 (a.put d z) u := by
  have e : ∀ k, (d != some k) = true → (a.put d z).tmps[k]? = a.tmps[k]? := by
    intro k hk
    cases d with
    | none => rfl
    | some d => rw [put_tmps, Array.getElem?_setIfInBounds_ne (fun e => by subst e; simp at hk)]
  have hd' : (d != some d1) = true ∧ (d != some d2) = true := by simpa using hd
  have e1 := e d1 hd'.1
  have e2 := e d2 hd'.2
  exact ⟨h.s, fun g q => h.p1 g (e1 ▸ q), fun g q => h.p2 g (e2 ▸ q), fun g k q r => h.far g k (e1 ▸ q) (e2 ▸ r)⟩
end
/-! ### Places of one's own beside the matcher -/
section
variable {M : MC} {F : Nat → Prop} {B : Nat} {w : World} {L : List Row3} {q : Nat} {sv : Value} {p : Nat → Bool} {v : Value} {X : Nat → Prop} {u u' : World}
end
end Go.Proofs.Ytdaaigkmlbpbgaa.Sy.Lg

namespace Go.Proofs.Ytdaaigkmlbpbgaa.Sy.Lg.Oq
open Go.RowKit Go.Proofs.Ytdaaigkmlbpbgaa.Sy.Ap Go.Proofs.Ytdaaigkmlbpbgaa.Sy.Ap.Wk Go.Proofs.Ytdaaigkmlbpbgaa.Sy.Lg.Cp Go.Proofs.Ytdaaigkmlbpbgaa.Sy.Lg.Wo
set_option maxRecDepth 100000
set_option linter.unusedVariables false

/-- A relation that holds where only what is new has turned. -/
class EbyC (E : Option Nat → World → World → Prop) : Prop where
  h : ∀ (d : Option Nat) (u u' : World), Below u.heap.size u u' → E d u u'
instance : EbyC EbL := ⟨fun _ _ _ h => h⟩
instance {M : MC} : EbyC (EbM M) := ⟨fun _ _ _ h => Keeps.of_below h⟩
theorem eby {E : Option Nat → World → World → Prop} [EbyC E] {d : Option Nat} {u u' : World} (_ : true = true) (h : Below u.heap.size u u') : E d u u' := EbyC.h d u u' h
namespace A4
section
variable {w : World} {p : Nat → Bool} {fl : Bool} {a : Act} {u u' : World}
end
end A4
end Go.Proofs.Ytdaaigkmlbpbgaa.Sy.Lg.Oq
