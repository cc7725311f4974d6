/- A strings.Builder: alone, and as a field of the printer. -/
import Derived.Test.YtdaaigkmlbpbgaaPM4
import Derived.Test.YtdaaigkmlbpbgaaPM2
import Derived.Lib.Builder
import Derived.Lib.AppendStr
import Derived.Lib.UnsafeStr
import Derived.Shelf.RegionOpenPlain
import Derived.Test.YtdaaigkmlbpbgaaPDa
import Derived.Test.YtdaaigkmlbpbgaaPM3
import Derived.Test.YtdaaigkmlbpbgaaShelf
import Derived.Lib.ItoaMem
import Derived.Lib.ItoaNum
import Derived.Lib.LaidTab
import Derived.Sort.Grow
import Derived.Test.YtdaaigkmlbpbgaaPM1
import Derived.Test.YtdaaigkmlbpbgaaPRr
import Derived.BigQuiet
import Derived.Test.YtdaaigkmlbpbgaaPSa
import Derived.Test.YtdaaigkmlbpbgaaPSc
namespace Go.Proofs.Ytdaaigkmlbpbgaa.Sy
open Go.RowKit
set_option maxRecDepth 100000
set_option linter.unusedVariables false

/-- Bytes as cells. -/
def n8 (l : List Nat) : List Value := l.map fun x : Nat => Value.int .u8 (x : Int)
/-- The text of some bytes. -/
def txt (l : List Nat) : ByteArray := ⟨(l.map UInt8.ofNat).toArray⟩
theorem bs_txt {l : List Nat} (h : ∀ x ∈ l, x < 256) : bs (txt l) = l := by
  simp only [bs, txt, List.map_map]
  conv => rhs; rw [← List.map_id l]
  refine List.map_congr_left fun x hx => ?_
  have := h x hx
  simp only [Function.comp, id]
  rw [UInt8.toNat_ofNat']
  omega
theorem txt_of {b : ByteArray} {l : List Nat} (h : bs b = l) : b = txt l := by
  refine bs_inj ?_
  rw [bs_txt (fun x hx => by rw [← h] at hx; exact bs_lt b x hx), h]
/-- The bytes of a Builder: a row of its own, in no block of its struct. -/
structure Buf (w : World) (B b : Nat) (v : Value) (t : List Nat) : Prop where
  own : w.ownsRow B 5 1 v t.length (n8 t)
  far : v.ownBlock ≠ some b
  nil : t = [] → v = .slice none 0 0
theorem Buf.keep {w w' : World} {B b : Nat} {v : Value} {t : List Nat} (h : Buf w B b v t) {row : Option Nat} (hg : w.grownBy w' row) (hr : v.ownBlock ≠ row) : Buf w' B b v t :=
  ⟨h.own.kept hg (.inr hr), h.far, h.nil⟩
theorem mixed_ : Try.prog.follows Departure.mixedOrders = true := by kernel_rfl
end Go.Proofs.Ytdaaigkmlbpbgaa.Sy

namespace Go.Proofs.Ytdaaigkmlbpbgaa.Sy
open Go.RowKit
set_option maxRecDepth 100000
set_option linter.unusedVariables false

/-- A text comes back, and memory is as it was. -/
def TxtR (t : List Nat) (w : World) (e : Ending) (w' : World) : Prop := ∃ b, e = .returned (.string b) ∧ bs b = t ∧ Below w.heap.size w w'
abbrev digitsA : ByteArray := { data := #[48, 49, 50, 51, 52, 53, 54, 55, 56, 57, 97, 98, 99, 100, 101, 102] }
theorem hex_at : ∀ n : Nat, n < 16 → (bs digitsA)[n]? = some (hexD n) := by decide
theorem hex_at2 (n : Nat) (h : n < 16) : at_ (bs digitsA) n = hexD n := by
  have := hex_at n h
  unfold at_
  rw [List.getD_eq_getElem?_getD, this]
  rfl
abbrev marksA : ByteArray := { data := #[124, 42, 43, 63, 123, 125, 40, 41, 91, 93, 46, 92, 47, 36, 94, 34, 45] }
theorem pmarks_has : ∀ c : Nat, c < 256 → (bs marksA).contains c = (specialB c || c == 45) := by decide +kernel
/-- (This program has no such table.) -/
def TV (w : World) : Prop := True
theorem TV.below {w w' : World} (h : TV w) (hb : Below w.heap.size w w') : TV w' := trivial
end Go.Proofs.Ytdaaigkmlbpbgaa.Sy

namespace Go.Proofs.Ytdaaigkmlbpbgaa.Sy
open Go.RowKit
set_option maxRecDepth 100000
set_option linter.unusedVariables false

theorem eqB_iff (p q : Nat → Bool) : eqB p q = true ↔ ∀ b, b < 256 → p b = q b := by
  refine ⟨fun h b hb => ?_, eqB_true⟩
  unfold eqB at h
  obtain ⟨h0, h1, h2, h3⟩ := of_decide_eq_true h
  have hb' : b = 64 * (b / 64) + b % 64 := by omega
  have hm : b % 64 < 64 := Nat.mod_lt _ (by omega)
  have hq : b / 64 = 0 ∨ b / 64 = 1 ∨ b / 64 = 2 ∨ b / 64 = 3 := by omega
  rw [hb']
  rcases hq with e | e | e | e <;> rw [e]
  · exact W_inj h0 _ hm
  · exact W_inj h1 _ hm
  · exact W_inj h2 _ hm
  · exact W_inj h3 _ hm
theorem eqDot_eq (p : Nat → Bool) : eqB p (notB (inB [10])) = eqDot p := by
  rw [Bool.eq_iff_iff, eqB_iff]
  unfold eqDot
  rw [List.all_eq_true]
  have e : ∀ x, notB (inB [10]) x = dotS x := fun x => by simp [notB, inB, dotS]
  constructor
  · intro h x hx
    rw [h x (List.mem_range.1 hx), e]
    simp
  · intro h b hb
    have := h b (List.mem_range.2 hb)
    rw [e]
    simpa using this
/-- A row of one byte. -/
def By (xs : List Int) (v : Value) (u : World) : Prop := ∃ A c, v = .slice A xs.length c ∧ Bts u u.heap.size A xs
theorem By.below {xs : List Int} {v : Value} {u u' : World} (h : By xs v u) (hb : Below u.heap.size u u') : By xs v u' := by
  obtain ⟨A, c, e, hB⟩ := h
  exact ⟨A, c, e, (hB.below hb).more hb.size⟩
theorem By.one (c : Int) (h0 : 0 ≤ c) (h1 : c ≤ 255) (u : World) : By [c] (.slice (some ⟨u.heap.size, 0, none⟩) 1 1) (u.alloc (.cells #[.int .u8 c] 5)) := ⟨_, 1, rfl, bts_one u c h0 h1⟩
structure SdS (w : World) (g : Nat) (p : Nat → Bool) (u : World) : Prop where
  box : Row4 u g p
  bel : Below w.heap.size w u
theorem SdS.below {w : World} {g : Nat} {p : Nat → Bool} {u u' : World} (h : SdS w g p u) (hb : Below u.heap.size u u') : SdS w g p u' := ⟨h.box.below hb h.box.lt, h.bel.trans (hb.mono h.bel.size)⟩
end Go.Proofs.Ytdaaigkmlbpbgaa.Sy

namespace Go.Proofs.Ytdaaigkmlbpbgaa.Sy.Pn
open Go.RowKit
set_option maxRecDepth 100000
set_option linter.unusedVariables false

def Eb (_ : Option Nat) (u u' : World) : Prop := Below u.heap.size u u'
theorem eby {d : Option Nat} {u u' : World} (_ : true = true) (h : Below u.heap.size u u') : Eb d u u' := h
/-- A node's box, the printer's nodes; the rest is as it was. -/
structure PnS (w0 : World) (b q : Nat) (nv : Value) (cs : Array Value) (u : World) : Prop where
  box : RowA u q 38 cs
  nds : u.cell? ⟨b, 0, none⟩ = some nv
  bel : Below w0.heap.size w0 u
theorem cell_lt {u : World} {p : Addr} {v : Value} (h : u.cell? p = some v) : p.block < u.heap.size := World.block_lt_of_cell? u p h
theorem PnS.below {w0 : World} {b q : Nat} {nv : Value} {cs : Array Value} {u u' : World} (h : PnS w0 b q nv cs u) (hb : Below u.heap.size u u') : PnS w0 b q nv cs u' :=
  ⟨h.box.below hb h.box.lt, (hb.cell (p := ⟨b, 0, none⟩) (cell_lt h.nds)).trans h.nds, h.bel.trans (hb.mono h.bel.size)⟩
section
variable {nv : Value} {w w' : World} {B b : Nat} {v v' : Value} {t : List Nat}
end

/-- What a printer works with. -/
structure Env (W0 : World) (B b N : Nat) (A : Option Addr) (gs : List Gd) (ns : List Nd) : Prop where
  base : B = W0.heap.size
  bb : B ≤ b
  nds : Nds W0 B A gs
  gn : GN gs ns
  len : gs.length = N
  small : N ≤ 2000
  tv : TV W0
  kids : ∀ i, i < N → ∀ k ∈ (ns.getD i nd0).l, k < i
  shp : ∀ i, i < N → shapeB (ns.getD i nd0) = true
  lens : ∀ g ∈ gs, g.nm.size ≤ 1000 ∧ g.l.length ≤ 100000000
theorem range9 {u : World} {g o : Nat} {x : Gd} {Ax : Option Addr} {cx : Nat} (r : u.rangeAt g o (gdL x Ax cx)) :
    u.cell? ⟨g, o, none⟩ = some (.int .u8 x.op) ∧ u.cell? ⟨g, o + 1, none⟩ = some (.int .u64 (W x.s 0)) ∧ u.cell? ⟨g, o + 2, none⟩ = some (.int .u64 (W x.s 1)) ∧ u.cell? ⟨g, o + 3, none⟩ = some (.int .u64 (W x.s 2)) ∧ u.cell? ⟨g, o + 4, none⟩ = some (.int .u64 (W x.s 3)) ∧
    u.cell? ⟨g, o + 5, none⟩ = some (.slice Ax x.l.length cx) ∧ u.cell? ⟨g, o + 6, none⟩ = some (.int .i64 x.lo) ∧ u.cell? ⟨g, o + 7, none⟩ = some (.int .i64 x.hi) ∧ u.cell? ⟨g, o + 8, none⟩ = some (.string x.nm) :=
  ⟨r 0 _ rfl, r 1 _ rfl, r 2 _ rfl, r 3 _ rfl, r 4 _ rfl, r 5 _ rfl, r 6 _ rfl, r 7 _ rfl, r 8 _ rfl⟩
section
variable {W0 : World} {B b N c : Nat} {A : Option Addr} {gs : List Gd} {ns : List Nd}
theorem node_at (E : Env W0 B b N A gs ns) {a : Nat} (ha : a < N) : GN1 (gs.getD a gd0) (ns.getD a nd0) := E.gn.2 a (by rw [E.len]; exact ha)
theorem own_fr {w w' : World} {b q : Nat} {v v' : Value} (f : Fr b v v' w w') (hq : q < w.heap.size) (h2 : v.ownBlock ≠ some q) : v'.ownBlock ≠ some q := fun e => by
  rcases f.own q e with h | h
  · exact h2 h
  · omega

end
end Go.Proofs.Ytdaaigkmlbpbgaa.Sy.Pn

namespace Go.Proofs.Ytdaaigkmlbpbgaa.Sy.Pn
open Go.RowKit
set_option maxRecDepth 100000
set_option linter.unusedVariables false

def Sx (t : List Nat) (v : Value) (_ : World) : Prop := ∃ s, v = .string s ∧ bs s = t
section
variable {W0 : World} {B b N c : Nat} {A : Option Addr} {gs : List Gd} {ns : List Nd}
end
end Go.Proofs.Ytdaaigkmlbpbgaa.Sy.Pn
