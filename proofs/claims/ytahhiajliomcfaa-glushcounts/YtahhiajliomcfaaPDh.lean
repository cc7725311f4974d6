/- How a tree is printed, by chapter 5. Plain lists. -/
import Derived.Test.YtahhiajliomcfaaPVv
import Derived.Test.YtahhiajliomcfaaPM2
import Derived.Test.YtahhiajliomcfaaPM1
import Derived.Test.YtahhiajliomcfaaPM4
import Derived.Lib.Builder
import Derived.Lib.AppendStr
import Derived.Lib.UnsafeStr
import Derived.Shelf.RegionOpenPlain
import Derived.Test.YtahhiajliomcfaaPM3
import Derived.Test.YtahhiajliomcfaaShelf
import Derived.Lib.ItoaMem
import Derived.Lib.ItoaNum
import Derived.Lib.LaidTab
import Derived.Sort.Grow
import Derived.Test.YtahhiajliomcfaaPRr
import Derived.BigQuiet
import Derived.Test.YtahhiajliomcfaaPSa
import Derived.Test.YtahhiajliomcfaaPSc
import Derived.Test.YtahhiajliomcfaaPHg
namespace Go.Proofs.Ytahhiajliomcfaa.Sy
set_option linter.unusedVariables false

def hexD (n : Nat) : Nat := if n < 10 then 48 + n else 87 + n
/-- A byte as it stands in a pattern. -/
def byteT (c : Nat) : List Nat :=
  if c = 10 then [92, 110] else if c = 9 then [92, 116] else if c = 13 then [92, 114]
  else if c < 32 ∨ 126 < c then [92, 120, hexD (c / 16), hexD (c % 16)]
  else if specialB c || c == 45 then [92, c] else [c]
def spanT (x : Int × Int) : List Nat := if x.1 < x.2 then byteT x.1.toNat ++ 45 :: byteT x.2.toNat else byteT x.1.toNat
def spn (p : Nat → Bool) : List (Int × Int) := spansL (lstB p 256)
def eqDot (p : Nat → Bool) : Bool := (List.range 256).all fun x => p x == dotS x
/-- A set as it stands in a pattern. -/
def setT (p : Nat → Bool) : List Nat :=
  if (spn p).length = 1 ∧ ((spn p).getD 0 (0, 0)).1 = ((spn p).getD 0 (0, 0)).2 then byteT ((spn p).getD 0 (0, 0)).1.toNat
  else if eqDot p then [46] else 91 :: ((spn p).flatMap spanT ++ [93])
/-- Bounds as they stand in a pattern. -/
def timesT (lo hi : Int) : List Nat :=
  if lo = 0 ∧ hi = -1 then [42] else if lo = 1 ∧ hi = -1 then [43] else if lo = 0 ∧ hi = 1 then [63]
  else if lo = hi then 123 :: (digs lo.toNat ++ [125]) else if hi = -1 then 123 :: (digs lo.toNat ++ [44, 125]) else 123 :: (digs lo.toNat ++ 44 :: (digs hi.toNat ++ [125]))
/-- Does a kid stand in parentheses? -/
def encB (k parent : Nat) : Bool := k == 4 || ((k == 1 || k == 3) && !(parent == 4))
def wrapT (b : Bool) (t : List Nat) : List Nat := if b then 40 :: (t ++ [41]) else t
def kidsT (sep : List Nat) (g : Nat → List Nat) (n : Nat) : List Nat := (List.range n).flatMap fun i => (if 0 < i then sep else []) ++ g i
theorem kidsT_zero (sep : List Nat) (g : Nat → List Nat) : kidsT sep g 0 = [] := rfl
theorem kidsT_succ (sep : List Nat) (g : Nat → List Nat) (n : Nat) : kidsT sep g (n + 1) = kidsT sep g n ++ ((if 0 < n then sep else []) ++ g n) := by
  unfold kidsT
  rw [List.range_succ, List.flatMap_append]
  simp
/-- A node, by its kids' texts. -/
def headT (kid : Nat → List Nat) (n : Nd) : List Nat :=
  if n.op = 2 then setT n.s else if n.op = 6 then 123 :: (n.name ++ [125])
  else if n.op = 5 then kidsT [] kid n.l.length ++ timesT n.lo n.hi
  else if n.op = 3 then kidsT [] kid n.l.length else if n.op = 4 then kidsT [124] kid n.l.length else []
def nodeT (ns : List Nd) : Nat → Nd → List Nat
  | 0, _ => []
  | f + 1, n => headT (fun i => wrapT (encB (ns.getD (n.l.getD i 0) nd0).op n.op) (nodeT ns f (ns.getD (n.l.getD i 0) nd0))) n
def kidT (ns : List Nd) (f : Nat) (n : Nd) (i : Nat) : List Nat := wrapT (encB (ns.getD (n.l.getD i 0) nd0).op n.op) (nodeT ns f (ns.getD (n.l.getD i 0) nd0))
theorem nodeT_succ (ns : List Nd) (f : Nat) (n : Nd) : nodeT ns (f + 1) n = headT (kidT ns f n) n := rfl
/-- A tree as a pattern. -/
def treeT (ns : List Nd) : List Nat := nodeT ns ns.length (ns.getD (ns.length - 1) nd0)

/-! Bytes. -/
theorem byteT_fit : ∀ c, c < 256 → (∀ x ∈ byteT c, 32 ≤ x ∧ x ≤ 126) ∧ 1 ≤ (byteT c).length ∧ (byteT c).length ≤ 4 := by decide +kernel
theorem spn_at (p : Nat → Bool) : ∀ x ∈ spn p, 0 ≤ x.1 ∧ x.1 ≤ x.2 ∧ x.2 ≤ 255 := fun x hx => by
  obtain ⟨k, hk, e0⟩ := List.getElem_of_mem hx
  have h := span_at p k hk
  have e : (spn p).getD k (0, 0) = x := by rw [List.getD_eq_getElem?_getD, List.getElem?_eq_getElem hk, e0]; rfl
  change 0 ≤ ((spn p).getD k (0, 0)).1 ∧ ((spn p).getD k (0, 0)).1 ≤ ((spn p).getD k (0, 0)).2 ∧ ((spn p).getD k (0, 0)).2 ≤ 255 at h
  rw [e] at h
  exact h
theorem spn_len (p : Nat → Bool) : (spn p).length ≤ 256 := Nat.le_trans (spans_len _) (lst_len p 256)
theorem spanT_fit {x : Int × Int} (h0 : 0 ≤ x.1) (h1 : x.1 ≤ x.2) (h2 : x.2 ≤ 255) : (∀ y ∈ spanT x, y < 256) ∧ (spanT x).length ≤ 9 := by
  have a := byteT_fit x.1.toNat (by omega)
  have b := byteT_fit x.2.toNat (by omega)
  unfold spanT
  split
  · refine ⟨fun y hy => ?_, by simp; omega⟩
    simp only [List.mem_append, List.mem_cons] at hy
    rcases hy with h | rfl | h
    · have := a.1 y h; omega
    · omega
    · have := b.1 y h; omega
  · exact ⟨fun y hy => by have := a.1 y hy; omega, by omega⟩
theorem flat_len {α : Type} (f : α → List Nat) (m : Nat) : ∀ l : List α, (∀ x ∈ l, (f x).length ≤ m) → (l.flatMap f).length ≤ m * l.length
  | [], _ => by simp
  | x :: r, h => by
    have h1 := flat_len f m r (fun y hy => h y (by simp [hy]))
    have h2 := h x (by simp)
    simp only [List.flatMap_cons, List.length_append, List.length_cons, Nat.mul_add, Nat.mul_one]
    omega
theorem setT_fit (p : Nat → Bool) : (∀ x ∈ setT p, x < 256) ∧ (setT p).length ≤ 2400 := by
  unfold setT
  split
  · rename_i h
    have hm : (spn p).getD 0 (0, 0) ∈ spn p := by rw [List.getD_eq_getElem?_getD, List.getElem?_eq_getElem (by omega)]; exact List.getElem_mem _
    have := spn_at p _ hm
    have := byteT_fit ((spn p).getD 0 (0, 0)).1.toNat (by omega)
    exact ⟨fun x hx => by have := this.1 x hx; omega, by omega⟩
  · split
    · exact ⟨by simp, by simp⟩
    · refine ⟨fun x hx => ?_, ?_⟩
      · simp only [List.mem_cons, List.mem_append, List.mem_flatMap] at hx
        rcases hx with rfl | ⟨y, hy, hx⟩ | rfl | h
        · omega
        · have := spn_at p y hy
          exact (spanT_fit this.1 this.2.1 this.2.2).1 x hx
        · omega
        · cases h
      · have h1 := flat_len spanT 9 (spn p) (fun y hy => by have := spn_at p y hy; exact (spanT_fit this.1 this.2.1 this.2.2).2)
        have h2 := spn_len p
        rw [List.length_cons, List.length_append, List.length_singleton]
        omega
theorem digs_fit {n : Nat} (h : n ≤ 9999) : (∀ x ∈ digs n, x < 256) ∧ (digs n).length ≤ 4 := by
  refine ⟨fun x hx => ?_, digs_len h⟩
  have := (digs_all n).2.1 x hx
  unfold digitB at this
  simp at this
  omega
theorem timesT_fit {lo hi : Int} (h0 : lo ≤ 9999) (h1 : hi ≤ 9999) : (∀ x ∈ timesT lo hi, x < 256) ∧ (timesT lo hi).length ≤ 11 := by
  have a := digs_fit (n := lo.toNat) (by omega)
  have b := digs_fit (n := hi.toNat) (by omega)
  unfold timesT
  repeat' split
  all_goals refine ⟨fun x hx => ?_, by simp; try omega⟩
  all_goals simp at hx
  · omega
  · omega
  · omega
  · rcases hx with rfl | h | rfl
    · omega
    · exact a.1 x h
    · omega
  · rcases hx with rfl | h | rfl | rfl
    · omega
    · exact a.1 x h
    · omega
    · omega
  · rcases hx with rfl | h | rfl | h | rfl
    · omega
    · exact a.1 x h
    · omega
    · exact b.1 x h
    · omega
/-! The text of a tree is no longer than its nodes' own parts together, and of bytes. -/
/-- A node's own part: all but its kids' texts. -/
theorem wrapT_fit {b : Bool} {t : List Nat} (h : ∀ x ∈ t, x < 256) : (∀ x ∈ wrapT b t, x < 256) ∧ (wrapT b t).length ≤ t.length + 2 := by
  unfold wrapT
  split
  · refine ⟨fun x hx => ?_, by simp⟩
    simp at hx
    rcases hx with rfl | hx | rfl
    · omega
    · exact h x hx
    · omega
  · exact ⟨h, by omega⟩
theorem kidsT_fit {sep : List Nat} (hs : ∀ x ∈ sep, x < 256) (h1 : sep.length ≤ 1) {g : Nat → List Nat} : ∀ n, (∀ i, i < n → ∀ x ∈ g i, x < 256) → (∀ x ∈ kidsT sep g n, x < 256)
  | 0, _ => by simp [kidsT_zero]
  | n + 1, h => fun x hx => by
    rw [kidsT_succ] at hx
    simp only [List.mem_append] at hx
    rcases hx with hx | hx | hx
    · exact kidsT_fit hs h1 n (fun i hi => h i (by omega)) x hx
    · split at hx
      · exact hs x hx
      · cases hx
    · exact h n (by omega) x hx
theorem shape_op5 {n : Nd} (h : shapeB n = true) : n.op = 5 → n.lo ≤ 4096 ∧ n.hi ≤ 4096 ∧ 0 ≤ n.lo ∧ (n.hi = -1 ∨ n.lo ≤ n.hi) := by
  intro h5
  unfold shapeB at h
  rw [h5] at h
  simp at h
  omega
theorem shape_name {n : Nd} (h : shapeB n = true) : n.name.length ≤ 32 := by
  unfold shapeB at h
  repeat' split at h
  all_goals simp [nameB] at h
  all_goals (try (obtain ⟨⟨⟨_, h⟩, _⟩, _⟩ := h))
  all_goals (try (obtain ⟨⟨_, h⟩, _⟩ := h))
  all_goals (try (obtain ⟨_, h⟩ := h))
  all_goals (first | omega | simp_all)
end Go.Proofs.Ytahhiajliomcfaa.Sy

namespace Go.Proofs.Ytahhiajliomcfaa.Sy
open Go.RowKit
set_option maxRecDepth 100000
set_option linter.unusedVariables false

/-- Bytes as cells. -/
def n8 (l : List Nat) : List Value := l.map fun x : Nat => Value.int .u8 (x : Int)
/-- The bytes of a Builder: a row of its own, in no block of its struct. -/
structure Buf (w : World) (B b : Nat) (v : Value) (t : List Nat) : Prop where
  own : w.ownsRow B 5 1 v t.length (n8 t)
  far : v.ownBlock ≠ some b
  nil : t = [] → v = .slice none 0 0
theorem Buf.keep {w w' : World} {B b : Nat} {v : Value} {t : List Nat} (h : Buf w B b v t) {row : Option Nat} (hg : w.grownBy w' row) (hr : v.ownBlock ≠ row) : Buf w' B b v t :=
  ⟨h.own.kept hg (.inr hr), h.far, h.nil⟩
end Go.Proofs.Ytahhiajliomcfaa.Sy

namespace Go.Proofs.Ytahhiajliomcfaa.Sy
open Go.RowKit
set_option maxRecDepth 100000
set_option linter.unusedVariables false

/-- (This program has no such table.) -/
def TV (w : World) : Prop := True
theorem TV.below {w w' : World} (h : TV w) (hb : Below w.heap.size w w') : TV w' := trivial
end Go.Proofs.Ytahhiajliomcfaa.Sy

namespace Go.Proofs.Ytahhiajliomcfaa.Sy
open Go.RowKit
set_option maxRecDepth 100000
set_option linter.unusedVariables false

/-- A row of one byte. -/
def By (xs : List Int) (v : Value) (u : World) : Prop := ∃ A c, v = .slice A xs.length c ∧ Bts u u.heap.size A xs
theorem By.below {xs : List Int} {v : Value} {u u' : World} (h : By xs v u) (hb : Below u.heap.size u u') : By xs v u' := by
  obtain ⟨A, c, e, hB⟩ := h
  exact ⟨A, c, e, (hB.below hb).more hb.size⟩
theorem By.one (c : Int) (h0 : 0 ≤ c) (h1 : c ≤ 255) (u : World) : By [c] (.slice (some ⟨u.heap.size, 0, none⟩) 1 1) (u.alloc (.cells #[.int .u8 c] 5)) := ⟨_, 1, rfl, bts_one u c h0 h1⟩
structure SdS (w : World) (g : Nat) (p : Nat → Bool) (u : World) : Prop where
  box : Row4 u g p
  bel : Below w.heap.size w u
theorem SdS.below {w : World} {g : Nat} {p : Nat → Bool} {u u' : World} (h : SdS w g p u) (hb : Below u.heap.size u u') : SdS w g p u' := ⟨h.box.below hb h.box.lt, h.bel.trans (hb.mono h.bel.size)⟩
end Go.Proofs.Ytahhiajliomcfaa.Sy

namespace Go.Proofs.Ytahhiajliomcfaa.Sy.Pn
open Go.RowKit
set_option maxRecDepth 100000
set_option linter.unusedVariables false

def Eb (_ : Option Nat) (u u' : World) : Prop := Below u.heap.size u u'
theorem eby {d : Option Nat} {u u' : World} (_ : true = true) (h : Below u.heap.size u u') : Eb d u u' := h
/-- A node's box, the printer's nodes; the rest is as it was. -/
structure PnS (w0 : World) (b q : Nat) (nv : Value) (cs : Array Value) (u : World) : Prop where
  box : RowA u q 42 cs
  nds : u.cell? ⟨b, 0, none⟩ = some nv
  bel : Below w0.heap.size w0 u
theorem cell_lt {u : World} {p : Addr} {v : Value} (h : u.cell? p = some v) : p.block < u.heap.size := World.block_lt_of_cell? u p h
theorem PnS.below {w0 : World} {b q : Nat} {nv : Value} {cs : Array Value} {u u' : World} (h : PnS w0 b q nv cs u) (hb : Below u.heap.size u u') : PnS w0 b q nv cs u' :=
  ⟨h.box.below hb h.box.lt, (hb.cell (p := ⟨b, 0, none⟩) (cell_lt h.nds)).trans h.nds, h.bel.trans (hb.mono h.bel.size)⟩
section
variable {nv : Value} {w w' : World} {B b : Nat} {v v' : Value} {t : List Nat}
end

section
variable {W0 : World} {B b N c : Nat} {A : Option Addr} {gs : List Gd} {ns : List Nd}
theorem own_fr {w w' : World} {b q : Nat} {v v' : Value} (f : Fr b v v' w w') (hq : q < w.heap.size) (h2 : v.ownBlock ≠ some q) : v'.ownBlock ≠ some q := fun e => by
  rcases f.own q e with h | h
  · exact h2 h
  · omega

end
end Go.Proofs.Ytahhiajliomcfaa.Sy.Pn

namespace Go.Proofs.Ytahhiajliomcfaa.Sy.Pn
open Go.RowKit
set_option maxRecDepth 100000
set_option linter.unusedVariables false

section
variable {ns : List Nd}
theorem getD_of {i : Nat} {n : Nd} (h : ns[i]? = some n) : ns.getD i nd0 = n := by rw [List.getD_eq_getElem?_getD, h]; rfl
/-- How long the texts of some nodes are together, each with three bytes more. -/
def sumT (ns : List Nd) (f : Nat) (ks : List Nat) : Nat := (ks.map fun k => (nodeT ns f (ns.getD k nd0)).length + 3).sum
theorem sumT_app (f : Nat) (xs ys : List Nat) : sumT ns f (xs ++ ys) = sumT ns f xs + sumT ns f ys := by simp [sumT]
theorem kidsT_sum (sep : List Nat) (hs : sep.length ≤ 1) (f : Nat) (n : Nd) : ∀ m, m ≤ n.l.length → (kidsT sep (kidT ns f n) m).length ≤ sumT ns f (n.l.take m)
  | 0, _ => by simp [kidsT_zero]
  | m + 1, h => by
    have h1 := kidsT_sum sep hs f n m (by omega)
    rw [kidsT_succ, List.take_succ_eq_append_getElem (by omega), sumT_app]
    have e : n.l.getD m 0 = n.l[m] := by rw [List.getD_eq_getElem?_getD, List.getElem?_eq_getElem (by omega)]; rfl
    have h2 : (kidT ns f n m).length ≤ (nodeT ns f (ns.getD n.l[m] nd0)).length + 2 := by
      unfold kidT
      rw [e]
      unfold wrapT
      split <;> simp
    have h3 : sumT ns f [n.l[m]] = (nodeT ns f (ns.getD n.l[m] nd0)).length + 3 := by simp [sumT]
    rw [List.length_append, List.length_append, h3]
    split
    · omega
    · rw [List.length_nil]
      omega
theorem headT_sum (f : Nat) (n : Nd) (hs : shapeB n = true) : (nodeT ns (f + 1) n).length ≤ max 2400 (sumT ns f n.l + 11) := by
  have k0 := kidsT_sum (ns := ns) [] (by simp) f n n.l.length (Nat.le_refl _)
  have k1 := kidsT_sum (ns := ns) [124] (by simp) f n n.l.length (Nat.le_refl _)
  rw [List.take_length] at k0 k1
  rw [nodeT_succ]
  unfold headT
  split
  · have := (setT_fit n.s).2; omega
  · split
    · have := shape_name hs
      simp
      omega
    · split
      · rename_i h5
        have q := shape_op5 hs h5
        have := (timesT_fit (lo := n.lo) (hi := n.hi) (by omega) (by omega)).2
        rw [List.length_append]
        omega
      · split
        · omega
        · split
          · omega
          · simp
theorem forest_sum (hs : Shp ns) {a b : Nat} {ks : List Nat} (h : Forest ns a b ks) : ∀ f, sumT ns f ks ≤ 3000 * (b - a) := by
  induction h with
  | nil a => intro f; simp [sumT]
  | @snoc a b c ks n h1 hn h2 ih1 ih2 =>
    intro f
    have l1 := h1.le
    have l2 := h2.le
    have q1 := ih1 f
    rw [sumT_app]
    have e : sumT ns f [c] = (nodeT ns f n).length + 3 := by simp only [sumT, List.map_cons, List.map_nil, List.sum_cons, List.sum_nil]; rw [getD_of hn]; rfl
    rw [e]
    cases f with
    | zero =>
      have : (nodeT ns 0 n).length = 0 := rfl
      omega
    | succ f =>
      have q2 := ih2 f
      have q3 := headT_sum (ns := ns) f n (hs n (List.mem_of_getElem? hn))
      omega
theorem nodeT_lt (hb : ∀ i, (∀ x ∈ (ns.getD i nd0).name, x < 256) ∧ ((ns.getD i nd0).op = 5 → (ns.getD i nd0).lo ≤ 9999 ∧ (ns.getD i nd0).hi ≤ 9999)) : ∀ (f i : Nat), ∀ x ∈ nodeT ns f (ns.getD i nd0), x < 256
  | 0, _ => by intro x hx; cases hx
  | f + 1, i => by
    have hk : ∀ j, ∀ x ∈ kidT ns f (ns.getD i nd0) j, x < 256 := fun j => (wrapT_fit (nodeT_lt hb f _)).1
    obtain ⟨h1, h2⟩ := hb i
    rw [nodeT_succ]
    intro x hx
    unfold headT at hx
    split at hx
    · exact (setT_fit _).1 x hx
    · split at hx
      · simp at hx
        rcases hx with rfl | hx | rfl
        · omega
        · exact h1 x hx
        · omega
      · split at hx
        · rename_i h5
          rcases List.mem_append.1 hx with q | q
          · exact kidsT_fit (by simp) (by simp) _ (fun j _ => hk j) x q
          · exact (timesT_fit (h2 h5).1 (h2 h5).2).1 x q
        · split at hx
          · exact kidsT_fit (by simp) (by simp) _ (fun j _ => hk j) x hx
          · split at hx
            · exact kidsT_fit (by simp) (by simp) _ (fun j _ => hk j) x hx
            · cases hx
end
/-- The nodes are this tree. -/
structure RN (gs : List Gd) (ns : List Nd) : Prop where
  gn : GN gs ns
  shp : Shp ns
  pos : 1 ≤ ns.length
  len : ns.length ≤ 1024
  tree : Forest ns 0 ns.length [ns.length - 1]
theorem RN.right {gs : List Gd} {ns : List Nd} (h : RN gs ns) : RightG gs := ⟨ns, h.gn, h.shp, h.pos, h.len, h.tree⟩
theorem shp_at {ns : List Nd} (h : Shp ns) {i : Nat} (hi : i < ns.length) : shapeB (ns.getD i nd0) = true := h _ (by rw [List.getD_eq_getElem?_getD, List.getElem?_eq_getElem hi]; exact List.getElem_mem hi)
theorem RN.lt {gs : List Gd} {ns : List Nd} (h : RN gs ns) : ∀ x ∈ treeT ns, x < 256 := by
  unfold treeT
  refine nodeT_lt (fun i => ?_) _ _
  by_cases hi : i < ns.length
  · have hg := h.gn.2 i (by rw [h.gn.1]; exact hi)
    refine ⟨fun x hx => ?_, fun h5 => ?_⟩
    · rw [← hg.nm] at hx
      exact bs_lt _ x hx
    · have := shape_op5 (shp_at h.shp hi) h5
      omega
  · have e : ns.getD i nd0 = nd0 := by rw [List.getD_eq_getElem?_getD, List.getElem?_eq_none (by omega)]; rfl
    rw [e]
    exact ⟨fun x hx => (by cases hx), fun h5 => (by cases h5)⟩
theorem RN.size {gs : List Gd} {ns : List Nd} (h : RN gs ns) : (treeT ns).length ≤ 4000000 := by
  have h1 := forest_sum h.shp h.tree ns.length
  have h2 : sumT ns ns.length [ns.length - 1] = (treeT ns).length + 3 := by simp [sumT, treeT]
  have := h.len
  omega
end Go.Proofs.Ytahhiajliomcfaa.Sy.Pn

namespace Go.Proofs.Ytahhiajliomcfaa.Sy.Pn
open Go.RowKit
set_option maxRecDepth 100000
set_option linter.unusedVariables false

/-- Two nodes whose sets have the same bytes. -/
structure NE1 (n m : Nd) : Prop where
  op : n.op = m.op
  s : ∀ b, b < 256 → n.s b = m.s b
  l : n.l = m.l
  lo : n.lo = m.lo
  hi : n.hi = m.hi
  name : n.name = m.name
theorem map_inj_int {a b : List Nat} (h : (a.map fun k : Nat => (k : Int)) = b.map fun k : Nat => (k : Int)) : a = b := by
  have := congrArg (List.map Int.toNat) h
  rwa [map_id_back, map_id_back] at this
theorem ne_of {g : Gd} {n m : Nd} (h : GN1 g n) (h' : GN1 g m) : NE1 n m :=
  ⟨by have := h.op; rw [h'.op] at this; omega, fun b hb => (h.s b hb).symm.trans (h'.s b hb), map_inj_int (h.l.symm.trans h'.l), h.lo.symm.trans h'.lo, h.hi.symm.trans h'.hi, h.nm.symm.trans h'.nm⟩
def NE (ns ms : List Nd) : Prop := ns.length = ms.length ∧ ∀ i, NE1 (ns.getD i nd0) (ms.getD i nd0)
theorem NE1.refl (n : Nd) : NE1 n n := ⟨rfl, fun _ _ => rfl, rfl, rfl, rfl, rfl⟩
theorem nes_of {gs : List Gd} {ns ms : List Nd} (h : GN gs ns) (h' : GN gs ms) : NE ns ms := by
  refine ⟨h.1.symm.trans h'.1, fun i => ?_⟩
  by_cases hi : i < gs.length
  · exact ne_of (h.2 i hi) (h'.2 i hi)
  · have e1 : ns.getD i nd0 = nd0 := by rw [List.getD_eq_getElem?_getD, List.getElem?_eq_none (by rw [← h.1]; omega)]; rfl
    have e2 : ms.getD i nd0 = nd0 := by rw [List.getD_eq_getElem?_getD, List.getElem?_eq_none (by rw [← h'.1]; omega)]; rfl
    rw [e1, e2]
    exact NE1.refl _
end Go.Proofs.Ytahhiajliomcfaa.Sy.Pn
