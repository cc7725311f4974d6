/- How a tree is printed, by chapter 5. Plain lists. -/
import Derived.Test.YtaagkfiaccmepaaPVv
import Derived.Test.YtaagkfiaccmepaaPM2
import Derived.Test.YtaagkfiaccmepaaPM1
import Derived.Test.YtaagkfiaccmepaaPM4
import Derived.Lib.Builder
import Derived.Lib.AppendStr
import Derived.Lib.UnsafeStr
import Derived.Shelf.RegionOpenPlain
import Derived.Test.YtaagkfiaccmepaaPM3
import Derived.Test.YtaagkfiaccmepaaShelf
import Derived.Lib.ItoaMem
import Derived.Lib.ItoaNum
import Derived.Lib.LaidTab
import Derived.Sort.Grow
import Derived.Test.YtaagkfiaccmepaaPRr
import Derived.BigQuiet
import Derived.Test.YtaagkfiaccmepaaPSa
import Derived.Test.YtaagkfiaccmepaaPSc
namespace Go.Proofs.Ytaagkfiaccmepaa.Sy
set_option linter.unusedVariables false

def hexD (n : Nat) : Nat := if n < 10 then 48 + n else 87 + n
/-- A byte as it stands in a pattern. -/
def byteT (c : Nat) : List Nat :=
  if c = 10 then [92, 110] else if c = 9 then [92, 116] else if c = 13 then [92, 114]
  else if c < 32 ∨ 126 < c then [92, 120, hexD (c / 16), hexD (c % 16)]
  else if specialB c || c == 45 then [92, c] else [c]
def spanT (x : Int × Int) : List Nat := if x.1 < x.2 then byteT x.1.toNat ++ 45 :: byteT x.2.toNat else byteT x.1.toNat
def spn (p : Nat → Bool) : List (Int × Int) := spansL (lstB p 256)
def eqDot (p : Nat → Bool) : Bool := (List.range 256).all fun x => p x == dotS x
/-- A set as it stands in a pattern. -/
def setT (p : Nat → Bool) : List Nat :=
  if (spn p).length = 1 ∧ ((spn p).getD 0 (0, 0)).1 = ((spn p).getD 0 (0, 0)).2 then byteT ((spn p).getD 0 (0, 0)).1.toNat
  else if eqDot p then [46] else 91 :: ((spn p).flatMap spanT ++ [93])
/-- Bounds as they stand in a pattern. -/
def timesT (lo hi : Int) : List Nat :=
  if lo = 0 ∧ hi = -1 then [42] else if lo = 1 ∧ hi = -1 then [43] else if lo = 0 ∧ hi = 1 then [63]
  else if lo = hi then 123 :: (digs lo.toNat ++ [125]) else if hi = -1 then 123 :: (digs lo.toNat ++ [44, 125]) else 123 :: (digs lo.toNat ++ 44 :: (digs hi.toNat ++ [125]))
/-- Does a kid stand in parentheses? -/
def encB (k parent : Nat) : Bool := k == 4 || ((k == 1 || k == 3) && !(parent == 4))
def wrapT (b : Bool) (t : List Nat) : List Nat := if b then 40 :: (t ++ [41]) else t
def kidsT (sep : List Nat) (g : Nat → List Nat) (n : Nat) : List Nat := (List.range n).flatMap fun i => (if 0 < i then sep else []) ++ g i
theorem kidsT_zero (sep : List Nat) (g : Nat → List Nat) : kidsT sep g 0 = [] := rfl
theorem kidsT_succ (sep : List Nat) (g : Nat → List Nat) (n : Nat) : kidsT sep g (n + 1) = kidsT sep g n ++ ((if 0 < n then sep else []) ++ g n) := by
  unfold kidsT
  rw [List.range_succ, List.flatMap_append]
  simp
theorem kidsT_len (sep : List Nat) (g : Nat → List Nat) {i n : Nat} (h : i ≤ n) : (kidsT sep g i).length ≤ (kidsT sep g n).length := by
  induction h with
  | refl => exact Nat.le_refl _
  | step _ ih => rw [kidsT_succ, List.length_append]; omega
/-- A node, by its kids' texts. -/
def headT (kid : Nat → List Nat) (n : Nd) : List Nat :=
  if n.op = 2 then setT n.s else if n.op = 6 then 123 :: (n.name ++ [125])
  else if n.op = 5 then kidsT [] kid n.l.length ++ timesT n.lo n.hi
  else if n.op = 3 then kidsT [] kid n.l.length else if n.op = 4 then kidsT [124] kid n.l.length else []
def nodeT (ns : List Nd) : Nat → Nd → List Nat
  | 0, _ => []
  | f + 1, n => headT (fun i => wrapT (encB (ns.getD (n.l.getD i 0) nd0).op n.op) (nodeT ns f (ns.getD (n.l.getD i 0) nd0))) n
def kidT (ns : List Nd) (f : Nat) (n : Nd) (i : Nat) : List Nat := wrapT (encB (ns.getD (n.l.getD i 0) nd0).op n.op) (nodeT ns f (ns.getD (n.l.getD i 0) nd0))
theorem nodeT_succ (ns : List Nd) (f : Nat) (n : Nd) : nodeT ns (f + 1) n = headT (kidT ns f n) n := rfl
/-- A tree as a pattern. -/
def treeT (ns : List Nd) : List Nat := nodeT ns ns.length (ns.getD (ns.length - 1) nd0)

/-! Bytes. -/
theorem byteT_fit : ∀ c, c < 256 → (∀ x ∈ byteT c, 32 ≤ x ∧ x ≤ 126) ∧ 1 ≤ (byteT c).length ∧ (byteT c).length ≤ 4 := by decide +kernel
theorem spn_at (p : Nat → Bool) : ∀ x ∈ spn p, 0 ≤ x.1 ∧ x.1 ≤ x.2 ∧ x.2 ≤ 255 := fun x hx => by
  obtain ⟨k, hk, e0⟩ := List.getElem_of_mem hx
  have h := span_at p k hk
  have e : (spn p).getD k (0, 0) = x := by rw [List.getD_eq_getElem?_getD, List.getElem?_eq_getElem hk, e0]; rfl
  change 0 ≤ ((spn p).getD k (0, 0)).1 ∧ ((spn p).getD k (0, 0)).1 ≤ ((spn p).getD k (0, 0)).2 ∧ ((spn p).getD k (0, 0)).2 ≤ 255 at h
  rw [e] at h
  exact h
theorem spn_len (p : Nat → Bool) : (spn p).length ≤ 256 := Nat.le_trans (spans_len _) (lst_len p 256)
theorem spanT_fit {x : Int × Int} (h0 : 0 ≤ x.1) (h1 : x.1 ≤ x.2) (h2 : x.2 ≤ 255) : (∀ y ∈ spanT x, y < 256) ∧ (spanT x).length ≤ 9 := by
  have a := byteT_fit x.1.toNat (by omega)
  have b := byteT_fit x.2.toNat (by omega)
  unfold spanT
  split
  · refine ⟨fun y hy => ?_, by simp; omega⟩
    simp only [List.mem_append, List.mem_cons] at hy
    rcases hy with h | rfl | h
    · have := a.1 y h; omega
    · omega
    · have := b.1 y h; omega
  · exact ⟨fun y hy => by have := a.1 y hy; omega, by omega⟩
theorem flat_len {α : Type} (f : α → List Nat) (m : Nat) : ∀ l : List α, (∀ x ∈ l, (f x).length ≤ m) → (l.flatMap f).length ≤ m * l.length
  | [], _ => by simp
  | x :: r, h => by
    have h1 := flat_len f m r (fun y hy => h y (by simp [hy]))
    have h2 := h x (by simp)
    simp only [List.flatMap_cons, List.length_append, List.length_cons, Nat.mul_add, Nat.mul_one]
    omega
theorem setT_fit (p : Nat → Bool) : (∀ x ∈ setT p, x < 256) ∧ (setT p).length ≤ 2400 := by
  unfold setT
  split
  · rename_i h
    have hm : (spn p).getD 0 (0, 0) ∈ spn p := by rw [List.getD_eq_getElem?_getD, List.getElem?_eq_getElem (by omega)]; exact List.getElem_mem _
    have := spn_at p _ hm
    have := byteT_fit ((spn p).getD 0 (0, 0)).1.toNat (by omega)
    exact ⟨fun x hx => by have := this.1 x hx; omega, by omega⟩
  · split
    · exact ⟨by simp, by simp⟩
    · refine ⟨fun x hx => ?_, ?_⟩
      · simp only [List.mem_cons, List.mem_append, List.mem_flatMap] at hx
        rcases hx with rfl | ⟨y, hy, hx⟩ | rfl | h
        · omega
        · have := spn_at p y hy
          exact (spanT_fit this.1 this.2.1 this.2.2).1 x hx
        · omega
        · cases h
      · have h1 := flat_len spanT 9 (spn p) (fun y hy => by have := spn_at p y hy; exact (spanT_fit this.1 this.2.1 this.2.2).2)
        have h2 := spn_len p
        rw [List.length_cons, List.length_append, List.length_singleton]
        omega
theorem digs_fit {n : Nat} (h : n ≤ 9999) : (∀ x ∈ digs n, x < 256) ∧ (digs n).length ≤ 4 := by
  refine ⟨fun x hx => ?_, digs_len h⟩
  have := (digs_all n).2.1 x hx
  unfold digitB at this
  simp at this
  omega
theorem timesT_fit {lo hi : Int} (h0 : lo ≤ 9999) (h1 : hi ≤ 9999) : (∀ x ∈ timesT lo hi, x < 256) ∧ (timesT lo hi).length ≤ 11 := by
  have a := digs_fit (n := lo.toNat) (by omega)
  have b := digs_fit (n := hi.toNat) (by omega)
  unfold timesT
  repeat' split
  all_goals refine ⟨fun x hx => ?_, by simp; try omega⟩
  all_goals simp at hx
  · omega
  · omega
  · omega
  · rcases hx with rfl | h | rfl
    · omega
    · exact a.1 x h
    · omega
  · rcases hx with rfl | h | rfl | rfl
    · omega
    · exact a.1 x h
    · omega
    · omega
  · rcases hx with rfl | h | rfl | h | rfl
    · omega
    · exact a.1 x h
    · omega
    · exact b.1 x h
    · omega
theorem setT_congr {p q : Nat → Bool} (h : ∀ b, b < 256 → p b = q b) : setT p = setT q := by
  have e1 : lstB p 256 = lstB q 256 := by
    unfold lstB
    rw [List.filter_congr (fun x hx => h x (List.mem_range.1 hx))]
  have e2 : eqDot p = eqDot q := by
    unfold eqDot
    rw [Bool.eq_iff_iff, List.all_eq_true, List.all_eq_true]
    exact ⟨fun g x hx => by rw [← h x (List.mem_range.1 hx)]; exact g x hx, fun g x hx => by rw [h x (List.mem_range.1 hx)]; exact g x hx⟩
  unfold setT spn
  rw [e1, e2]
/-! The text of a tree is no longer than its nodes' own parts together, and of bytes. -/
/-- A node's own part: all but its kids' texts. -/
theorem wrapT_fit {b : Bool} {t : List Nat} (h : ∀ x ∈ t, x < 256) : (∀ x ∈ wrapT b t, x < 256) ∧ (wrapT b t).length ≤ t.length + 2 := by
  unfold wrapT
  split
  · refine ⟨fun x hx => ?_, by simp⟩
    simp at hx
    rcases hx with rfl | hx | rfl
    · omega
    · exact h x hx
    · omega
  · exact ⟨h, by omega⟩
theorem kidsT_fit {sep : List Nat} (hs : ∀ x ∈ sep, x < 256) (h1 : sep.length ≤ 1) {g : Nat → List Nat} : ∀ n, (∀ i, i < n → ∀ x ∈ g i, x < 256) → (∀ x ∈ kidsT sep g n, x < 256)
  | 0, _ => by simp [kidsT_zero]
  | n + 1, h => fun x hx => by
    rw [kidsT_succ] at hx
    simp only [List.mem_append] at hx
    rcases hx with hx | hx | hx
    · exact kidsT_fit hs h1 n (fun i hi => h i (by omega)) x hx
    · split at hx
      · exact hs x hx
      · cases hx
    · exact h n (by omega) x hx
theorem shape_op5 {n : Nd} (h : shapeB n = true) : n.op = 5 → n.lo ≤ 4096 ∧ n.hi ≤ 4096 ∧ 0 ≤ n.lo ∧ (n.hi = -1 ∨ n.lo ≤ n.hi) := by
  intro h5
  unfold shapeB at h
  rw [h5] at h
  simp at h
  omega
theorem shape_name {n : Nd} (h : shapeB n = true) : n.name.length ≤ 32 := by
  unfold shapeB at h
  repeat' split at h
  all_goals simp [nameB] at h
  all_goals (try (obtain ⟨⟨⟨_, h⟩, _⟩, _⟩ := h))
  all_goals (try (obtain ⟨⟨_, h⟩, _⟩ := h))
  all_goals (try (obtain ⟨_, h⟩ := h))
  all_goals (first | omega | simp_all)
end Go.Proofs.Ytaagkfiaccmepaa.Sy

namespace Go.Proofs.Ytaagkfiaccmepaa.Sy
open Go.RowKit
set_option maxRecDepth 100000
set_option linter.unusedVariables false

/-- Bytes as cells. -/
def n8 (l : List Nat) : List Value := l.map fun x : Nat => Value.int .u8 (x : Int)
/-- The text of some bytes. -/
def txt (l : List Nat) : ByteArray := ⟨(l.map UInt8.ofNat).toArray⟩
theorem bs_txt {l : List Nat} (h : ∀ x ∈ l, x < 256) : bs (txt l) = l := by
  simp only [bs, txt, List.map_map]
  conv => rhs; rw [← List.map_id l]
  refine List.map_congr_left fun x hx => ?_
  have := h x hx
  simp only [Function.comp, id]
  rw [UInt8.toNat_ofNat']
  omega
theorem txt_of {b : ByteArray} {l : List Nat} (h : bs b = l) : b = txt l := by
  refine bs_inj ?_
  rw [bs_txt (fun x hx => by rw [← h] at hx; exact bs_lt b x hx), h]
/-- The bytes of a Builder: a row of its own, in no block of its struct. -/
structure Buf (w : World) (B b : Nat) (v : Value) (t : List Nat) : Prop where
  own : w.ownsRow B 5 1 v t.length (n8 t)
  far : v.ownBlock ≠ some b
  nil : t = [] → v = .slice none 0 0
theorem Buf.keep {w w' : World} {B b : Nat} {v : Value} {t : List Nat} (h : Buf w B b v t) {row : Option Nat} (hg : w.grownBy w' row) (hr : v.ownBlock ≠ row) : Buf w' B b v t :=
  ⟨h.own.kept hg (.inr hr), h.far, h.nil⟩
theorem mixed_ : Try.prog.follows Departure.mixedOrders = true := by kernel_rfl
end Go.Proofs.Ytaagkfiaccmepaa.Sy

namespace Go.Proofs.Ytaagkfiaccmepaa.Sy
open Go.RowKit
set_option maxRecDepth 100000
set_option linter.unusedVariables false

/-- A text comes back, and memory is as it was. -/
def TxtR (t : List Nat) (w : World) (e : Ending) (w' : World) : Prop := ∃ b, e = .returned (.string b) ∧ bs b = t ∧ Below w.heap.size w w'
abbrev digitsA : ByteArray := { data := #[48, 49, 50, 51, 52, 53, 54, 55, 56, 57, 97, 98, 99, 100, 101, 102] }
theorem hex_at : ∀ n : Nat, n < 16 → (bs digitsA)[n]? = some (hexD n) := by decide
theorem hex_at2 (n : Nat) (h : n < 16) : at_ (bs digitsA) n = hexD n := by
  have := hex_at n h
  unfold at_
  rw [List.getD_eq_getElem?_getD, this]
  rfl
abbrev marksA : ByteArray := { data := #[124, 42, 43, 63, 123, 125, 40, 41, 91, 93, 46, 92, 47, 36, 94, 34, 45] }
theorem pmarks_has : ∀ c : Nat, c < 256 → (bs marksA).contains c = (specialB c || c == 45) := by decide +kernel
/-- (This program has no such table.) -/
def TV (w : World) : Prop := True
theorem TV.below {w w' : World} (h : TV w) (hb : Below w.heap.size w w') : TV w' := trivial
end Go.Proofs.Ytaagkfiaccmepaa.Sy

namespace Go.Proofs.Ytaagkfiaccmepaa.Sy
open Go.RowKit
set_option maxRecDepth 100000
set_option linter.unusedVariables false

theorem eqB_iff (p q : Nat → Bool) : eqB p q = true ↔ ∀ b, b < 256 → p b = q b := by
  refine ⟨fun h b hb => ?_, eqB_true⟩
  unfold eqB at h
  obtain ⟨h0, h1, h2, h3⟩ := of_decide_eq_true h
  have hb' : b = 64 * (b / 64) + b % 64 := by omega
  have hm : b % 64 < 64 := Nat.mod_lt _ (by omega)
  have hq : b / 64 = 0 ∨ b / 64 = 1 ∨ b / 64 = 2 ∨ b / 64 = 3 := by omega
  rw [hb']
  rcases hq with e | e | e | e <;> rw [e]
  · exact W_inj h0 _ hm
  · exact W_inj h1 _ hm
  · exact W_inj h2 _ hm
  · exact W_inj h3 _ hm
theorem eqDot_eq (p : Nat → Bool) : eqB p (notB (inB [10])) = eqDot p := by
  rw [Bool.eq_iff_iff, eqB_iff]
  unfold eqDot
  rw [List.all_eq_true]
  have e : ∀ x, notB (inB [10]) x = dotS x := fun x => by simp [notB, inB, dotS]
  constructor
  · intro h x hx
    rw [h x (List.mem_range.1 hx), e]
    simp
  · intro h b hb
    have := h b (List.mem_range.2 hb)
    rw [e]
    simpa using this
/-- A row of one byte. -/
def By (xs : List Int) (v : Value) (u : World) : Prop := ∃ A c, v = .slice A xs.length c ∧ Bts u u.heap.size A xs
theorem By.below {xs : List Int} {v : Value} {u u' : World} (h : By xs v u) (hb : Below u.heap.size u u') : By xs v u' := by
  obtain ⟨A, c, e, hB⟩ := h
  exact ⟨A, c, e, (hB.below hb).more hb.size⟩
theorem By.one (c : Int) (h0 : 0 ≤ c) (h1 : c ≤ 255) (u : World) : By [c] (.slice (some ⟨u.heap.size, 0, none⟩) 1 1) (u.alloc (.cells #[.int .u8 c] 5)) := ⟨_, 1, rfl, bts_one u c h0 h1⟩
structure SdS (w : World) (g : Nat) (p : Nat → Bool) (u : World) : Prop where
  box : Row4 u g p
  bel : Below w.heap.size w u
theorem SdS.below {w : World} {g : Nat} {p : Nat → Bool} {u u' : World} (h : SdS w g p u) (hb : Below u.heap.size u u') : SdS w g p u' := ⟨h.box.below hb h.box.lt, h.bel.trans (hb.mono h.bel.size)⟩
end Go.Proofs.Ytaagkfiaccmepaa.Sy

namespace Go.Proofs.Ytaagkfiaccmepaa.Sy.Pn
open Go.RowKit
set_option maxRecDepth 100000
set_option linter.unusedVariables false

def Eb (_ : Option Nat) (u u' : World) : Prop := Below u.heap.size u u'
theorem eby {d : Option Nat} {u u' : World} (_ : true = true) (h : Below u.heap.size u u') : Eb d u u' := h
/-- A node's box, the printer's nodes; the rest is as it was. -/
structure PnS (w0 : World) (b q : Nat) (nv : Value) (cs : Array Value) (u : World) : Prop where
  box : RowA u q 39 cs
  nds : u.cell? ⟨b, 0, none⟩ = some nv
  bel : Below w0.heap.size w0 u
theorem cell_lt {u : World} {p : Addr} {v : Value} (h : u.cell? p = some v) : p.block < u.heap.size := World.block_lt_of_cell? u p h
theorem PnS.below {w0 : World} {b q : Nat} {nv : Value} {cs : Array Value} {u u' : World} (h : PnS w0 b q nv cs u) (hb : Below u.heap.size u u') : PnS w0 b q nv cs u' :=
  ⟨h.box.below hb h.box.lt, (hb.cell (p := ⟨b, 0, none⟩) (cell_lt h.nds)).trans h.nds, h.bel.trans (hb.mono h.bel.size)⟩
section
variable {nv : Value} {w w' : World} {B b : Nat} {v v' : Value} {t : List Nat}
end

/-- What a printer works with. -/
structure Env (W0 : World) (B b N : Nat) (A : Option Addr) (gs : List Gd) (ns : List Nd) : Prop where
  base : B = W0.heap.size
  bb : B ≤ b
  nds : Nds W0 B A gs
  gn : GN gs ns
  len : gs.length = N
  small : N ≤ 2000
  tv : TV W0
  kids : ∀ i, i < N → ∀ k ∈ (ns.getD i nd0).l, k < i
  shp : ∀ i, i < N → shapeB (ns.getD i nd0) = true
  lens : ∀ g ∈ gs, g.nm.size ≤ 1000 ∧ g.l.length ≤ 100000000
theorem range9 {u : World} {g o : Nat} {x : Gd} {Ax : Option Addr} {cx : Nat} (r : u.rangeAt g o (gdL x Ax cx)) :
    u.cell? ⟨g, o, none⟩ = some (.int .u8 x.op) ∧ u.cell? ⟨g, o + 1, none⟩ = some (.int .u64 (W x.s 0)) ∧ u.cell? ⟨g, o + 2, none⟩ = some (.int .u64 (W x.s 1)) ∧ u.cell? ⟨g, o + 3, none⟩ = some (.int .u64 (W x.s 2)) ∧ u.cell? ⟨g, o + 4, none⟩ = some (.int .u64 (W x.s 3)) ∧
    u.cell? ⟨g, o + 5, none⟩ = some (.slice Ax x.l.length cx) ∧ u.cell? ⟨g, o + 6, none⟩ = some (.int .i64 x.lo) ∧ u.cell? ⟨g, o + 7, none⟩ = some (.int .i64 x.hi) ∧ u.cell? ⟨g, o + 8, none⟩ = some (.string x.nm) :=
  ⟨r 0 _ rfl, r 1 _ rfl, r 2 _ rfl, r 3 _ rfl, r 4 _ rfl, r 5 _ rfl, r 6 _ rfl, r 7 _ rfl, r 8 _ rfl⟩
section
variable {W0 : World} {B b N c : Nat} {A : Option Addr} {gs : List Gd} {ns : List Nd}
theorem node_at (E : Env W0 B b N A gs ns) {a : Nat} (ha : a < N) : GN1 (gs.getD a gd0) (ns.getD a nd0) := E.gn.2 a (by rw [E.len]; exact ha)
theorem own_fr {w w' : World} {b q : Nat} {v v' : Value} (f : Fr b v v' w w') (hq : q < w.heap.size) (h2 : v.ownBlock ≠ some q) : v'.ownBlock ≠ some q := fun e => by
  rcases f.own q e with h | h
  · exact h2 h
  · omega

end
end Go.Proofs.Ytaagkfiaccmepaa.Sy.Pn

namespace Go.Proofs.Ytaagkfiaccmepaa.Sy.Pn
open Go.RowKit
set_option maxRecDepth 100000
set_option linter.unusedVariables false

def Sx (t : List Nat) (v : Value) (_ : World) : Prop := ∃ s, v = .string s ∧ bs s = t
section
variable {W0 : World} {B b N c : Nat} {A : Option Addr} {gs : List Gd} {ns : List Nd}
end
end Go.Proofs.Ytaagkfiaccmepaa.Sy.Pn
