/- A strings.Builder: alone, and as a field of the printer. -/
import Derived.Test.YtdaaigkmlbpbgaaPM4
import Derived.Test.YtdaaigkmlbpbgaaPM2
import Derived.Lib.Builder
import Derived.Lib.AppendStr
import Derived.Lib.UnsafeStr
import Derived.Shelf.RegionOpenPlain
import Derived.Test.YtdaaigkmlbpbgaaPDa
import Derived.Test.YtdaaigkmlbpbgaaPM3
import Derived.Test.YtdaaigkmlbpbgaaShelf
import Derived.Lib.ItoaMem
import Derived.Lib.ItoaNum
import Derived.Lib.LaidTab
import Derived.Sort.Grow
import Derived.Test.YtdaaigkmlbpbgaaPM1
import Derived.Test.YtdaaigkmlbpbgaaPRr
import Derived.BigQuiet
import Derived.Test.YtdaaigkmlbpbgaaPSa
import Derived.Test.YtdaaigkmlbpbgaaPSc
import Derived.Test.YtdaaigkmlbpbgaaPHg
namespace Go.Proofs.Ytdaaigkmlbpbgaa.Sy
open Go.RowKit
set_option maxRecDepth 100000
set_option linter.unusedVariables false

/-- Bytes as cells. -/
def n8 (l : List Nat) : List Value := l.map fun x : Nat => Value.int .u8 (x : Int)
/-- The text of some bytes. -/
def txt (l : List Nat) : ByteArray := ⟨(l.map UInt8.ofNat).toArray⟩
theorem bs_txt {l : List Nat} (h : ∀ x ∈ l, x < 256) : bs (txt l) = l := by
  simp only [bs, txt, List.map_map]
  conv => rhs; rw [← List.map_id l]
  refine List.map_congr_left fun x hx => ?_
  have := h x hx
  simp only [Function.comp, id]
  rw [UInt8.toNat_ofNat']
  omega
theorem txt_of {b : ByteArray} {l : List Nat} (h : bs b = l) : b = txt l := by
  refine bs_inj ?_
  rw [bs_txt (fun x hx => by rw [← h] at hx; exact bs_lt b x hx), h]
/-- The bytes of a Builder: a row of its own, in no block of its struct. -/
structure Buf (w : World) (B b : Nat) (v : Value) (t : List Nat) : Prop where
  own : w.ownsRow B 5 1 v t.length (n8 t)
  far : v.ownBlock ≠ some b
  nil : t = [] → v = .slice none 0 0
theorem Buf.keep {w w' : World} {B b : Nat} {v : Value} {t : List Nat} (h : Buf w B b v t) {row : Option Nat} (hg : w.grownBy w' row) (hr : v.ownBlock ≠ row) : Buf w' B b v t :=
  ⟨h.own.kept hg (.inr hr), h.far, h.nil⟩
theorem mixed_ : Try.prog.follows Departure.mixedOrders = true := by kernel_rfl
end Go.Proofs.Ytdaaigkmlbpbgaa.Sy

namespace Go.Proofs.Ytdaaigkmlbpbgaa.Sy
open Go.RowKit
set_option maxRecDepth 100000
set_option linter.unusedVariables false

/-- A text comes back, and memory is as it was. -/
def TxtR (t : List Nat) (w : World) (e : Ending) (w' : World) : Prop := ∃ b, e = .returned (.string b) ∧ bs b = t ∧ Below w.heap.size w w'
abbrev digitsA : ByteArray := { data := #[48, 49, 50, 51, 52, 53, 54, 55, 56, 57, 97, 98, 99, 100, 101, 102] }
theorem hex_at : ∀ n : Nat, n < 16 → (bs digitsA)[n]? = some (hexD n) := by decide
theorem hex_at2 (n : Nat) (h : n < 16) : at_ (bs digitsA) n = hexD n := by
  have := hex_at n h
  unfold at_
  rw [List.getD_eq_getElem?_getD, this]
  rfl
abbrev marksA : ByteArray := { data := #[124, 42, 43, 63, 123, 125, 40, 41, 91, 93, 46, 92, 47, 36, 94, 34, 45] }
theorem pmarks_has : ∀ c : Nat, c < 256 → (bs marksA).contains c = (specialB c || c == 45) := by decide +kernel
/-- (This program has no such table.) -/
def TV (w : World) : Prop := True
theorem TV.below {w w' : World} (h : TV w) (hb : Below w.heap.size w w') : TV w' := trivial
end Go.Proofs.Ytdaaigkmlbpbgaa.Sy

namespace Go.Proofs.Ytdaaigkmlbpbgaa.Sy
open Go.RowKit
set_option maxRecDepth 100000
set_option linter.unusedVariables false

theorem eqB_iff (p q : Nat → Bool) : eqB p q = true ↔ ∀ b, b < 256 → p b = q b := by
  refine ⟨fun h b hb => ?_, eqB_true⟩
  unfold eqB at h
  obtain ⟨h0, h1, h2, h3⟩ := of_decide_eq_true h
  have hb' : b = 64 * (b / 64) + b % 64 := by omega
  have hm : b % 64 < 64 := Nat.mod_lt _ (by omega)
  have hq : b / 64 = 0 ∨ b / 64 = 1 ∨ b / 64 = 2 ∨ b / 64 = 3 := by omega
  rw [hb']
  rcases hq with e | e | e | e <;> rw [e]
  · exact W_inj h0 _ hm
  · exact W_inj h1 _ hm
  · exact W_inj h2 _ hm
  · exact W_inj h3 _ hm
theorem eqDot_eq (p : Nat → Bool) : eqB p (notB (inB [10])) = eqDot p := by
  rw [Bool.eq_iff_iff, eqB_iff]
  unfold eqDot
  rw [List.all_eq_true]
  have e : ∀ x, notB (inB [10]) x = dotS x := fun x => by simp [notB, inB, dotS]
  constructor
  · intro h x hx
    rw [h x (List.mem_range.1 hx), e]
    simp
  · intro h b hb
    have := h b (List.mem_range.2 hb)
    rw [e]
    simpa using this
/-- A row of one byte. -/
def By (xs : List Int) (v : Value) (u : World) : Prop := ∃ A c, v = .slice A xs.length c ∧ Bts u u.heap.size A xs
theorem By.below {xs : List Int} {v : Value} {u u' : World} (h : By xs v u) (hb : Below u.heap.size u u') : By xs v u' := by
  obtain ⟨A, c, e, hB⟩ := h
  exact ⟨A, c, e, (hB.below hb).more hb.size⟩
theorem By.one (c : Int) (h0 : 0 ≤ c) (h1 : c ≤ 255) (u : World) : By [c] (.slice (some ⟨u.heap.size, 0, none⟩) 1 1) (u.alloc (.cells #[.int .u8 c] 5)) := ⟨_, 1, rfl, bts_one u c h0 h1⟩
structure SdS (w : World) (g : Nat) (p : Nat → Bool) (u : World) : Prop where
  box : Row4 u g p
  bel : Below w.heap.size w u
theorem SdS.below {w : World} {g : Nat} {p : Nat → Bool} {u u' : World} (h : SdS w g p u) (hb : Below u.heap.size u u') : SdS w g p u' := ⟨h.box.below hb h.box.lt, h.bel.trans (hb.mono h.bel.size)⟩
end Go.Proofs.Ytdaaigkmlbpbgaa.Sy

namespace Go.Proofs.Ytdaaigkmlbpbgaa.Sy.Pn
open Go.RowKit
set_option maxRecDepth 100000
set_option linter.unusedVariables false

def Eb (_ : Option Nat) (u u' : World) : Prop := Below u.heap.size u u'
theorem eby {d : Option Nat} {u u' : World} (_ : true = true) (h : Below u.heap.size u u') : Eb d u u' := h
/-- A node's box, the printer's nodes; the rest is as it was. -/
structure PnS (w0 : World) (b q : Nat) (nv : Value) (cs : Array Value) (u : World) : Prop where
  box : RowA u q 38 cs
  nds : u.cell? ⟨b, 0, none⟩ = some nv
  bel : Below w0.heap.size w0 u
theorem cell_lt {u : World} {p : Addr} {v : Value} (h : u.cell? p = some v) : p.block < u.heap.size := World.block_lt_of_cell? u p h
theorem PnS.below {w0 : World} {b q : Nat} {nv : Value} {cs : Array Value} {u u' : World} (h : PnS w0 b q nv cs u) (hb : Below u.heap.size u u') : PnS w0 b q nv cs u' :=
  ⟨h.box.below hb h.box.lt, (hb.cell (p := ⟨b, 0, none⟩) (cell_lt h.nds)).trans h.nds, h.bel.trans (hb.mono h.bel.size)⟩
section
variable {nv : Value} {w w' : World} {B b : Nat} {v v' : Value} {t : List Nat}
end

/-- What a printer works with. -/
structure Env (W0 : World) (B b N : Nat) (A : Option Addr) (gs : List Gd) (ns : List Nd) : Prop where
  base : B = W0.heap.size
  bb : B ≤ b
  nds : Nds W0 B A gs
  gn : GN gs ns
  len : gs.length = N
  small : N ≤ 2000
  tv : TV W0
  kids : ∀ i, i < N → ∀ k ∈ (ns.getD i nd0).l, k < i
  shp : ∀ i, i < N → shapeB (ns.getD i nd0) = true
  lens : ∀ g ∈ gs, g.nm.size ≤ 1000 ∧ g.l.length ≤ 100000000
theorem range9 {u : World} {g o : Nat} {x : Gd} {Ax : Option Addr} {cx : Nat} (r : u.rangeAt g o (gdL x Ax cx)) :
    u.cell? ⟨g, o, none⟩ = some (.int .u8 x.op) ∧ u.cell? ⟨g, o + 1, none⟩ = some (.int .u64 (W x.s 0)) ∧ u.cell? ⟨g, o + 2, none⟩ = some (.int .u64 (W x.s 1)) ∧ u.cell? ⟨g, o + 3, none⟩ = some (.int .u64 (W x.s 2)) ∧ u.cell? ⟨g, o + 4, none⟩ = some (.int .u64 (W x.s 3)) ∧
    u.cell? ⟨g, o + 5, none⟩ = some (.slice Ax x.l.length cx) ∧ u.cell? ⟨g, o + 6, none⟩ = some (.int .i64 x.lo) ∧ u.cell? ⟨g, o + 7, none⟩ = some (.int .i64 x.hi) ∧ u.cell? ⟨g, o + 8, none⟩ = some (.string x.nm) :=
  ⟨r 0 _ rfl, r 1 _ rfl, r 2 _ rfl, r 3 _ rfl, r 4 _ rfl, r 5 _ rfl, r 6 _ rfl, r 7 _ rfl, r 8 _ rfl⟩
section
variable {W0 : World} {B b N c : Nat} {A : Option Addr} {gs : List Gd} {ns : List Nd}
theorem node_at (E : Env W0 B b N A gs ns) {a : Nat} (ha : a < N) : GN1 (gs.getD a gd0) (ns.getD a nd0) := E.gn.2 a (by rw [E.len]; exact ha)
theorem own_fr {w w' : World} {b q : Nat} {v v' : Value} (f : Fr b v v' w w') (hq : q < w.heap.size) (h2 : v.ownBlock ≠ some q) : v'.ownBlock ≠ some q := fun e => by
  rcases f.own q e with h | h
  · exact h2 h
  · omega

end
end Go.Proofs.Ytdaaigkmlbpbgaa.Sy.Pn

namespace Go.Proofs.Ytdaaigkmlbpbgaa.Sy.Pn
open Go.RowKit
set_option maxRecDepth 100000
set_option linter.unusedVariables false

def Sx (t : List Nat) (v : Value) (_ : World) : Prop := ∃ s, v = .string s ∧ bs s = t
section
variable {W0 : World} {B b N c : Nat} {A : Option Addr} {gs : List Gd} {ns : List Nd}
end
end Go.Proofs.Ytdaaigkmlbpbgaa.Sy.Pn

namespace Go.Proofs.Ytdaaigkmlbpbgaa.Sy.Pn
open Go.RowKit
set_option maxRecDepth 100000
set_option linter.unusedVariables false

section
variable {ns : List Nd}
theorem forest_mem {a b : Nat} {ks : List Nat} (h : Forest ns a b ks) : ∀ k ∈ ks, a ≤ k ∧ k < b := by
  induction h with
  | nil a => intro k hk; cases hk
  | @snoc a b c ks n h1 hn h2 ih1 ih2 =>
    intro k hk
    have := h1.le
    have := h2.le
    rcases List.mem_append.1 hk with q | q
    · have := ih1 k q; omega
    · obtain rfl := List.mem_singleton.1 q
      omega
theorem forest_len {a b : Nat} {ks : List Nat} (h : Forest ns a b ks) : ks.length ≤ b - a := by
  induction h with
  | nil a => simp
  | @snoc a b c ks n h1 hn h2 ih1 ih2 =>
    have := h1.le
    have := h2.le
    rw [List.length_append, List.length_singleton]
    omega
theorem forest_kids {a b : Nat} {ks : List Nat} (h : Forest ns a b ks) : ∀ i, a ≤ i → i < b → ∃ n e, ns[i]? = some n ∧ Forest ns e i n.l := by
  induction h with
  | nil a => intro i h1 h2; omega
  | @snoc a b c ks n h1 hn h2 ih1 ih2 =>
    intro i h3 h4
    by_cases q : i < b
    · exact ih1 i h3 q
    · by_cases r : i < c
      · exact ih2 i (by omega) r
      · obtain rfl : i = c := by omega
        exact ⟨n, b, hn, h2⟩
theorem getD_of {i : Nat} {n : Nd} (h : ns[i]? = some n) : ns.getD i nd0 = n := by rw [List.getD_eq_getElem?_getD, h]; rfl
/-- How long the texts of some nodes are together, each with three bytes more. -/
def sumT (ns : List Nd) (f : Nat) (ks : List Nat) : Nat := (ks.map fun k => (nodeT ns f (ns.getD k nd0)).length + 3).sum
theorem sumT_app (f : Nat) (xs ys : List Nat) : sumT ns f (xs ++ ys) = sumT ns f xs + sumT ns f ys := by simp [sumT]
theorem kidsT_sum (sep : List Nat) (hs : sep.length ≤ 1) (f : Nat) (n : Nd) : ∀ m, m ≤ n.l.length → (kidsT sep (kidT ns f n) m).length ≤ sumT ns f (n.l.take m)
  | 0, _ => by simp [kidsT_zero]
  | m + 1, h => by
    have h1 := kidsT_sum sep hs f n m (by omega)
    rw [kidsT_succ, List.take_succ_eq_append_getElem (by omega), sumT_app]
    have e : n.l.getD m 0 = n.l[m] := by rw [List.getD_eq_getElem?_getD, List.getElem?_eq_getElem (by omega)]; rfl
    have h2 : (kidT ns f n m).length ≤ (nodeT ns f (ns.getD n.l[m] nd0)).length + 2 := by
      unfold kidT
      rw [e]
      unfold wrapT
      split <;> simp
    have h3 : sumT ns f [n.l[m]] = (nodeT ns f (ns.getD n.l[m] nd0)).length + 3 := by simp [sumT]
    rw [List.length_append, List.length_append, h3]
    split
    · omega
    · rw [List.length_nil]
      omega
theorem headT_sum (f : Nat) (n : Nd) (hs : shapeB n = true) : (nodeT ns (f + 1) n).length ≤ max 2400 (sumT ns f n.l + 11) := by
  have k0 := kidsT_sum (ns := ns) [] (by simp) f n n.l.length (Nat.le_refl _)
  have k1 := kidsT_sum (ns := ns) [124] (by simp) f n n.l.length (Nat.le_refl _)
  rw [List.take_length] at k0 k1
  rw [nodeT_succ]
  unfold headT
  split
  · have := (setT_fit n.s).2; omega
  · split
    · have := shape_name hs
      simp
      omega
    · split
      · rename_i h5
        have q := shape_op5 hs h5
        have := (timesT_fit (lo := n.lo) (hi := n.hi) (by omega) (by omega)).2
        rw [List.length_append]
        omega
      · split
        · omega
        · split
          · omega
          · simp
theorem forest_sum (hs : Shp ns) {a b : Nat} {ks : List Nat} (h : Forest ns a b ks) : ∀ f, sumT ns f ks ≤ 3000 * (b - a) := by
  induction h with
  | nil a => intro f; simp [sumT]
  | @snoc a b c ks n h1 hn h2 ih1 ih2 =>
    intro f
    have l1 := h1.le
    have l2 := h2.le
    have q1 := ih1 f
    rw [sumT_app]
    have e : sumT ns f [c] = (nodeT ns f n).length + 3 := by simp only [sumT, List.map_cons, List.map_nil, List.sum_cons, List.sum_nil]; rw [getD_of hn]; rfl
    rw [e]
    cases f with
    | zero =>
      have : (nodeT ns 0 n).length = 0 := rfl
      omega
    | succ f =>
      have q2 := ih2 f
      have q3 := headT_sum (ns := ns) f n (hs n (List.mem_of_getElem? hn))
      omega
theorem nodeT_lt (hb : ∀ i, (∀ x ∈ (ns.getD i nd0).name, x < 256) ∧ ((ns.getD i nd0).op = 5 → (ns.getD i nd0).lo ≤ 9999 ∧ (ns.getD i nd0).hi ≤ 9999)) : ∀ (f i : Nat), ∀ x ∈ nodeT ns f (ns.getD i nd0), x < 256
  | 0, _ => by intro x hx; cases hx
  | f + 1, i => by
    have hk : ∀ j, ∀ x ∈ kidT ns f (ns.getD i nd0) j, x < 256 := fun j => (wrapT_fit (nodeT_lt hb f _)).1
    obtain ⟨h1, h2⟩ := hb i
    rw [nodeT_succ]
    intro x hx
    unfold headT at hx
    split at hx
    · exact (setT_fit _).1 x hx
    · split at hx
      · simp at hx
        rcases hx with rfl | hx | rfl
        · omega
        · exact h1 x hx
        · omega
      · split at hx
        · rename_i h5
          rcases List.mem_append.1 hx with q | q
          · exact kidsT_fit (by simp) (by simp) _ (fun j _ => hk j) x q
          · exact (timesT_fit (h2 h5).1 (h2 h5).2).1 x q
        · split at hx
          · exact kidsT_fit (by simp) (by simp) _ (fun j _ => hk j) x hx
          · split at hx
            · exact kidsT_fit (by simp) (by simp) _ (fun j _ => hk j) x hx
            · cases hx
end
/-- The nodes are this tree. -/
structure RN (gs : List Gd) (ns : List Nd) : Prop where
  gn : GN gs ns
  shp : Shp ns
  pos : 1 ≤ ns.length
  len : ns.length ≤ 1024
  tree : Forest ns 0 ns.length [ns.length - 1]
theorem rn_of {gs : List Gd} (h : RightG gs) : ∃ ns, RN gs ns := by
  obtain ⟨ns, h1, h2, h3, h4, h5⟩ := h
  exact ⟨ns, h1, h2, h3, h4, h5⟩
theorem RN.right {gs : List Gd} {ns : List Nd} (h : RN gs ns) : RightG gs := ⟨ns, h.gn, h.shp, h.pos, h.len, h.tree⟩
theorem shp_at {ns : List Nd} (h : Shp ns) {i : Nat} (hi : i < ns.length) : shapeB (ns.getD i nd0) = true := h _ (by rw [List.getD_eq_getElem?_getD, List.getElem?_eq_getElem hi]; exact List.getElem_mem hi)
theorem RN.lt {gs : List Gd} {ns : List Nd} (h : RN gs ns) : ∀ x ∈ treeT ns, x < 256 := by
  unfold treeT
  refine nodeT_lt (fun i => ?_) _ _
  by_cases hi : i < ns.length
  · have hg := h.gn.2 i (by rw [h.gn.1]; exact hi)
    refine ⟨fun x hx => ?_, fun h5 => ?_⟩
    · rw [← hg.nm] at hx
      exact bs_lt _ x hx
    · have := shape_op5 (shp_at h.shp hi) h5
      omega
  · have e : ns.getD i nd0 = nd0 := by rw [List.getD_eq_getElem?_getD, List.getElem?_eq_none (by omega)]; rfl
    rw [e]
    exact ⟨fun x hx => (by cases hx), fun h5 => (by cases h5)⟩
theorem RN.size {gs : List Gd} {ns : List Nd} (h : RN gs ns) : (treeT ns).length ≤ 4000000 := by
  have h1 := forest_sum h.shp h.tree ns.length
  have h2 : sumT ns ns.length [ns.length - 1] = (treeT ns).length + 3 := by simp [sumT, treeT]
  have := h.len
  omega
theorem env_of {gs : List Gd} {ns : List Nd} (h : RN gs ns) {W0 : World} {b : Nat} {A : Option Addr} (hb : W0.heap.size ≤ b) (hN : Nds W0 W0.heap.size A gs) (hT : TV W0) : Env W0 W0.heap.size b gs.length A gs ns := by
  have hl := h.gn.1
  refine ⟨rfl, hb, hN, h.gn, rfl, by have := h.len; omega, hT, fun i hi k hk => ?_, fun i hi => shp_at h.shp (by omega), fun g hg => ?_⟩
  · obtain ⟨n, e, hn, hF⟩ := forest_kids h.tree i (Nat.zero_le _) (by omega)
    rw [getD_of hn] at hk
    exact (forest_mem hF k hk).2
  · obtain ⟨i, hi, rfl⟩ := List.getElem_of_mem hg
    have e1 : gs[i] = gs.getD i gd0 := by rw [List.getD_eq_getElem?_getD, List.getElem?_eq_getElem hi]; rfl
    have hg := h.gn.2 i hi
    have hs := shape_name (shp_at h.shp (i := i) (by omega))
    obtain ⟨n, e, hn, hF⟩ := forest_kids h.tree i (Nat.zero_le _) (by omega)
    have := forest_len hF
    rw [e1]
    refine ⟨?_, ?_⟩
    · rw [← bs_len, hg.nm]; omega
    · rw [hg.l, List.length_map, getD_of hn]
      have := h.len
      omega
/-- What Tree tells. -/
def TreeR (gs : List Gd) (w : World) (e : Ending) (w' : World) : Prop :=
  ((∃ ns, RN gs ns ∧ e = .returned (.tuple #[.string (txt (treeT ns)), .bool true])) ∨ (¬ RightG gs ∧ e = .returned (.tuple #[.string { data := #[] }, .bool false]))) ∧ Below w.heap.size w w'
end Go.Proofs.Ytdaaigkmlbpbgaa.Sy.Pn

namespace Go.Proofs.Ytdaaigkmlbpbgaa.Sy.Pn
open Go.RowKit
set_option maxRecDepth 100000
set_option linter.unusedVariables false

/-- Two nodes whose sets have the same bytes. -/
structure NE1 (n m : Nd) : Prop where
  op : n.op = m.op
  s : ∀ b, b < 256 → n.s b = m.s b
  l : n.l = m.l
  lo : n.lo = m.lo
  hi : n.hi = m.hi
  name : n.name = m.name
theorem map_inj_int {a b : List Nat} (h : (a.map fun k : Nat => (k : Int)) = b.map fun k : Nat => (k : Int)) : a = b := by
  have := congrArg (List.map Int.toNat) h
  rwa [map_id_back, map_id_back] at this
theorem ne_of {g : Gd} {n m : Nd} (h : GN1 g n) (h' : GN1 g m) : NE1 n m :=
  ⟨by have := h.op; rw [h'.op] at this; omega, fun b hb => (h.s b hb).symm.trans (h'.s b hb), map_inj_int (h.l.symm.trans h'.l), h.lo.symm.trans h'.lo, h.hi.symm.trans h'.hi, h.nm.symm.trans h'.nm⟩
def NE (ns ms : List Nd) : Prop := ns.length = ms.length ∧ ∀ i, NE1 (ns.getD i nd0) (ms.getD i nd0)
theorem NE1.refl (n : Nd) : NE1 n n := ⟨rfl, fun _ _ => rfl, rfl, rfl, rfl, rfl⟩
theorem nes_of {gs : List Gd} {ns ms : List Nd} (h : GN gs ns) (h' : GN gs ms) : NE ns ms := by
  refine ⟨h.1.symm.trans h'.1, fun i => ?_⟩
  by_cases hi : i < gs.length
  · exact ne_of (h.2 i hi) (h'.2 i hi)
  · have e1 : ns.getD i nd0 = nd0 := by rw [List.getD_eq_getElem?_getD, List.getElem?_eq_none (by rw [← h.1]; omega)]; rfl
    have e2 : ms.getD i nd0 = nd0 := by rw [List.getD_eq_getElem?_getD, List.getElem?_eq_none (by rw [← h'.1]; omega)]; rfl
    rw [e1, e2]
    exact NE1.refl _
theorem headT_congr {n m : Nd} (h : NE1 n m) {f g : Nat → List Nat} (hf : f = g) : headT f n = headT g m := by
  subst hf
  unfold headT
  rw [h.op, h.l, h.lo, h.hi, h.name, setT_congr h.s]
theorem nodeT_congr {ns ms : List Nd} (h : NE ns ms) : ∀ (f : Nat) (n m : Nd), NE1 n m → nodeT ns f n = nodeT ms f m
  | 0, _, _, _ => rfl
  | f + 1, n, m, hn => by
    rw [nodeT_succ, nodeT_succ]
    refine headT_congr hn ?_
    funext i
    unfold kidT
    have h1 := h.2 (m.l.getD i 0)
    rw [hn.l, hn.op, h1.op, nodeT_congr h f _ _ h1]
theorem treeT_congr {ns ms : List Nd} (h : NE ns ms) : treeT ns = treeT ms := by
  unfold treeT
  rw [h.1]
  exact nodeT_congr h _ _ _ (h.2 _)
theorem setT_one : ∀ c, c < 256 → setT (oneS c) = byteT c := by decide +kernel
theorem rn_lens {gs : List Gd} {ns : List Nd} (h : RN gs ns) : ∀ g ∈ gs, g.nm.size ≤ maxLen ∧ g.l.length ≤ maxLen := fun g hg => by
  obtain ⟨i, hi, rfl⟩ := List.getElem_of_mem hg
  have hl := h.gn.1
  have e1 : gs[i] = gs.getD i gd0 := by rw [List.getD_eq_getElem?_getD, List.getElem?_eq_getElem hi]; rfl
  have hg := h.gn.2 i hi
  have hs := shape_name (shp_at h.shp (i := i) (by omega))
  obtain ⟨n, e, hn, hF⟩ := forest_kids h.tree i (Nat.zero_le _) (by omega)
  have := forest_len hF
  rw [e1]
  unfold maxLen
  refine ⟨?_, ?_⟩
  · rw [← bs_len, hg.nm]; omega
  · rw [hg.l, List.length_map, getD_of hn]
    have := h.len
    omega
end Go.Proofs.Ytdaaigkmlbpbgaa.Sy.Pn
