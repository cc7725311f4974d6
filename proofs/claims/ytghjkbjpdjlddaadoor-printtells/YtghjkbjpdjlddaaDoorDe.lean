/- A tree printed node by node: the landed functions. -/
import Derived.Test.YtghjkbjpdjlddaaDoorDd
import Derived.Test.YtghjkbjpdjlddaaDoorSa
namespace Go.Proofs.YtghjkbjpdjlddaaDoor.Sy.Pn
open Go.RowKit
set_option maxRecDepth 100000
set_option linter.unusedVariables false

def Eb (_ : Option Nat) (u u' : World) : Prop := Below u.heap.size u u'
theorem eby {d : Option Nat} {u u' : World} (_ : true = true) (h : Below u.heap.size u u') : Eb d u u' := h
/-- A node's box, the printer's nodes; the rest is as it was. -/
structure PnS (w0 : World) (b q : Nat) (nv : Value) (cs : Array Value) (u : World) : Prop where
  box : RowA u q 30 cs
  nds : u.cell? ⟨b, 0, none⟩ = some nv
  bel : Below w0.heap.size w0 u
theorem cell_lt {u : World} {p : Addr} {v : Value} (h : u.cell? p = some v) : p.block < u.heap.size := World.block_lt_of_cell? u p h
theorem PnS.below {w0 : World} {b q : Nat} {nv : Value} {cs : Array Value} {u u' : World} (h : PnS w0 b q nv cs u) (hb : Below u.heap.size u u') : PnS w0 b q nv cs u' :=
  ⟨h.box.below hb h.box.lt, (hb.cell (p := ⟨b, 0, none⟩) (cell_lt h.nds)).trans h.nds, h.bel.trans (hb.mono h.bel.size)⟩
theorem PnS.drew {w0 : World} {b q : Nat} {nv : Value} {cs : Array Value} {u : World} (h : PnS w0 b q nv cs u) : PnS w0 b q nv cs u.drew := ⟨h.box, h.nds, bel_drew h.bel⟩

section
variable {nv : Value} {w w' : World} {B b : Nat} {v v' : Value} {t : List Nat}
theorem wr_more (h : WrP nv w B b v t) (hb : Below w.heap.size w w') : WrP nv w' B b v t := by
  obtain ⟨p, hp, h⟩ := h
  exact ⟨p, hp, ⟨own_below h.own hb (Nat.le_refl _), h.far, h.nil⟩, (hb.block b (lt_of_blk h.blk)).trans h.blk⟩
theorem wr_own (h : WrP nv w B b v t) : ∀ k, v.ownBlock = some k → B ≤ k ∧ k < w.heap.size := by
  obtain ⟨p, hp, h⟩ := h
  exact fun k hk => h.own.lt k hk
theorem wr_lt (h : WrP nv w B b v t) : b < w.heap.size := by
  obtain ⟨p, hp, h⟩ := h
  exact lt_of_blk h.blk
theorem wr_nds (h : WrP nv w B b v t) : w.cell? ⟨b, 0, none⟩ = some nv := by
  obtain ⟨p, hp, h⟩ := h
  rw [Lib.cell_of_heap h.blk]; rfl
theorem fr_old (f : Fr b v v' w w') (h : WrP nv w B b v t) (hb : B ≤ b) (hB : B ≤ w.heap.size) : Below B w w' := fr_bel f hb (fun k hk => (wr_own h k hk).1) hB
theorem fr_bl (h : Below w.heap.size w w') (v : Value) : Fr b v v w w' := ⟨h.os, h.tape, h.output, h.size, fun k hk _ _ => h.block k hk, fun _ e => .inl e⟩
end

/-- What a printer works with. -/
structure Env (W0 : World) (B b N : Nat) (A : Option Addr) (gs : List Gd) (ns : List Nd) : Prop where
  base : B = W0.heap.size
  bb : B ≤ b
  nds : Nds W0 B A gs
  gn : GN gs ns
  len : gs.length = N
  small : N ≤ 2000
  tv : TV W0
  kids : ∀ i, i < N → ∀ k ∈ (ns.getD i nd0).l, k < i
  shp : ∀ i, i < N → shapeB (ns.getD i nd0) = true
  lens : ∀ g ∈ gs, g.nm.size ≤ 1000 ∧ g.l.length ≤ 100000000
theorem range9 {u : World} {g o : Nat} {x : Gd} {Ax : Option Addr} {cx : Nat} (r : u.rangeAt g o (gdL x Ax cx)) :
    u.cell? ⟨g, o, none⟩ = some (.int .u8 x.op) ∧ u.cell? ⟨g, o + 1, none⟩ = some (.int .u64 (W x.s 0)) ∧ u.cell? ⟨g, o + 2, none⟩ = some (.int .u64 (W x.s 1)) ∧ u.cell? ⟨g, o + 3, none⟩ = some (.int .u64 (W x.s 2)) ∧ u.cell? ⟨g, o + 4, none⟩ = some (.int .u64 (W x.s 3)) ∧
    u.cell? ⟨g, o + 5, none⟩ = some (.slice Ax x.l.length cx) ∧ u.cell? ⟨g, o + 6, none⟩ = some (.int .i64 x.lo) ∧ u.cell? ⟨g, o + 7, none⟩ = some (.int .i64 x.hi) ∧ u.cell? ⟨g, o + 8, none⟩ = some (.string x.nm) :=
  ⟨r 0 _ rfl, r 1 _ rfl, r 2 _ rfl, r 3 _ rfl, r 4 _ rfl, r 5 _ rfl, r 6 _ rfl, r 7 _ rfl, r 8 _ rfl⟩
set_option linter.unusedVariables false in
def KsGV (b q k gA oA N c : Nat) (op : Nat) (x : Gd) (Ax : Option Addr) (cx : Nat) (t : Nat) : Option Value :=
  match t with
  | 0 => some (.pointer (some ⟨b, 0, none⟩))
  | 4 => some (.pointer (some ⟨q, 0, none⟩))
  | 7 => some (.int .i64 (k : Int))
  | 23 => some (.pointer (some ⟨b, 0, none⟩))
  | 24 => some (.pointer (some ⟨b, 0, none⟩))
  | 25 => some (.pointer (some ⟨b, 0, none⟩))
  | 26 => some (.pointer (some ⟨b, 0, none⟩))
  | 27 => some (.slice (some ⟨gA, oA, none⟩) N c)
  | 28 => some (.int .i64 (k : Int))
  | 29 => some (.pointer (some ⟨gA, oA + k * 9, none⟩))
  | 30 => some (.agg #[.int .u8 x.op, .int .u64 (W x.s 0), .int .u64 (W x.s 1), .int .u64 (W x.s 2), .int .u64 (W x.s 3), .slice Ax x.l.length cx, .int .i64 x.lo, .int .i64 x.hi, .string x.nm])
  | 31 => some (.pointer (some ⟨q, 0, none⟩))
  | 32 => some (.int .u8 (op : Int))
  | _ => none
set_option linter.unusedVariables false in
def KsGP (b q k gA oA N c : Nat) (op : Nat) (x : Gd) (Ax : Option Addr) (cx : Nat) (t : Nat) : Option (Value → World → Prop) :=
  match t with
  | _ => none
def KsG (b q k gA oA N c : Nat) (op : Nat) (x : Gd) (Ax : Option Addr) (cx : Nat) (t : Nat) (v : Value) (u : World) : Prop := (∀ z9, KsGV b q k gA oA N c op x Ax cx t = some z9 → v = z9) ∧ ∀ R, KsGP b q k gA oA N c op x Ax cx t = some R → R v u
section
variable {W0 : World} {B b N c : Nat} {A : Option Addr} {gs : List Gd} {ns : List Nd}
/-- What a node's text asks for: it comes behind what there is, and nothing else turns. -/
def NodeC (W0 : World) (B b N c : Nat) (A : Option Addr) (gs : List Gd) (ns : List Nd) (f : Nat) : Prop :=
  ∀ (a : Nat), a < N → a < f → ∀ (Ag : Option Addr) (cg : Nat) (w : World) (v : Value) (t : List Nat), Below B W0 w → WrP (.slice A N c) w B b v t → Its w B Ag (gs.getD a gd0).l → t.length + (nodeT ns f (ns.getD a nd0)).length ≤ 10000000000 →
    Calls Tryd.prog 20 #[.pointer (some ⟨b, 0, none⟩), .agg (gdL (gs.getD a gd0) Ag cg).toArray] w fun e w' => e = .returned (.tuple #[]) ∧ ∃ v', WrP (.slice A N c) w' B b v' (t ++ nodeT ns f (ns.getD a nd0)) ∧ Fr b v v' w w'
def KidC (W0 : World) (B b N c : Nat) (A : Option Addr) (gs : List Gd) (ns : List Nd) (f : Nat) : Prop :=
  ∀ (a p : Nat), a < N → a < f → ∀ (Ag : Option Addr) (cg : Nat) (w : World) (v : Value) (t : List Nat), Below B W0 w → WrP (.slice A N c) w B b v t → Its w B Ag (gs.getD a gd0).l → t.length + (wrapT (encB (ns.getD a nd0).op p) (nodeT ns f (ns.getD a nd0))).length ≤ 10000000000 →
    Calls Tryd.prog 60 #[.pointer (some ⟨b, 0, none⟩), .agg (gdL (gs.getD a gd0) Ag cg).toArray, .int .u8 (p : Int)] w fun e w' => e = .returned (.tuple #[]) ∧ ∃ v', WrP (.slice A N c) w' B b v' (t ++ wrapT (encB (ns.getD a nd0).op p) (nodeT ns f (ns.getD a nd0))) ∧ Fr b v v' w w'
theorem node_at (E : Env W0 B b N A gs ns) {a : Nat} (ha : a < N) : GN1 (gs.getD a gd0) (ns.getD a nd0) := E.gn.2 a (by rw [E.len]; exact ha)
theorem its_old {w : World} {Ag : Option Addr} {xs : List Int} {w' : World} (h : Its w B Ag xs) (hb : Below B w w') : Its w' B Ag xs := h.keep fun p hp => hb.cell hp
theorem row_fr {w w' : World} {b q : Nat} {v v' : Value} {cs : Array Value} (r : RowA w q 30 cs) (f : Fr b v v' w w') (h1 : q ≠ b) (h2 : v.ownBlock ≠ some q) : RowA w' q 30 cs := (f.block q r.lt h1 h2).trans r
theorem own_fr {w w' : World} {b q : Nat} {v v' : Value} (f : Fr b v v' w w') (hq : q < w.heap.size) (h2 : v.ownBlock ≠ some q) : v'.ownBlock ≠ some q := fun e => by
  rcases f.own q e with h | h
  · exact h2 h
  · omega
/-- What stands when a method has laid its node into a box. -/
structure Bxd (W0 : World) (B b N c : Nat) (A : Option Addr) (w : World) (v : Value) (t : List Nat) (g : Gd) (Ag : Option Addr) (cg : Nat) (w0 : World) (v0 : Value) (u : World) : Prop where
  row : RowA u w.heap.size 30 (gdL g Ag cg).toArray
  old : Below B W0 u
  wr : WrP (.slice A N c) u B b v0 t
  its : Its u B Ag g.l
  ne : w.heap.size ≠ b
  far : v0.ownBlock ≠ some w.heap.size
  fr : Fr b v v0 w u
theorem Bxd.start (E : Env W0 B b N A gs ns) {w : World} {v : Value} {t : List Nat} {g : Gd} {Ag : Option Addr} {cg : Nat} (hW : Below B W0 w) (hWr : WrP (.slice A N c) w B b v t) (hI : Its w B Ag g.l) :
    Bxd W0 B b N c A w v t g Ag cg w v (w.alloc (.cells (gdL g Ag cg).toArray 30)) := by
  have hBw : B ≤ w.heap.size := by have := hW.size; have := E.base; omega
  have ha : Below w.heap.size w (w.alloc (.cells (gdL g Ag cg).toArray 30)) := (Below.refl _ _).alloc (Nat.le_refl _) _
  have := wr_lt hWr
  exact ⟨RowA.new w _ _, hW.alloc hBw _, wr_more hWr ha, its_old hI (ha.mono hBw), by omega, fun e => by have := (wr_own hWr _ e).2; omega, fr_bl ha v⟩
theorem Bxd.go (E : Env W0 B b N A gs ns) {w : World} {v : Value} {t t' : List Nat} {g : Gd} {Ag : Option Addr} {cg : Nat} {w0 u u' : World} {v0 v' : Value} (h : Bxd W0 B b N c A w v t g Ag cg w0 v0 u) (hw : WrP (.slice A N c) u' B b v' t') (f : Fr b v0 v' u u') :
    Bxd W0 B b N c A w v t' g Ag cg w0 v' u' := by
  have hBu : B ≤ u.heap.size := by have := h.old.size; have := E.base; omega
  have hb := fr_old f h.wr E.bb hBu
  exact ⟨row_fr h.row f h.ne h.far, h.old.trans hb, hw, its_old h.its hb, h.ne, own_fr f h.row.lt h.far, h.fr.trans f⟩
theorem Bxd.read {w : World} {v : Value} {t : List Nat} {g : Gd} {Ag : Option Addr} {cg : Nat} {w0 u u' : World} {v0 : Value} (E : Env W0 B b N A gs ns) (h : Bxd W0 B b N c A w v t g Ag cg w0 v0 u) (hb : Below u.heap.size u u') :
    Bxd W0 B b N c A w v t g Ag cg w0 v0 u' := h.go E (wr_more h.wr hb) (fr_bl hb v0)
theorem Bxd.big (E : Env W0 B b N A gs ns) {w : World} {v : Value} {t : List Nat} {g : Gd} {Ag : Option Addr} {cg : Nat} {w0 u : World} {v0 : Value} (h : Bxd W0 B b N c A w v t g Ag cg w0 v0 u) : B ≤ u.heap.size := by have := h.old.size; have := E.base; omega
set_option maxHeartbeats 1000000 in
theorem kid_of (E : Env W0 B b N A gs ns) {f : Nat} (ih : NodeC W0 B b N c A gs ns f) : KidC W0 B b N c A gs ns f := by
  intro a p ha haf Ag cg w v t hW hWr hI hl
  have hop := (node_at E ha).op
  have hih := ih a ha haf Ag cg
  have X := Bxd.start (g := gs.getD a gd0) (cg := cg) E hW hWr hI
  obtain ⟨g, hg⟩ : ∃ g, gs.getD a gd0 = g := ⟨_, rfl⟩
  rw [hg] at hih hop X
  rw [hg]
  obtain ⟨n, hn⟩ : ∃ n, ns.getD a nd0 = n := ⟨_, rfl⟩
  rw [hn] at hih hl hop
  rw [hn]
  clear hn hg ih hI
  obtain ⟨T, hT⟩ : ∃ T, nodeT ns f n = T := ⟨_, rfl⟩
  rw [hT] at hih hl
  rw [hT]
  obtain ⟨gop, gset, gl, glo, ghi, gnm⟩ := g
  obtain rfl : gop = (n.op : Int) := hop
  have HIH := hidd hih
  have HX := hidd X
  obtain ⟨a0, a1, a2, a3, a4, a5, a6, a7, a8⟩ := node_cells X.row
  clear hih hT X
  unfold gdL at a0 a1 a2 a3 a4 a5 a6 a7 a8 ⊢
  have hEn := fun (u : World) => enclosed_any n.op p u
  cases hen : encB n.op p with
  | false =>
    rw [hen] at hEn hl
    simp only [wrapT, Bool.false_eq_true, if_false] at hl
    go_enter Tryd.func60, Tryd.ntmps60
    go_wp2_with fail
    refine (hEn _).mono ?_
    rintro e w1 ⟨rfl, rfl⟩
    go_wp2_with fail
    refine (HIH.out _ v t HX.out.old HX.out.wr HX.out.its (by omega)).mono ?_
    rintro e w2 ⟨rfl, v2, hW2, f2⟩
    have Y := HX.out.go E hW2 f2
    have HY := hidd Y
    clear Y hW2 f2 a0 a1 a2 a3 a4 a5 a6 a7 a8
    go_wp2
    refine bodyPost_ret (results_none rfl _ _ _) rfl ?_
    exact ⟨rfl, v2, HY.out.wr, HY.out.fr⟩
  | true =>
    rw [hen] at hEn hl
    simp only [wrapT, if_true, List.length_cons, List.length_append, List.length_nil] at hl
    go_enter Tryd.func60, Tryd.ntmps60
    go_wp2_with fail
    refine (hEn _).mono ?_
    rintro e w1 ⟨rfl, rfl⟩
    go_wp2_with fail
    refine (byteWP _ HX.out.wr 40 (by omega) (HX.out.big E)).mono ?_
    rintro e w2 ⟨rfl, v2, hW2, f2⟩
    have HX2 := hidd (HX.out.go E hW2 f2)
    clear a0 a1 a2 a3 a4 a5 a6 a7 a8 hW2 f2
    obtain ⟨a0, a1, a2, a3, a4, a5, a6, a7, a8⟩ := node_cells HX2.out.row
    go_wp2_with fail
    refine (HIH.out _ v2 (t ++ [40]) HX2.out.old HX2.out.wr HX2.out.its (by simp; omega)).mono ?_
    rintro e w3 ⟨rfl, v3, hW3, f3⟩
    have HX3 := hidd (HX2.out.go E hW3 f3)
    clear a0 a1 a2 a3 a4 a5 a6 a7 a8 hW3 f3
    go_wp2_with fail
    refine (byteWP _ HX3.out.wr 41 (by simp; omega) (HX3.out.big E)).mono ?_
    rintro e w4 ⟨rfl, v4, hW4, f4⟩
    have HX4 := hidd (HX3.out.go E hW4 f4)
    clear hW4 f4
    go_wp2
    go_end0
    refine ⟨rfl, v4, ?_, HX4.out.fr⟩
    have := HX4.out.wr
    simpa [wrapT] using this

set_option maxHeartbeats 4000000 in
theorem kids_of (E : Env W0 B b N A gs ns) {f : Nat} (ih : KidC W0 B b N c A gs ns f) (a : Nat) (ha : a < N) (haf : a < f + 1) (s : ByteArray) (hsl : s.size ≤ 1) (Ag : Option Addr) (cg : Nat) (w : World) (v : Value) (t : List Nat) (hW : Below B W0 w) (hWr : WrP (.slice A N c) w B b v t) (hI : Its w B Ag (gs.getD a gd0).l)
    (hl : t.length + (kidsT (bs s) (kidT ns f (ns.getD a nd0)) (ns.getD a nd0).l.length).length ≤ 10000000000) :
    Calls Tryd.prog 41 #[.pointer (some ⟨b, 0, none⟩), .agg (gdL (gs.getD a gd0) Ag cg).toArray, .string s] w fun e w' => e = .returned (.tuple #[]) ∧ ∃ v', WrP (.slice A N c) w' B b v' (t ++ kidsT (bs s) (kidT ns f (ns.getD a nd0)) (ns.getD a nd0).l.length) ∧ Fr b v v' w w' := by
  have hG := node_at E ha
  have hks := E.kids a ha
  have hln := E.lens (gs.getD a gd0) (by rw [List.getD_eq_getElem?_getD, List.getElem?_eq_getElem (by rw [E.len]; exact ha)]; exact List.getElem_mem _)
  have X := Bxd.start (g := gs.getD a gd0) (cg := cg) E hW hWr hI
  obtain ⟨gA, oA, rfl, hgA, -⟩ := E.nds.at_ (k := a) (by rw [E.len]; exact ha)
  obtain ⟨g, hg⟩ : ∃ g, gs.getD a gd0 = g := ⟨_, rfl⟩
  rw [hg] at hG hln X
  rw [hg]
  obtain ⟨n, hn⟩ : ∃ n, ns.getD a nd0 = n := ⟨_, rfl⟩
  rw [hn] at hl hG hks
  rw [hn]
  clear hn hg hI
  obtain ⟨gop, gset, gl, glo, ghi, gnm⟩ := g
  obtain rfl : gop = (n.op : Int) := hG.op
  have HGL : Hid (gl = n.l.map fun k : Nat => (k : Int)) := hG.l
  have HLL : Hid (n.l.length = gl.length) := by show _ = _; rw [HGL.out]; simp
  obtain ⟨m, hm⟩ : ∃ m, n.l.length = m := ⟨_, rfl⟩
  rw [hm] at hl
  rw [hm]
  have HM : Hid (gl.length = m) := HLL.out.symm.trans hm
  have hm9 : m ≤ 100000000 := by rw [← HM.out]; exact hln.2
  have HX := hidd X
  obtain ⟨a0, a1, a2, a3, a4, a5, a6, a7, a8⟩ := node_cells X.row
  have HIH := hidd ih
  have HKS := hidd hks
  have HMN := hidd hm
  clear ih hG X hln hks hm hW hWr
  simp only at a5
  rw [HM.out] at a5
  unfold gdL at a0 a1 a2 a3 a4 a5 a6 a7 a8 ⊢
  simp only at a0 a1 a2 a3 a4 a5 a6 a7 a8 ⊢
  rw [HM.out] at a0 a1 a2 a3 a4 a5 a6 a7 a8 ⊢
  go_enter Tryd.func41, Tryd.ntmps41
  go_wp2
  go_loopw [11] (fun s11 wr => ∃ (i : Nat) (v' : Value), s11 = .int .i64 (i : Int) ∧ i ≤ m ∧ Bxd W0 B b N c (some ⟨gA, oA, none⟩) w v (t ++ kidsT (bs s) (kidT ns f n) i) ⟨(n.op : Int), gset, gl, glo, ghi, gnm⟩ Ag cg w v' wr) (fun s11 _ => m - (intOf s11).toNat)
  case atStart =>
    refine ⟨0, v, rfl, Nat.zero_le _, ?_⟩
    have := HX.out
    rw [kidsT_zero, List.append_nil]
    unfold gdL at this
    simp only at this
    rw [HM.out] at this
    exact this
  case round =>
    obtain ⟨i, v1, rfl, him, X1⟩ := hrel
    clear a0 a1 a2 a3 a4 a5 a6 a7 a8 HX
    by_cases hlt : i < m
    · have hii : (i : Int) < (m : Int) := by omega
      have hil : i < n.l.length := by rw [HMN.out]; exact hlt
      obtain ⟨k, hk⟩ : ∃ k, n.l.getD i 0 = k := ⟨_, rfl⟩
      have hkm : k ∈ n.l := by rw [← hk, List.getD_eq_getElem?_getD, List.getElem?_eq_getElem hil]; exact List.getElem_mem _
      have hka := HKS.out k hkm
      obtain ⟨gI, oI, rfl, hgI, hcI⟩ := X1.its (fun e => by have h1 := HM.out; simp only at e; rw [e] at h1; simp at h1; omega)
      have hc1 := hcI i (by show i < gl.length; rw [HM.out]; exact hlt)
      have hgk : gl.getD i 0 = (k : Int) := by
        rw [HGL.out, List.getD_eq_getElem?_getD, List.getElem?_map, List.getElem?_eq_getElem hil, ← hk, List.getD_eq_getElem?_getD, List.getElem?_eq_getElem hil]
        rfl
      change wr.cell? ⟨gI, oI + i, none⟩ = some (.int .i64 (gl.getD i 0)) at hc1
      rw [hgk] at hc1
      have hkN : k < N := by omega
      have hkN1 : (k : Int) < (N : Int) := by omega
      obtain ⟨gA', oA', hA', hgA', Ax, cx, hIx, rx⟩ := E.nds.at_ (k := k) (by rw [E.len]; exact hkN)
      cases hA'
      have hkid := HIH.out k n.op hkN (by omega) Ax cx
      have HKT : Hid (kidT ns f n i = wrapT (encB (ns.getD k nd0).op n.op) (nodeT ns f (ns.getD k nd0))) := by show _ = _; unfold kidT; rw [hk]
      rw [← HKT.out] at hkid
      obtain ⟨x, hx⟩ : ∃ x, gs.getD k gd0 = x := ⟨_, rfl⟩
      rw [hx] at hkid hIx rx
      have HKID := hidd hkid
      have HSUC := hidd (kidsT_succ (bs s) (kidT ns f n) i)
      have HLE := hidd (kidsT_len (bs s) (kidT ns f n) (i := i + 1) (n := m) (by omega))
      have HRX := hidd rx
      have HIX := hidd hIx
      have HX1 := hidd X1
      have hsb := bs_len s
      clear hkid hcI hgk hk hkm hx rx hIx X1 hil
      by_cases h0 : i = 0
      · have hig : decide (0 < i) = false := decide_eq_false (by omega)
        have HS0 : Hid (kidsT (bs s) (kidT ns f n) (i + 1) = kidsT (bs s) (kidT ns f n) i ++ kidT ns f n i) := by show _ = _; rw [HSUC.out, if_neg (by omega)]; rfl
        have hcell : ∀ u, Below wr.heap.size wr u → _ := fun u hu => range9 (u := u) (fun j z hz => ((HX1.out.old.trans (hu.mono (HX1.out.big E))).cell (p := ⟨gA, oA + k * 9 + j, none⟩) hgA).trans (HRX.out j z hz))
        clear h0
        go_wp2_with fail
        refine wp_region_slotsT 10 (by decide) (by kernel_rfl) (by kernel_rfl) (fun _ _ => true) (PnS wr b w.heap.size (.slice (some ⟨gA, oA, none⟩) N c) (gdL ⟨(n.op : Int), gset, gl, glo, ghi, gnm⟩ (some ⟨gI, oI, none⟩) cg).toArray) (KsG b w.heap.size k gA oA N c n.op x Ax cx) Eb (by kernel_rfl) (by kernel_rfl) (by kernel_rfl) (by kernel_rfl) ?_ (PnS.drew ⟨HX1.out.row, wr_nds HX1.out.wr, Below.refl _ _⟩) [0, 4, 7] (by kernel_rfl) ?_ ?_ ?_
        · intro t d v u u' _ _ h hE
          exact ⟨h.1, fun R hR => by unfold KsGP at hR; cases hR⟩
        · intro u _
          refine ⟨⟨_, rfl, ?_⟩, ⟨_, rfl, ?_⟩, ⟨_, rfl, ?_⟩, trivial⟩ <;> exact ⟨fun _ h => Option.some.inj h, fun _ h => no_some h⟩
        · refine ⟨?_, ?_, ?_, ?_, ?_, ?_, ?_, ?_, ?_, ?_, trivial⟩
          · intro a u hS hr K hK
            obtain ⟨⟨vl0, e0, g0⟩, -⟩ := hr
            obtain rfl := g0.1 _ rfl
            clear g0
            rw [if_pos (want_none rfl)]
            unfold Oper.wp
            go_simp
            exact hK _ _ ⟨fun _ h => Option.some.inj h, fun _ h => no_some h⟩ hS (eby rfl (Below.refl _ _))
          · intro a u hS hr K hK
            obtain ⟨⟨vl0, e0, g0⟩, -⟩ := hr
            obtain rfl := g0.1 _ rfl
            clear g0
            rw [if_pos (want_none rfl)]
            unfold Oper.wp
            go_simp
            exact hK _ _ ⟨fun _ h => Option.some.inj h, fun _ h => no_some h⟩ hS (eby rfl (Below.refl _ _))
          · intro a u hS hr K hK
            obtain ⟨⟨vl0, e0, g0⟩, -⟩ := hr
            obtain rfl := g0.1 _ rfl
            clear g0
            rw [if_pos (want_none rfl)]
            unfold Oper.wp
            go_simp
            exact hK _ _ ⟨fun _ h => Option.some.inj h, fun _ h => no_some h⟩ hS (eby rfl (Below.refl _ _))
          · intro a u hS hr K hK
            obtain ⟨⟨vl0, e0, g0⟩, -⟩ := hr
            obtain rfl := g0.1 _ rfl
            clear g0
            rw [if_pos (want_none rfl)]
            unfold Oper.wp
            go_simp
            exact hK _ _ ⟨fun _ h => Option.some.inj h, fun _ h => no_some h⟩ hS (eby rfl (Below.refl _ _))
          · intro a u hS hr K hK
            obtain ⟨⟨vl0, e0, g0⟩, -⟩ := hr
            obtain rfl := g0.1 _ rfl
            clear g0
            rw [if_pos (want_none rfl)]
            have c0 := hS.nds
            unfold Oper.wp
            go_simp
            exact hK _ _ ⟨fun _ h => Option.some.inj h, fun _ h => no_some h⟩ hS (eby rfl (Below.refl _ _))
          · intro a u hS hr K hK
            obtain ⟨⟨vl0, e0, g0⟩, -⟩ := hr
            obtain rfl := g0.1 _ rfl
            clear g0
            rw [if_pos (want_none rfl)]
            unfold Oper.wp
            go_simp
            exact hK _ _ ⟨fun _ h => Option.some.inj h, fun _ h => no_some h⟩ hS (eby rfl (Below.refl _ _))
          · intro a u hS hr K hK
            obtain ⟨⟨vl0, e0, g0⟩, ⟨vl1, e1, g1⟩, -⟩ := hr
            obtain rfl := g0.1 _ rfl
            clear g0
            obtain rfl := g1.1 _ rfl
            clear g1
            rw [if_pos (want_none rfl)]
            unfold Oper.wp
            go_simp
            exact hK _ _ ⟨fun _ h => Option.some.inj h, fun _ h => no_some h⟩ hS (eby rfl (Below.refl _ _))
          · intro a u hS hr K hK
            obtain ⟨⟨vl0, e0, g0⟩, -⟩ := hr
            obtain rfl := g0.1 _ rfl
            clear g0
            rw [if_pos (want_none rfl)]
            obtain ⟨d0, d1, d2, d3, d4, d5, d6, d7, d8⟩ := hcell u hS.bel
            unfold Oper.wp
            go_simp
            exact hK _ _ ⟨fun _ h => Option.some.inj h, fun _ h => no_some h⟩ hS (eby rfl (Below.refl _ _))
          · intro a u hS hr K hK
            obtain ⟨⟨vl0, e0, g0⟩, -⟩ := hr
            obtain rfl := g0.1 _ rfl
            clear g0
            rw [if_pos (want_none rfl)]
            unfold Oper.wp
            go_simp
            exact hK _ _ ⟨fun _ h => Option.some.inj h, fun _ h => no_some h⟩ hS (eby rfl (Below.refl _ _))
          · intro a u hS hr K hK
            obtain ⟨⟨vl0, e0, g0⟩, -⟩ := hr
            obtain rfl := g0.1 _ rfl
            clear g0
            rw [if_pos (want_none rfl)]
            obtain ⟨c0, c1, c2, c3, c4, c5, c6, c7, c8⟩ := node_cells hS.box
            unfold Oper.wp
            go_simp
            exact hK _ _ ⟨fun _ h => Option.some.inj h, fun _ h => no_some h⟩ hS (eby rfl (Below.refl _ _))
        intro a u hS hts hd hkn hf
        have HX3 := hidd (HX1.out.read E hS.bel)
        obtain ⟨v23, e23, g23⟩ := hf 0 _ 23 (by decide) rfl rfl (fun _ => rfl)
        obtain ⟨v24, e24, g24⟩ := hf 1 _ 24 (by decide) rfl rfl (fun _ => rfl)
        obtain ⟨v25, e25, g25⟩ := hf 2 _ 25 (by decide) rfl rfl (fun _ => rfl)
        obtain ⟨v26, e26, g26⟩ := hf 3 _ 26 (by decide) rfl rfl (fun _ => rfl)
        obtain ⟨v27, e27, g27⟩ := hf 4 _ 27 (by decide) rfl rfl (fun _ => rfl)
        obtain ⟨v28, e28, g28⟩ := hf 5 _ 28 (by decide) rfl rfl (fun _ => rfl)
        obtain ⟨v29, e29, g29⟩ := hf 6 _ 29 (by decide) rfl rfl (fun _ => rfl)
        obtain ⟨v30, e30, g30⟩ := hf 7 _ 30 (by decide) rfl rfl (fun _ => rfl)
        obtain ⟨v31, e31, g31⟩ := hf 8 _ 31 (by decide) rfl rfl (fun _ => rfl)
        obtain ⟨v32, e32, g32⟩ := hf 9 _ 32 (by decide) rfl rfl (fun _ => rfl)
        obtain ⟨v33, e33⟩ : ∃ z, a.tmps[33]? = some z := ⟨_, Array.getElem?_eq_getElem (by rw [hts]; simp)⟩
        have hA := act_puts [(23, v23), (24, v24), (25, v25), (26, v26), (27, v27), (28, v28), (29, v29), (30, v30), (31, v31), (32, v32), (33, v33)] hts hd hkn (by kernel_rfl) (by simp [e23, e24, e25, e26, e27, e28, e29, e30, e31, e32, e33])
        clear hf hts hd hkn e23 e24 e25 e26 e27 e28 e29 e30 e31 e32 e33
        obtain rfl := g23.1 _ rfl
        clear g23
        obtain rfl := g24.1 _ rfl
        clear g24
        obtain rfl := g25.1 _ rfl
        clear g25
        obtain rfl := g26.1 _ rfl
        clear g26
        obtain rfl := g27.1 _ rfl
        clear g27
        obtain rfl := g28.1 _ rfl
        clear g28
        obtain rfl := g29.1 _ rfl
        clear g29
        obtain rfl := g30.1 _ rfl
        clear g30
        obtain rfl := g31.1 _ rfl
        clear g31
        obtain rfl := g32.1 _ rfl
        clear g32
        subst hA
        simp only [List.foldl, List.setIfInBounds_toArray, List.set_cons_zero, List.set_cons_succ]
        simp only [List.drop_succ_cons, List.drop_zero]
        clear hS hcell
        go_wp2_with fail
        refine (HKID.out u v1 (t ++ kidsT (bs s) (kidT ns f n) i) HX3.out.old HX3.out.wr (its_old HIX.out HX3.out.old) (by have h1 := HLE.out; rw [HS0.out] at h1; simp at h1 ⊢; omega)).mono ?_
        rintro e w5 ⟨rfl, v5, hW5, f5⟩
        have HREL : Hid (Bxd W0 B b N c (some ⟨gA, oA, none⟩) w v (t ++ kidsT (bs s) (kidT ns f n) (i + 1)) ⟨(n.op : Int), gset, gl, glo, ghi, gnm⟩ (some ⟨gI, oI, none⟩) cg w v5 w5) := by
          show Bxd _ _ _ _ _ _ _ _ _ _ _ _ _ _ _
          have := HX3.out.go E hW5 f5
          rw [HS0.out]
          simpa [List.append_assoc] using this
        clear hW5 f5
        go_wp2
        exact ⟨⟨i + 1, v5, rfl, by omega, HREL.out⟩, by simp [intOf]; omega⟩
      · have hig : decide (0 < i) = true := decide_eq_true (by omega)
        have HS0 : Hid (kidsT (bs s) (kidT ns f n) (i + 1) = kidsT (bs s) (kidT ns f n) i ++ bs s ++ kidT ns f n i) := by show _ = _; rw [HSUC.out, if_pos (by omega), List.append_assoc]
        clear h0
        go_wp2_with fail
        refine (strWP _ HX1.out.wr s (by have h1 := HLE.out; rw [HS0.out] at h1; simp at h1 ⊢; omega) (HX1.out.big E)).mono ?_
        rintro e w2 ⟨rfl, v2, hW2, f2⟩
        have HX2 := hidd (HX1.out.go E hW2 f2)
        clear hW2 f2 hc1
        have hcell : ∀ u, Below w2.heap.size w2 u → _ := fun u hu => range9 (u := u) (fun j z hz => ((HX2.out.old.trans (hu.mono (HX2.out.big E))).cell (p := ⟨gA, oA + k * 9 + j, none⟩) hgA).trans (HRX.out j z hz))
        go_wp2_with fail
        refine wp_region_slotsT 10 (by decide) (by kernel_rfl) (by kernel_rfl) (fun _ _ => true) (PnS w2 b w.heap.size (.slice (some ⟨gA, oA, none⟩) N c) (gdL ⟨(n.op : Int), gset, gl, glo, ghi, gnm⟩ (some ⟨gI, oI, none⟩) cg).toArray) (KsG b w.heap.size k gA oA N c n.op x Ax cx) Eb (by kernel_rfl) (by kernel_rfl) (by kernel_rfl) (by kernel_rfl) ?_ (PnS.drew ⟨HX2.out.row, wr_nds HX2.out.wr, Below.refl _ _⟩) [0, 4, 7] (by kernel_rfl) ?_ ?_ ?_
        · intro t d v u u' _ _ h hE
          exact ⟨h.1, fun R hR => by unfold KsGP at hR; cases hR⟩
        · intro u _
          refine ⟨⟨_, rfl, ?_⟩, ⟨_, rfl, ?_⟩, ⟨_, rfl, ?_⟩, trivial⟩ <;> exact ⟨fun _ h => Option.some.inj h, fun _ h => no_some h⟩
        · refine ⟨?_, ?_, ?_, ?_, ?_, ?_, ?_, ?_, ?_, ?_, trivial⟩
          · intro a u hS hr K hK
            obtain ⟨⟨vl0, e0, g0⟩, -⟩ := hr
            obtain rfl := g0.1 _ rfl
            clear g0
            rw [if_pos (want_none rfl)]
            unfold Oper.wp
            go_simp
            exact hK _ _ ⟨fun _ h => Option.some.inj h, fun _ h => no_some h⟩ hS (eby rfl (Below.refl _ _))
          · intro a u hS hr K hK
            obtain ⟨⟨vl0, e0, g0⟩, -⟩ := hr
            obtain rfl := g0.1 _ rfl
            clear g0
            rw [if_pos (want_none rfl)]
            unfold Oper.wp
            go_simp
            exact hK _ _ ⟨fun _ h => Option.some.inj h, fun _ h => no_some h⟩ hS (eby rfl (Below.refl _ _))
          · intro a u hS hr K hK
            obtain ⟨⟨vl0, e0, g0⟩, -⟩ := hr
            obtain rfl := g0.1 _ rfl
            clear g0
            rw [if_pos (want_none rfl)]
            unfold Oper.wp
            go_simp
            exact hK _ _ ⟨fun _ h => Option.some.inj h, fun _ h => no_some h⟩ hS (eby rfl (Below.refl _ _))
          · intro a u hS hr K hK
            obtain ⟨⟨vl0, e0, g0⟩, -⟩ := hr
            obtain rfl := g0.1 _ rfl
            clear g0
            rw [if_pos (want_none rfl)]
            unfold Oper.wp
            go_simp
            exact hK _ _ ⟨fun _ h => Option.some.inj h, fun _ h => no_some h⟩ hS (eby rfl (Below.refl _ _))
          · intro a u hS hr K hK
            obtain ⟨⟨vl0, e0, g0⟩, -⟩ := hr
            obtain rfl := g0.1 _ rfl
            clear g0
            rw [if_pos (want_none rfl)]
            have c0 := hS.nds
            unfold Oper.wp
            go_simp
            exact hK _ _ ⟨fun _ h => Option.some.inj h, fun _ h => no_some h⟩ hS (eby rfl (Below.refl _ _))
          · intro a u hS hr K hK
            obtain ⟨⟨vl0, e0, g0⟩, -⟩ := hr
            obtain rfl := g0.1 _ rfl
            clear g0
            rw [if_pos (want_none rfl)]
            unfold Oper.wp
            go_simp
            exact hK _ _ ⟨fun _ h => Option.some.inj h, fun _ h => no_some h⟩ hS (eby rfl (Below.refl _ _))
          · intro a u hS hr K hK
            obtain ⟨⟨vl0, e0, g0⟩, ⟨vl1, e1, g1⟩, -⟩ := hr
            obtain rfl := g0.1 _ rfl
            clear g0
            obtain rfl := g1.1 _ rfl
            clear g1
            rw [if_pos (want_none rfl)]
            unfold Oper.wp
            go_simp
            exact hK _ _ ⟨fun _ h => Option.some.inj h, fun _ h => no_some h⟩ hS (eby rfl (Below.refl _ _))
          · intro a u hS hr K hK
            obtain ⟨⟨vl0, e0, g0⟩, -⟩ := hr
            obtain rfl := g0.1 _ rfl
            clear g0
            rw [if_pos (want_none rfl)]
            obtain ⟨d0, d1, d2, d3, d4, d5, d6, d7, d8⟩ := hcell u hS.bel
            unfold Oper.wp
            go_simp
            exact hK _ _ ⟨fun _ h => Option.some.inj h, fun _ h => no_some h⟩ hS (eby rfl (Below.refl _ _))
          · intro a u hS hr K hK
            obtain ⟨⟨vl0, e0, g0⟩, -⟩ := hr
            obtain rfl := g0.1 _ rfl
            clear g0
            rw [if_pos (want_none rfl)]
            unfold Oper.wp
            go_simp
            exact hK _ _ ⟨fun _ h => Option.some.inj h, fun _ h => no_some h⟩ hS (eby rfl (Below.refl _ _))
          · intro a u hS hr K hK
            obtain ⟨⟨vl0, e0, g0⟩, -⟩ := hr
            obtain rfl := g0.1 _ rfl
            clear g0
            rw [if_pos (want_none rfl)]
            obtain ⟨c0, c1, c2, c3, c4, c5, c6, c7, c8⟩ := node_cells hS.box
            unfold Oper.wp
            go_simp
            exact hK _ _ ⟨fun _ h => Option.some.inj h, fun _ h => no_some h⟩ hS (eby rfl (Below.refl _ _))
        intro a u hS hts hd hkn hf
        have HX3 := hidd (HX2.out.read E hS.bel)
        obtain ⟨v23, e23, g23⟩ := hf 0 _ 23 (by decide) rfl rfl (fun _ => rfl)
        obtain ⟨v24, e24, g24⟩ := hf 1 _ 24 (by decide) rfl rfl (fun _ => rfl)
        obtain ⟨v25, e25, g25⟩ := hf 2 _ 25 (by decide) rfl rfl (fun _ => rfl)
        obtain ⟨v26, e26, g26⟩ := hf 3 _ 26 (by decide) rfl rfl (fun _ => rfl)
        obtain ⟨v27, e27, g27⟩ := hf 4 _ 27 (by decide) rfl rfl (fun _ => rfl)
        obtain ⟨v28, e28, g28⟩ := hf 5 _ 28 (by decide) rfl rfl (fun _ => rfl)
        obtain ⟨v29, e29, g29⟩ := hf 6 _ 29 (by decide) rfl rfl (fun _ => rfl)
        obtain ⟨v30, e30, g30⟩ := hf 7 _ 30 (by decide) rfl rfl (fun _ => rfl)
        obtain ⟨v31, e31, g31⟩ := hf 8 _ 31 (by decide) rfl rfl (fun _ => rfl)
        obtain ⟨v32, e32, g32⟩ := hf 9 _ 32 (by decide) rfl rfl (fun _ => rfl)
        obtain ⟨v33, e33⟩ : ∃ z, a.tmps[33]? = some z := ⟨_, Array.getElem?_eq_getElem (by rw [hts]; simp)⟩
        have hA := act_puts [(23, v23), (24, v24), (25, v25), (26, v26), (27, v27), (28, v28), (29, v29), (30, v30), (31, v31), (32, v32), (33, v33)] hts hd hkn (by kernel_rfl) (by simp [e23, e24, e25, e26, e27, e28, e29, e30, e31, e32, e33])
        clear hf hts hd hkn e23 e24 e25 e26 e27 e28 e29 e30 e31 e32 e33
        obtain rfl := g23.1 _ rfl
        clear g23
        obtain rfl := g24.1 _ rfl
        clear g24
        obtain rfl := g25.1 _ rfl
        clear g25
        obtain rfl := g26.1 _ rfl
        clear g26
        obtain rfl := g27.1 _ rfl
        clear g27
        obtain rfl := g28.1 _ rfl
        clear g28
        obtain rfl := g29.1 _ rfl
        clear g29
        obtain rfl := g30.1 _ rfl
        clear g30
        obtain rfl := g31.1 _ rfl
        clear g31
        obtain rfl := g32.1 _ rfl
        clear g32
        subst hA
        simp only [List.foldl, List.setIfInBounds_toArray, List.set_cons_zero, List.set_cons_succ]
        simp only [List.drop_succ_cons, List.drop_zero]
        clear hS hcell
        go_wp2_with fail
        refine (HKID.out u v2 (t ++ kidsT (bs s) (kidT ns f n) i ++ bs s) HX3.out.old HX3.out.wr (its_old HIX.out HX3.out.old) (by have h1 := HLE.out; rw [HS0.out] at h1; simp at h1 ⊢; omega)).mono ?_
        rintro e w5 ⟨rfl, v5, hW5, f5⟩
        have HREL : Hid (Bxd W0 B b N c (some ⟨gA, oA, none⟩) w v (t ++ kidsT (bs s) (kidT ns f n) (i + 1)) ⟨(n.op : Int), gset, gl, glo, ghi, gnm⟩ (some ⟨gI, oI, none⟩) cg w v5 w5) := by
          show Bxd _ _ _ _ _ _ _ _ _ _ _ _ _ _ _
          have := HX3.out.go E hW5 f5
          rw [HS0.out]
          simpa [List.append_assoc] using this
        clear hW5 f5
        go_wp2
        exact ⟨⟨i + 1, v5, rfl, by omega, HREL.out⟩, by simp [intOf]; omega⟩
    · have hie : i = m := by omega
      subst hie
      have HX1 := hidd X1
      clear X1
      go_wp2
      go_end0
      exact ⟨rfl, v1, HX1.out.wr, HX1.out.fr⟩
end
end Go.Proofs.YtghjkbjpdjlddaaDoor.Sy.Pn
