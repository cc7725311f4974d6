/- The reference's reader in memory; a node more. -/
import Derived.Test.YtahhiajliomcfaaPM4
namespace Go.Proofs.Ytahhiajliomcfaa.Sy.Rf
open Go.RowKit
set_option maxRecDepth 100000
set_option linter.unusedVariables false

abbrev qC (s : ByteArray) (i : Int) (v : Value) (d : Int) : Array Value := #[.string s, .int .i64 i, v, .int .i64 d, .int .i64 0, .int .i64 0]
/-- Block b is a reader with nothing wrong: its text, its place, its nodes, how deep it is. -/
def QR (w : World) (b : Nat) (s : ByteArray) (i : Int) (v : Value) (d : Int) : Prop := RowA w b 104 (qC s i v d)
section
variable {w w' : World} {b : Nat} {s : ByteArray} {i : Int} {v : Value} {d : Int}
theorem QR.cells (r : QR w b s i v d) : w.cell? ⟨b, 0, none⟩ = some (.string s) ∧ w.cell? ⟨b, 1, none⟩ = some (.int .i64 i) ∧ w.cell? ⟨b, 2, none⟩ = some v ∧ w.cell? ⟨b, 3, none⟩ = some (.int .i64 d) ∧ w.cell? ⟨b, 4, none⟩ = some (.int .i64 0) ∧ w.cell? ⟨b, 5, none⟩ = some (.int .i64 0) :=
  ⟨RowA.at_ r rfl, RowA.at_ r rfl, RowA.at_ r rfl, RowA.at_ r rfl, RowA.at_ r rfl, RowA.at_ r rfl⟩
theorem QR.thawed (r : QR w b s i v d) (o : Nat) : w.frozen? ⟨b, o, none⟩ = false := RowA.thawed r o
theorem QR.lt (r : QR w b s i v d) : b < w.heap.size := RowA.lt r
theorem QR.drewN (r : QR w b s i v d) (m : Nat) : QR (w.drewN m) b s i v d := r
theorem QR.drew (r : QR w b s i v d) : QR w.drew b s i v d := r
theorem QR.below {B : Nat} (r : QR w b s i v d) (hb : Below B w w') (hg : b < B) : QR w' b s i v d := RowA.below r hb hg
theorem QR.alloc (r : QR w b s i v d) (o : Obj) : QR (w.alloc o) b s i v d := RowA.alloc r o
theorem QR.atTo (r : QR w b s i v d) (j : Int) : QR (w.setCell ⟨b, 1, none⟩ (.int .i64 j)) b s j v d := by
  unfold QR RowA at r ⊢
  simp [World.setCell, Array.getElem?_modify, r]
theorem QR.deep (r : QR w b s i v d) (k : Int) : QR (w.setCell ⟨b, 3, none⟩ (.int .i64 k)) b s i v k := by
  unfold QR RowA at r ⊢
  simp [World.setCell, Array.getElem?_modify, r]
theorem QR.nodes (r : QR w b s i v d) (u : Value) : QR (w.setCell ⟨b, 2, none⟩ u) b s i u d := by
  unfold QR RowA at r ⊢
  simp [World.setCell, Array.getElem?_modify, r]
end
/-- The reader, and its nodes. -/
structure QS (w : World) (b : Nat) (s : ByteArray) (i d : Int) (v : Value) (l : List NR) : Prop where
  pr : QR w b s i v d
  own : w.ownsRow 0 42 9 v l.length (nodesC l)
  far : v.ownBlock ≠ some b
  kids : ∀ x ∈ l, Kid w b v x
section
variable {w w' w2 : World} {b : Nat} {v v' v2 : Value} {s : ByteArray} {i d : Int} {l l' l2 : List NR}
/-- What only the reader's own cells have turned by. -/
theorem QS.read {i' d' : Int} (p : QS w b s i d v l) (T : Touch b b w w') (R : QR w' b s i' v d') : QS w' b s i' d' v l :=
  ⟨R, by
    have hlt := p.own.lt
    rcases p.own with ⟨h1, h2⟩
    refine ⟨h1, ?_⟩
    rcases h2 with h2 | ⟨g, cap, cur, hv, hg, hh, r⟩
    · exact .inl h2
    · have hgl := (hlt g (by rw [hv]; rfl)).2
      have hgb : g ≠ b := fun e => p.far (by rw [hv, ← e]; rfl)
      exact .inr ⟨g, cap, cur, hv, hg, (T.block g hgl hgb hgb).trans hh, r⟩,
   p.far, fun x hx => (p.kids x hx).fr (Fr.of T v)⟩
end
namespace Ad
/-- The new slice of nodes. -/
def OwnP (w : World) (v : Value) (l : List NR) (z : Value) (u : World) : Prop := u.ownsRow 0 42 9 z l.length (nodesC l) ∧ (z.ownBlock = v.ownBlock ∨ ∃ k, z.ownBlock = some k ∧ w.heap.size ≤ k)
/-- Memory while a node is put behind the others. -/
structure AdS (w : World) (b : Nat) (s : ByteArray) (i d : Int) (v : Value) (l : List NR) (x : Gd) (A : Option Addr) (c : Nat) (B : Nat) (a : Act) (u : World) : Prop where
  box : RowA u B 42 (gdL x A c).toArray
  pr : QR u b s i v d
  grow : w.grownBy u v.ownBlock
  own : u.ownsRow 0 42 9 v l.length (nodesC l)
  app : ∀ z, a.tmps[12]? = some z → z = undef ∨ OwnP w v (l ++ [(x, A, c)]) z u
def n12 (d : Option Nat) : Bool := !(d == some 12)
section
variable {w u u' : World} {b : Nat} {s : ByteArray} {i d : Int} {v : Value} {l : List NR} {x : Gd} {A : Option Addr} {c B : Nat} {a : Act}
theorem grown_below {row : Option Nat} (h : w.grownBy u row) (hb : Below u.heap.size u u') : w.grownBy u' row :=
  ⟨hb.os.trans h.os, hb.tape.trans h.tape, hb.output.trans h.output, Nat.le_trans h.size hb.size, fun k hk hr => (hb.block k (Nat.lt_of_lt_of_le hk h.size)).trans (h.block k hk hr)⟩
theorem AdS.below (h : AdS w b s i d v l x A c B a u) (hb : Below u.heap.size u u') : AdS w b s i d v l x A c B a u' :=
  ⟨h.box.below hb h.box.lt, h.pr.below hb h.pr.lt, grown_below h.grow hb, own_below h.own hb (Nat.le_refl _), fun z hz => by
    rcases h.app z hz with h1 | ⟨h1, h2⟩
    · exact .inl h1
    · exact .inr ⟨own_below h1 hb (Nat.le_refl _), h2⟩⟩
theorem AdS.put (h : AdS w b s i d v l x A c B a u) {e : Option Nat} (he : n12 e = true) (z : Value) : AdS w b s i d v l x A c B (a.put e z) u := by
  have e8 : (a.put e z).tmps[12]? = a.tmps[12]? := by
    cases e with
    | none => rfl
    | some e => rw [put_tmps, Array.getElem?_setIfInBounds_ne (fun q => by subst q; simp [n12] at he)]
  exact ⟨h.box, h.pr, h.grow, h.own, fun y hy => h.app y (e8 ▸ hy)⟩
end
def Eb (v : Value) (d : Option Nat) (u u' : World) : Prop := if n12 d = true then Below u.heap.size u u' else u.grownBy u' v.ownBlock
theorem eby {v : Value} {d : Option Nat} {u u' : World} (hd : n12 d = true) (h : Below u.heap.size u u') : Eb v d u u' := by
  unfold Eb; rw [if_pos hd]; exact h
theorem ebw {v : Value} {d : Option Nat} {u u' : World} (hd : n12 d = false) (h : u.grownBy u' v.ownBlock) : Eb v d u u' := by
  unfold Eb; rw [if_neg (by rw [hd]; exact Bool.false_ne_true)]; exact h
/-- A new row of one node. -/
def NRow (w : World) (vv : Value) (x : Gd) (A : Option Addr) (c : Nat) (z : Value) (u : World) : Prop := ∃ g, z = .slice (some ⟨g, 0, none⟩) 1 1 ∧ vv.ownBlock ≠ some g ∧ w.heap.size ≤ g ∧ RowA u g 42 (gdL x A c).toArray

theorem own_not {v' : Value} {u1 : World} {n : Nat} {xs : List Value} (h : u1.ownsRow 0 42 9 v' n xs) : v' ≠ undef := fun e => by
  obtain ⟨A1, c1, h2⟩ := own_form h
  rw [h2] at e
  cases e
theorem AdS.app_ {w u u1 : World} {b : Nat} {s : ByteArray} {i d : Int} {v v' : Value} {l : List NR} {x : Gd} {A : Option Addr} {c : Nat} {a : Act} (hvl : ∀ k, v.ownBlock = some k → 0 ≤ k ∧ k < w.heap.size) (hfar : v.ownBlock ≠ some b) (hS : AdS w b s i d v l x A c w.heap.size a u)
    (h1 : u1.ownsRow 0 42 9 v' (l.length + 1) (nodesC l ++ gdL x A c)) (h2 : u1.ownsRow 0 42 9 v l.length (nodesC l)) (h3 : u.grownBy u1 v.ownBlock) (h4 : v'.ownBlock = v.ownBlock ∨ v'.ownBlock = some u.heap.size) : AdS w b s i d v l x A c w.heap.size (a.put (some 12) v') u1 := by
  refine ⟨(h3.block _ hS.box.lt (fun e => by have := (hvl _ e.symm).2; omega)).trans hS.box, (h3.block _ hS.pr.lt (fun e => hfar e.symm)).trans hS.pr, ⟨h3.os.trans hS.grow.os, h3.tape.trans hS.grow.tape, h3.output.trans hS.grow.output, Nat.le_trans hS.grow.size h3.size, fun k hk hr => (h3.block k (Nat.lt_of_lt_of_le hk hS.grow.size) hr).trans (hS.grow.block k hk hr)⟩, h2, fun z hz => .inr ?_⟩
  rw [put_tmps, Array.getElem?_setIfInBounds] at hz
  simp only [if_true] at hz
  split at hz
  · cases hz
    refine ⟨?_, ?_⟩
    · rw [List.length_append, ← nodesC_snoc]
      exact h1
    · rcases h4 with h4 | h4
      · exact .inl h4
      · exact .inr ⟨_, h4, hS.grow.size⟩
  · cases hz
theorem undef12 {w : World} {v0 v1 z : Value} (h : (#[v0, v1, undef, .pointer (some ⟨w.heap.size, 0, none⟩), .int .i64 0, undef, undef, undef, undef, undef, undef, undef, undef, undef, undef, undef, undef, undef, undef, undef, undef] : Array Value)[12]? = some z) : z = undef := (Option.some.inj h).symm

theorem fr_store {w u : World} {b : Nat} {v z : Value} (hg : w.grownBy u v.ownBlock) (hat : z.ownBlock = v.ownBlock ∨ ∃ k, z.ownBlock = some k ∧ w.heap.size ≤ k) (y : Value) : Fr b v z w (u.setCell ⟨b, 2, none⟩ y) := by
  refine ⟨hg.os, hg.tape, hg.output, by simpa [World.setCell] using hg.size, fun k hk h1 h2 => (Below.heap_setCell _ _ _ _ h1).trans (hg.block k hk (fun e => h2 e.symm)), fun k hk => ?_⟩
  rcases hat with h | ⟨q, h, h3⟩
  · exact .inl (h ▸ hk)
  · rw [h] at hk
    cases hk
    exact .inr h3
theorem own_far {u : World} {base : Nat} {e : TypeId} {sz n : Nat} {z : Value} {xs : List Value} (h : u.ownsRow base e sz z n xs) {a : Addr} (hb : z.ownBlock ≠ some a.block) (y : Value) : (u.setCell a y).ownsRow base e sz z n xs := by
  obtain ⟨h1, h2⟩ := h
  refine ⟨h1, ?_⟩
  rcases h2 with h2 | ⟨g, cap, cur, hv, hg, hh, r⟩
  · exact .inl h2
  · exact .inr ⟨g, cap, cur, hv, hg, (Below.heap_setCell _ _ _ _ (fun q => hb (by rw [hv, ← q]; rfl))).trans hh, r⟩
theorem ps_store {w u : World} {b : Nat} {s : ByteArray} {i d : Int} {v z : Value} {l : List NR} {x : Gd} {A : Option Addr} {c : Nat} (p : QS w b s i d v l) (hk : Kid w b v (x, A, c)) (hg : w.grownBy u v.ownBlock) (hat : z.ownBlock = v.ownBlock ∨ ∃ k, z.ownBlock = some k ∧ w.heap.size ≤ k)
    (R : QR u b s i v d) (hown : u.ownsRow 0 42 9 z (l ++ [(x, A, c)]).length (nodesC (l ++ [(x, A, c)]))) : QS (u.setCell ⟨b, 2, none⟩ z) b s i d z (l ++ [(x, A, c)]) := by
  have hf := fr_store (b := b) hg hat z
  have hzb : z.ownBlock ≠ some b := fun e => by
    rcases hf.own b e with h | h
    · exact p.far h
    · have := p.pr.lt; omega
  refine ⟨R.nodes z, own_far hown hzb _, hzb, fun y hy => ?_⟩
  rcases List.mem_append.1 hy with h | h
  · exact (p.kids y h).fr hf
  · rw [List.mem_singleton] at h
    subst h
    exact hk.fr hf

set_option linter.unusedVariables false in
def AdGV (w : World) (b B : Nat) (vv : Value) (x : Gd) (A : Option Addr) (c : Nat) (t : Nat) : Option Value :=
  match t with
  | 0 => some (.pointer (some ⟨b, 0, none⟩))
  | 3 => some (.pointer (some ⟨B, 0, none⟩))
  | 5 => some (.pointer (some ⟨b, 0, none⟩))
  | 6 => some (.pointer (some ⟨b, 0, none⟩))
  | 7 => some (.pointer (some ⟨b, 0, none⟩))
  | 8 => some (.pointer (some ⟨b, 2, none⟩))
  | 10 => some (.agg #[.int .u8 x.op, .int .u64 (W x.s 0), .int .u64 (W x.s 1), .int .u64 (W x.s 2), .int .u64 (W x.s 3), .slice A x.l.length c, .int .i64 x.lo, .int .i64 x.hi, .string x.nm])
  | _ => none
set_option linter.unusedVariables false in
def AdGP (w : World) (b B : Nat) (vv : Value) (x : Gd) (A : Option Addr) (c : Nat) (t : Nat) : Option (Value → World → Prop) :=
  match t with
  | 9 => some (fun z _ => z = vv)
  | 11 => some (NRow w vv x A c)
  | 12 => some (fun z _ => z ≠ undef)
  | _ => none
def AdG (w : World) (b B : Nat) (vv : Value) (x : Gd) (A : Option Addr) (c : Nat) (t : Nat) (v : Value) (u : World) : Prop := (∀ z9, AdGV w b B vv x A c t = some z9 → v = z9) ∧ ∀ R, AdGP w b B vv x A c t = some R → R v u

set_option maxHeartbeats 400000 in
theorem add_any {w : World} {b : Nat} {v : Value} {s : ByteArray} {i d : Int} {l : List NR} (p : QS w b s i d v l) (x : Gd) (A : Option Addr) (c : Nat) (hk : Kid w b v (x, A, c)) (hl : l.length ≤ 100000) :
    Calls Try.prog 75 #[.pointer (some ⟨b, 0, none⟩), .agg (gdL x A c).toArray] w fun e w' => e = .returned (.int .i64 (l.length : Int)) ∧ ∃ v', QS w' b s i d v' (l ++ [(x, A, c)]) ∧ Fr b v v' w w' := by
  obtain ⟨i0, hi0, hz0, hz1, hz2⟩ := info_parts node_info
  have hb := p.pr.lt
  have hvl := p.own.lt
  have hfar := p.far
  unfold gdL
  go_enter Try.func75, Try.ntmps75
  go_wp2_with fail
  have hnw : ∀ k, w.heap.size ≤ k → v.ownBlock ≠ some k := fun k h e => by have := (hvl k e).2; omega
  refine wp_region_slotsA 8 (by decide) (by kernel_rfl) (by kernel_rfl) (fun _ _ => true) (AdS w b s i d v l x A c w.heap.size) (AdG w b w.heap.size v x A c) (Eb v) (by kernel_rfl) (by kernel_rfl) (by kernel_rfl) (by kernel_rfl) ?_ ⟨(RowA.new w _ _), (p.pr.alloc _).drew, grown_below ⟨rfl, rfl, rfl, Nat.le_refl _, fun _ _ _ => rfl⟩ (bel_drew ((Below.refl _ _).alloc (Nat.le_refl _) _)), (p.own.alloc _).drew, fun z hz => .inl (undef12 hz)⟩ [0, 3] (by kernel_rfl) ?_ ?_ ?_
  · intro t d z u u' _ h hE
    refine ⟨h.1, fun R hR => ?_⟩
    have h2 := h.2 R hR
    unfold AdGP at hR
    split at hR
    · cases hR
      exact h2
    · cases hR
      obtain ⟨g, e, hgv, hg, r⟩ := h2
      refine ⟨g, e, hgv, hg, ?_⟩
      unfold Eb at hE
      split at hE
      · exact r.below hE r.lt
      · exact (hE.block g r.lt (fun q => hgv q.symm)).trans r
    · cases hR
      exact h2
    · cases hR
  · intro a u _
    refine ⟨⟨_, rfl, ?_⟩, ⟨_, rfl, ?_⟩, trivial⟩
    · exact ⟨fun _ h => Option.some.inj h, fun _ h => no_some h⟩
    · exact ⟨fun _ h => Option.some.inj h, fun _ h => no_some h⟩
  · refine ⟨?_, ?_, ?_, ?_, ?_, ?_, ?_, ?_, trivial⟩
    · intro a u hS hr K hK
      obtain ⟨⟨vl0, e0, g0⟩, -⟩ := hr
      obtain rfl := g0.1 _ rfl
      clear g0
      rw [if_pos (want_none rfl)]
      unfold Oper.wp
      go_simp
      exact hK _ _ ⟨fun _ h => Option.some.inj h, fun _ h => no_some h⟩ (hS.put rfl _) (eby rfl (Below.refl _ _))
    · intro a u hS hr K hK
      obtain ⟨⟨vl0, e0, g0⟩, -⟩ := hr
      obtain rfl := g0.1 _ rfl
      clear g0
      rw [if_pos (want_none rfl)]
      unfold Oper.wp
      go_simp
      exact hK _ _ ⟨fun _ h => Option.some.inj h, fun _ h => no_some h⟩ (hS.put rfl _) (eby rfl (Below.refl _ _))
    · intro a u hS hr K hK
      obtain ⟨⟨vl0, e0, g0⟩, -⟩ := hr
      obtain rfl := g0.1 _ rfl
      clear g0
      rw [if_pos (want_none rfl)]
      unfold Oper.wp
      go_simp
      exact hK _ _ ⟨fun _ h => Option.some.inj h, fun _ h => no_some h⟩ (hS.put rfl _) (eby rfl (Below.refl _ _))
    · intro a u hS hr K hK
      obtain ⟨⟨vl0, e0, g0⟩, -⟩ := hr
      obtain rfl := g0.1 _ rfl
      clear g0
      rw [if_pos (want_none rfl)]
      unfold Oper.wp
      go_simp
      exact hK _ _ ⟨fun _ h => Option.some.inj h, fun _ h => no_some h⟩ (hS.put rfl _) (eby rfl (Below.refl _ _))
    · intro a u hS hr K hK
      obtain ⟨⟨vl0, e0, g0⟩, -⟩ := hr
      obtain rfl := g0.1 _ rfl
      clear g0
      rw [if_pos (want_none rfl)]
      obtain ⟨c0, c1, c2, c3, c4, c5⟩ := hS.pr.cells
      unfold Oper.wp
      go_simp
      exact hK _ _ ⟨fun _ h => no_some h, fun _ h => spec_ok h rfl⟩ (hS.put rfl _) (eby rfl (Below.refl _ _))
    · intro a u hS hr K hK
      obtain ⟨⟨vl0, e0, g0⟩, -⟩ := hr
      obtain rfl := g0.1 _ rfl
      clear g0
      rw [if_pos (want_none rfl)]
      obtain ⟨c0, c1, c2, c3, c4, c5, c6, c7, c8⟩ := node_cells hS.box
      unfold Oper.wp
      go_simp
      exact hK _ _ ⟨fun _ h => Option.some.inj h, fun _ h => no_some h⟩ (hS.put rfl _) (eby rfl (Below.refl _ _))
    · intro a u hS hr K hK
      obtain ⟨⟨vl0, e0, g0⟩, -⟩ := hr
      obtain rfl := g0.1 _ rfl
      clear g0
      rw [if_pos (want_none rfl)]
      unfold Oper.wp
      go_simp
      exact hK _ _ ⟨fun _ h => no_some h, fun _ h => spec_ok h (⟨_, rfl, hnw _ hS.grow.size, hS.grow.size, RowA.new _ _ _⟩)⟩ ((hS.below ((Below.refl _ _).alloc (Nat.le_refl _) _)).put rfl _) (eby rfl ((Below.refl _ _).alloc (Nat.le_refl _) _))
    · intro a u hS hr K hK
      obtain ⟨⟨vl0, e0, g0⟩, ⟨vl1, e1, g1⟩, -⟩ := hr
      replace g0 := g0.2 _ rfl
      replace g1 := g1.2 _ rfl
      rw [if_pos (want_none rfl)]
      obtain ⟨g, rfl, hgv, hg, Rg⟩ := g1
      refine wp_append_both u (.tmp 9) (.tmp 11) 36 rfl 0 42 i0 _ 9 96 Try.underlying36 hi0 hz0 hz1 hz2 rfl (by omega) v l.length (nodesC l) ((eval_at e0).trans g0) hS.own ⟨g, 0, none⟩ 1 1 (gdL x A c) (eval_at e1) rfl (World.news_of_block Rg) (gdL_ones x A c) (by simp only [maxLen]; omega) (by omega) (Nat.zero_le _) ?_
      intro v' u1 h1 h2 h3 h4
      exact hK _ _ ⟨fun _ h => no_some h, fun _ h => spec_ok h (own_not h1)⟩ (hS.app_ hvl hfar h1 h2 h3 h4) (ebw rfl h3)
  intro a u hS hts hd hkn hf
  obtain ⟨v5, e5, g5⟩ := hf 0 _ 5 (by decide) rfl rfl (fun _ => rfl)
  obtain ⟨v6, e6, g6⟩ := hf 1 _ 6 (by decide) rfl rfl (fun _ => rfl)
  obtain ⟨v7, e7, g7⟩ := hf 2 _ 7 (by decide) rfl rfl (fun _ => rfl)
  obtain ⟨v8, e8, g8⟩ := hf 3 _ 8 (by decide) rfl rfl (fun _ => rfl)
  obtain ⟨v9, e9, g9⟩ := hf 4 _ 9 (by decide) rfl rfl (fun _ => rfl)
  obtain ⟨v10, e10, g10⟩ := hf 5 _ 10 (by decide) rfl rfl (fun _ => rfl)
  obtain ⟨v11, e11, g11⟩ := hf 6 _ 11 (by decide) rfl rfl (fun _ => rfl)
  obtain ⟨v12, e12, g12⟩ := hf 7 _ 12 (by decide) rfl rfl (fun _ => rfl)
  obtain ⟨v13, e13⟩ : ∃ z, a.tmps[13]? = some z := ⟨_, Array.getElem?_eq_getElem (by rw [hts]; simp)⟩
  obtain ⟨v14, e14⟩ : ∃ z, a.tmps[14]? = some z := ⟨_, Array.getElem?_eq_getElem (by rw [hts]; simp)⟩
  have hA := act_puts [(5, v5), (6, v6), (7, v7), (8, v8), (9, v9), (10, v10), (11, v11), (12, v12), (13, v13), (14, v14)] hts hd hkn (by kernel_rfl) (by simp [e5, e6, e7, e8, e9, e10, e11, e12, e13, e14])
  have hown := (hS.app v12 e12).resolve_left (g12.2 _ rfl)
  have hgrow := hS.grow
  have R := hS.pr
  clear hS
  clear hf hts hd hkn e5 e6 e7 e8 e9 e10 e11 e12 e13 e14
  obtain rfl := g5.1 _ rfl
  clear g5
  obtain rfl := g6.1 _ rfl
  clear g6
  obtain rfl := g7.1 _ rfl
  clear g7
  obtain rfl := g8.1 _ rfl
  clear g8
  replace g9 := g9.2 _ rfl
  obtain rfl := g10.1 _ rfl
  clear g10
  replace g11 := g11.2 _ rfl
  replace g12 := g12.2 _ rfl
  subst hA
  simp only [List.foldl, List.setIfInBounds_toArray, List.set_cons_zero, List.set_cons_succ]
  simp only [List.drop_succ_cons, List.drop_zero]
  clear g9 g11 g12
  obtain ⟨hown, hat⟩ := hown
  obtain ⟨c0, c1, c2, c3, c4, c5⟩ := R.cells
  have ht := R.thawed
  obtain ⟨A2, cc, rfl⟩ := own_form hown
  have hfr := fr_store (b := b) hgrow hat (.slice A2 (l.length + 1) cc)
  have hps := ps_store p hk hgrow hat R hown
  have hln : (l ++ [(x, A, c)]).length = l.length + 1 := by simp
  rw [hln] at hfr hps
  have HF := hidd hfr
  have HP := hidd hps
  clear hfr hps hln hown hat hgrow
  go_wp2
  go_ret
  exact ⟨rfl, _, HP.out, HF.out⟩
end Ad
/-- A row of kids that a call of the parser makes, apart from all else. -/
structure Loc (w0 w : World) (b : Nat) (v : Value) (l : List NR) (rv : Value) (xs : List Nat) : Prop where
  own : w.ownsRow 0 3 1 rv xs.length (i64s xs)
  nb : rv.ownBlock ≠ some b
  nv : ∀ k, rv.ownBlock = some k → v.ownBlock ≠ some k
  nk : ∀ x ∈ l, ∀ a, x.2.1 = some a → x.1.l ≠ [] → rv.ownBlock ≠ some a.block
  new : ∀ k, rv.ownBlock = some k → w0.heap.size ≤ k
section
variable {w0 w w' : World} {b : Nat} {v0 v v' rv : Value} {s : ByteArray} {i d : Int} {l0 l l' : List NR} {xs : List Nat}
theorem loc_nil (w0 w : World) (b : Nat) (v : Value) (l : List NR) : Loc w0 w b v l (.slice none 0 0) [] :=
  ⟨⟨rfl, .inl ⟨rfl, rfl⟩⟩, nofun, nofun, fun _ _ _ _ _ => nofun, nofun⟩
/-- A local row is kept by a call that makes nodes. -/
theorem Loc.goes (L : Loc w0 w b v l rv xs) (g : Goes b v l v' l' w w') : Loc w0 w' b v' l' rv xs := by
  have hlt := L.own.lt
  obtain ⟨m, h1, h2⟩ := g.new
  refine ⟨own_fr L.own g.fr L.nb L.nv, L.nb, fun k hk e => ?_, fun x hx a ha hl e => ?_, L.new⟩
  · rcases g.fr.own k e with h | h
    · exact L.nv k hk h
    · have := (hlt k hk).2; omega
  · rw [h1] at hx
    rcases List.mem_append.1 hx with h | h
    · exact L.nk x h a ha hl e
    · have := h2 x h a ha hl
      have := (hlt _ e).2
      omega
theorem Loc.read (L : Loc w0 w b v l rv xs) (T : Touch b b w w') : Loc w0 w' b v l rv xs := L.goes ((Goes.refl b v l w).read T)
/-- The parser is kept by an append to a local row. -/
theorem QS.grown (p : QS w b s i d v l) (L : Loc w0 w b v l rv xs) (g : w.grownBy w' rv.ownBlock) : QS w' b s i d v l := by
  have hlt := p.own.lt
  refine ⟨(g.block b p.pr.lt (fun e => L.nb e.symm)).trans p.pr, p.own.kept g ?_, p.far, fun x hx hl => ?_⟩
  · cases hv : v.ownBlock with
    | none => exact .inl rfl
    | some k => exact .inr (fun e => L.nv k e.symm hv)
  · obtain ⟨q, off, h1, h2, h3, h4, h5⟩ := p.kids x hx hl
    exact ⟨q, off, h1, Nat.lt_of_lt_of_le h2 g.size, h3, h4, fun i hi => (World.cell?_of_block (g.block q h2 (fun e => L.nk x hx _ h1 hl e.symm))).trans (h5 i hi)⟩
theorem Goes.grown (a : Goes b v0 l0 v l w0 w) (L : Loc w0 w b v l rv xs) (g : w.grownBy w' rv.ownBlock) : Goes b v0 l0 v l w0 w' := by
  refine ⟨⟨g.os.trans a.fr.os, g.tape.trans a.fr.tape, g.output.trans a.fr.output, Nat.le_trans a.fr.size g.size, fun k hk h1 h2 => (g.block k (Nat.lt_of_lt_of_le hk a.fr.size) (fun e => ?_)).trans (a.fr.block k hk h1 h2), a.fr.own⟩, a.new⟩
  have := L.new k e.symm
  omega
theorem QS.alloc (p : QS w b s i d v l) (o : Obj) : QS (w.alloc o) b s i d v l := p.read ((Touch.refl b b w).alloc o) (p.pr.alloc o)
/-- One more kid. -/
theorem Loc.push {H g cap k : Nat} (p : QS w b s i d v l) (L : Loc w0 w b v l rv xs) (hH : w.heap.size = H) (h0 : w0.heap.size ≤ H) (hown : w'.ownsRow 0 3 1 (.slice (some ⟨g, 0, none⟩) (xs.length + 1) cap) (xs.length + 1) (i64s xs ++ [.int .i64 (k : Int)])) (hat : rv.ownBlock = some g ∨ g = H) :
    Loc w0 w' b v l (.slice (some ⟨g, 0, none⟩) (xs.length + 1) cap) (xs ++ [k]) := by
  have hlt := p.own.lt
  have hb := p.pr.lt
  rw [i64s_snoc] at hown
  refine ⟨by rw [List.length_append]; exact hown, fun e => ?_, fun q hq e => ?_, fun x hx a ha hl e => ?_, fun q hq => ?_⟩
  · have e1 : g = b := Option.some.inj e
    rcases hat with h | h
    · exact L.nb (e1 ▸ h)
    · omega
  · have e1 : g = q := Option.some.inj hq
    subst e1
    rcases hat with h | h
    · exact L.nv g h e
    · have := (hlt g e).2; omega
  · have e1 : g = a.block := Option.some.inj e
    rcases hat with h | h
    · exact L.nk x hx a ha hl (e1 ▸ h)
    · obtain ⟨q, off, h1, h2, -⟩ := p.kids x hx hl
      rw [ha] at h1
      have h3 := Option.some.inj h1
      rw [h3] at e1
      simp only at e1
      omega
  · have e1 : g = q := Option.some.inj hq
    subst e1
    rcases hat with h | h
    · exact L.new g h
    · omega

/-- A row's kids as a node's kids. -/
theorem Loc.kid (L : Loc w0 w b v l rv xs) (op : Int) (hx : 1 ≤ xs.length) : ∃ g c, rv = .slice (some ⟨g, 0, none⟩) xs.length c ∧ w0.heap.size ≤ g ∧ Kid w b v (catG op (xs.map fun k : Nat => (k : Int)), some ⟨g, 0, none⟩, c) := by
  obtain ⟨g, c, h1, _, h2⟩ := own_pos L.own (by omega)
  have e : rv.ownBlock = some g := by rw [h1]; rfl
  have hown := L.own
  refine ⟨g, c, h1, L.new g e, fun _ => ⟨g, 0, rfl, h2, fun q => L.nb (q ▸ e), L.nv g e, ?_⟩⟩
  rw [h1] at hown
  exact i64s_kid xs g hown rfl
end

end Go.Proofs.Ytahhiajliomcfaa.Sy.Rf
