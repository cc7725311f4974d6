/- M4: what were Tk Tl Tm Tn To Tp Tq Tr Ts Tt Tu Tv Tw. -/
import Derived.Test.YtghjkbjpdjlddaaDoorM3
import Derived.Test.YtghjkbjpdjlddaaDoorRr
import Derived.Deep.AppendLies
import Derived.Test.YtghjkbjpdjlddaaDoorM2

/- The landed parser's nodes in memory; a node more, and a row's or an alternative's node. -/
namespace Go.Proofs.YtghjkbjpdjlddaaDoor.Sy
open Go.RowKit
set_option maxRecDepth 100000

/-- A node and where its kids lie. -/
abbrev NR := Gd × Option Addr × Nat
/-- The kids of a node lie apart from the parser and from its nodes. -/
def Kid (w : World) (b : Nat) (v : Value) (x : NR) : Prop :=
  x.1.l ≠ [] → ∃ q off, x.2.1 = some ⟨q, off, none⟩ ∧ q < w.heap.size ∧ q ≠ b ∧ v.ownBlock ≠ some q ∧ ∀ i, i < x.1.l.length → w.cell? ⟨q, off + i, none⟩ = some (.int .i64 (x.1.l.getD i 0))
/-- The parser, and its nodes. -/
structure PS (w : World) (b : Nat) (s : ByteArray) (i er pl d : Int) (v : Value) (l : List NR) : Prop where
  pr : PR w b s i er pl v d
  own : w.ownsRow 0 30 9 v l.length (nodesC l)
  far : v.ownBlock ≠ some b
  kids : ∀ x ∈ l, Kid w b v x
  ev : EV w
  eb : 5 ≠ b
  en : v.ownBlock ≠ some 5
/-- What a call may turn: the parser, and the row of its nodes. -/
structure Fr (b : Nat) (v v' : Value) (w w' : World) : Prop where
  os : w'.os = w.os
  tape : w'.tape = w.tape
  output : w'.output = w.output
  size : w.heap.size ≤ w'.heap.size
  block : ∀ k, k < w.heap.size → k ≠ b → v.ownBlock ≠ some k → w'.heap[k]? = w.heap[k]?
  own : ∀ k, v'.ownBlock = some k → v.ownBlock = some k ∨ w.heap.size ≤ k
section
variable {w w' w2 : World} {b : Nat} {v v' v2 : Value} {s : ByteArray} {i er pl d : Int} {l l' l2 : List NR}
theorem Fr.refl (b : Nat) (v : Value) (w : World) : Fr b v v w w := ⟨rfl, rfl, rfl, Nat.le_refl _, fun _ _ _ _ => rfl, fun _ h => .inl h⟩
theorem Fr.trans (a : Fr b v v' w w') (c : Fr b v' v2 w' w2) : Fr b v v2 w w2 := by
  refine ⟨c.os.trans a.os, c.tape.trans a.tape, c.output.trans a.output, Nat.le_trans a.size c.size, fun k hk h1 h2 => ?_, fun k hk => ?_⟩
  · refine (c.block k (Nat.lt_of_lt_of_le hk a.size) h1 fun e => ?_).trans (a.block k hk h1 h2)
    rcases a.own k e with h | h
    · exact h2 h
    · omega
  · rcases c.own k hk with h | h
    · exact a.own k h
    · exact .inr (Nat.le_trans a.size h)
theorem Fr.of (a : Touch b b w w') (v : Value) : Fr b v v w w' := ⟨a.os, a.tape, a.output, a.size, fun k hk h1 _ => a.block k hk h1 h1, fun _ h => .inl h⟩
theorem EV.fr (h : EV w) (a : Fr b v v' w w') (hb : 5 ≠ b) (hv : v.ownBlock ≠ some 5) : EV w' := by
  have hl := h.lt
  obtain ⟨ev, h1, h2⟩ := h
  exact ⟨ev, (World.cell?_of_block (a.block _ hl hb hv)).trans h1, h2⟩
theorem Kid.fr {x : NR} (h : Kid w b v x) (a : Fr b v v' w w') : Kid w' b v' x := fun hx => by
  obtain ⟨q, off, h1, h2, h3, h4, h5⟩ := h hx
  refine ⟨q, off, h1, Nat.lt_of_lt_of_le h2 a.size, h3, fun e => ?_, fun i hi => (World.cell?_of_block (a.block q h2 h3 h4)).trans (h5 i hi)⟩
  rcases a.own q e with h | h
  · exact h4 h
  · omega
/-- What only the parser's own cells have turned by. -/
theorem PS.read {i' er' pl' d' : Int} (p : PS w b s i er pl d v l) (T : Touch b b w w') (R : PR w' b s i' er' pl' v d') : PS w' b s i' er' pl' d' v l :=
  ⟨R, by
    have hlt := p.own.lt
    rcases p.own with ⟨h1, h2⟩
    refine ⟨h1, ?_⟩
    rcases h2 with h2 | ⟨g, cap, cur, hv, hg, hh, r⟩
    · exact .inl h2
    · have hgl := (hlt g (by rw [hv]; rfl)).2
      have hgb : g ≠ b := fun e => p.far (by rw [hv, ← e]; rfl)
      exact .inr ⟨g, cap, cur, hv, hg, (T.block g hgl hgb hgb).trans hh, r⟩,
   p.far, fun x hx => (p.kids x hx).fr (Fr.of T v), EV.fr p.ev (Fr.of T v) p.eb p.en, p.eb, p.en⟩
theorem node_info : (Tryd.prog.info? 30).map (fun i => (i.zero, i.size, i.bytes)) = some (some (.agg zeroC), 9, 96) := by kernel_rfl
theorem nodesC_snoc (l : List NR) (x : NR) : nodesC l ++ gdL x.1 x.2.1 x.2.2 = nodesC (l ++ [x]) := by simp [nodesC]
theorem gdL_ones (g : Gd) (A : Option Addr) (c : Nat) : ∀ u ∈ gdL g A c, u.oneCell' = true := by
  intro u hu
  simp only [gdL, List.mem_cons, List.not_mem_nil, or_false] at hu
  rcases hu with rfl | rfl | rfl | rfl | rfl | rfl | rfl | rfl | rfl <;> rfl

end
namespace Ad
/-- The new slice of nodes. -/
def OwnP (w : World) (v : Value) (l : List NR) (z : Value) (u : World) : Prop := u.ownsRow 0 30 9 z l.length (nodesC l) ∧ (z.ownBlock = v.ownBlock ∨ ∃ k, z.ownBlock = some k ∧ w.heap.size ≤ k)
/-- Memory while a node is put behind the others. -/
structure AdS (w : World) (b : Nat) (s : ByteArray) (i er pl d : Int) (v : Value) (l : List NR) (x : Gd) (A : Option Addr) (c : Nat) (B : Nat) (a : Act) (u : World) : Prop where
  box : RowA u B 30 (gdL x A c).toArray
  pr : PR u b s i er pl v d
  grow : w.grownBy u v.ownBlock
  own : u.ownsRow 0 30 9 v l.length (nodesC l)
  app : ∀ z, a.tmps[12]? = some z → z = undef ∨ OwnP w v (l ++ [(x, A, c)]) z u
def n12 (d : Option Nat) : Bool := !(d == some 12)
section
variable {w u u' : World} {b : Nat} {s : ByteArray} {i er pl d : Int} {v : Value} {l : List NR} {x : Gd} {A : Option Addr} {c B : Nat} {a : Act}
theorem grown_below {row : Option Nat} (h : w.grownBy u row) (hb : Below u.heap.size u u') : w.grownBy u' row :=
  ⟨hb.os.trans h.os, hb.tape.trans h.tape, hb.output.trans h.output, Nat.le_trans h.size hb.size, fun k hk hr => (hb.block k (Nat.lt_of_lt_of_le hk h.size)).trans (h.block k hk hr)⟩
theorem AdS.below (h : AdS w b s i er pl d v l x A c B a u) (hb : Below u.heap.size u u') : AdS w b s i er pl d v l x A c B a u' :=
  ⟨h.box.below hb h.box.lt, h.pr.below hb h.pr.lt, grown_below h.grow hb, own_below h.own hb (Nat.le_refl _), fun z hz => by
    rcases h.app z hz with h1 | ⟨h1, h2⟩
    · exact .inl h1
    · exact .inr ⟨own_below h1 hb (Nat.le_refl _), h2⟩⟩
theorem AdS.put (h : AdS w b s i er pl d v l x A c B a u) {e : Option Nat} (he : n12 e = true) (z : Value) : AdS w b s i er pl d v l x A c B (a.put e z) u := by
  have e8 : (a.put e z).tmps[12]? = a.tmps[12]? := by
    cases e with
    | none => rfl
    | some e => rw [put_tmps, Array.getElem?_setIfInBounds_ne (fun q => by subst q; simp [n12] at he)]
  exact ⟨h.box, h.pr, h.grow, h.own, fun y hy => h.app y (e8 ▸ hy)⟩
end
def Eb (v : Value) (d : Option Nat) (u u' : World) : Prop := if n12 d = true then Below u.heap.size u u' else u.grownBy u' v.ownBlock
theorem eby {v : Value} {d : Option Nat} {u u' : World} (hd : n12 d = true) (h : Below u.heap.size u u') : Eb v d u u' := by
  unfold Eb; rw [if_pos hd]; exact h
theorem ebw {v : Value} {d : Option Nat} {u u' : World} (hd : n12 d = false) (h : u.grownBy u' v.ownBlock) : Eb v d u u' := by
  unfold Eb; rw [if_neg (by rw [hd]; exact Bool.false_ne_true)]; exact h
/-- A new row of one node. -/
def NRow (w : World) (vv : Value) (x : Gd) (A : Option Addr) (c : Nat) (z : Value) (u : World) : Prop := ∃ g, z = .slice (some ⟨g, 0, none⟩) 1 1 ∧ vv.ownBlock ≠ some g ∧ w.heap.size ≤ g ∧ RowA u g 30 (gdL x A c).toArray

theorem own_not {v' : Value} {u1 : World} {n : Nat} {xs : List Value} (h : u1.ownsRow 0 30 9 v' n xs) : v' ≠ undef := fun e => by
  obtain ⟨A1, c1, h2⟩ := own_form h
  rw [h2] at e
  cases e
theorem AdS.app_ {w u u1 : World} {b : Nat} {s : ByteArray} {i er pl d : Int} {v v' : Value} {l : List NR} {x : Gd} {A : Option Addr} {c : Nat} {a : Act} (hvl : ∀ k, v.ownBlock = some k → 0 ≤ k ∧ k < w.heap.size) (hfar : v.ownBlock ≠ some b) (hS : AdS w b s i er pl d v l x A c w.heap.size a u)
    (h1 : u1.ownsRow 0 30 9 v' (l.length + 1) (nodesC l ++ gdL x A c)) (h2 : u1.ownsRow 0 30 9 v l.length (nodesC l)) (h3 : u.grownBy u1 v.ownBlock) (h4 : v'.ownBlock = v.ownBlock ∨ v'.ownBlock = some u.heap.size) : AdS w b s i er pl d v l x A c w.heap.size (a.put (some 12) v') u1 := by
  refine ⟨(h3.block _ hS.box.lt (fun e => by have := (hvl _ e.symm).2; omega)).trans hS.box, (h3.block _ hS.pr.lt (fun e => hfar e.symm)).trans hS.pr, ⟨h3.os.trans hS.grow.os, h3.tape.trans hS.grow.tape, h3.output.trans hS.grow.output, Nat.le_trans hS.grow.size h3.size, fun k hk hr => (h3.block k (Nat.lt_of_lt_of_le hk hS.grow.size) hr).trans (hS.grow.block k hk hr)⟩, h2, fun z hz => .inr ?_⟩
  rw [put_tmps, Array.getElem?_setIfInBounds] at hz
  simp only [if_true] at hz
  split at hz
  · cases hz
    refine ⟨?_, ?_⟩
    · rw [List.length_append, ← nodesC_snoc]
      exact h1
    · rcases h4 with h4 | h4
      · exact .inl h4
      · exact .inr ⟨_, h4, hS.grow.size⟩
  · cases hz
theorem undef12 {w : World} {v0 v1 z : Value} (h : (#[v0, v1, undef, .pointer (some ⟨w.heap.size, 0, none⟩), .int .i64 0, undef, undef, undef, undef, undef, undef, undef, undef, undef, undef, undef, undef, undef, undef, undef, undef] : Array Value)[12]? = some z) : z = undef := (Option.some.inj h).symm

theorem fr_store {w u : World} {b : Nat} {v z : Value} (hg : w.grownBy u v.ownBlock) (hat : z.ownBlock = v.ownBlock ∨ ∃ k, z.ownBlock = some k ∧ w.heap.size ≤ k) (y : Value) : Fr b v z w (u.setCell ⟨b, 4, none⟩ y) := by
  refine ⟨hg.os, hg.tape, hg.output, by simpa [World.setCell] using hg.size, fun k hk h1 h2 => (Below.heap_setCell _ _ _ _ h1).trans (hg.block k hk (fun e => h2 e.symm)), fun k hk => ?_⟩
  rcases hat with h | ⟨q, h, h3⟩
  · exact .inl (h ▸ hk)
  · rw [h] at hk
    cases hk
    exact .inr h3
theorem own_far {u : World} {base : Nat} {e : TypeId} {sz n : Nat} {z : Value} {xs : List Value} (h : u.ownsRow base e sz z n xs) {a : Addr} (hb : z.ownBlock ≠ some a.block) (y : Value) : (u.setCell a y).ownsRow base e sz z n xs := by
  obtain ⟨h1, h2⟩ := h
  refine ⟨h1, ?_⟩
  rcases h2 with h2 | ⟨g, cap, cur, hv, hg, hh, r⟩
  · exact .inl h2
  · exact .inr ⟨g, cap, cur, hv, hg, (Below.heap_setCell _ _ _ _ (fun q => hb (by rw [hv, ← q]; rfl))).trans hh, r⟩
theorem ps_store {w u : World} {b : Nat} {s : ByteArray} {i er pl d : Int} {v z : Value} {l : List NR} {x : Gd} {A : Option Addr} {c : Nat} (p : PS w b s i er pl d v l) (hk : Kid w b v (x, A, c)) (hg : w.grownBy u v.ownBlock) (hat : z.ownBlock = v.ownBlock ∨ ∃ k, z.ownBlock = some k ∧ w.heap.size ≤ k)
    (R : PR u b s i er pl v d) (hown : u.ownsRow 0 30 9 z (l ++ [(x, A, c)]).length (nodesC (l ++ [(x, A, c)]))) : PS (u.setCell ⟨b, 4, none⟩ z) b s i er pl d z (l ++ [(x, A, c)]) := by
  have hf := fr_store (b := b) hg hat z
  have hzb : z.ownBlock ≠ some b := fun e => by
    rcases hf.own b e with h | h
    · exact p.far h
    · have := p.pr.lt; omega
  refine ⟨R.nodes z, own_far hown hzb _, hzb, fun y hy => ?_, EV.fr p.ev hf p.eb p.en, p.eb, fun e => ?_⟩
  · rcases List.mem_append.1 hy with h | h
    · exact (p.kids y h).fr hf
    · rw [List.mem_singleton] at h
      subst h
      exact hk.fr hf
  · rcases hf.own _ e with h | h
    · exact p.en h
    · have := p.ev.lt; omega

set_option linter.unusedVariables false in
def AdGV (w : World) (b B : Nat) (vv : Value) (x : Gd) (A : Option Addr) (c : Nat) (t : Nat) : Option Value :=
  match t with
  | 0 => some (.pointer (some ⟨b, 0, none⟩))
  | 3 => some (.pointer (some ⟨B, 0, none⟩))
  | 5 => some (.pointer (some ⟨b, 0, none⟩))
  | 6 => some (.pointer (some ⟨b, 0, none⟩))
  | 7 => some (.pointer (some ⟨b, 0, none⟩))
  | 8 => some (.pointer (some ⟨b, 4, none⟩))
  | 10 => some (.agg #[.int .u8 x.op, .int .u64 (W x.s 0), .int .u64 (W x.s 1), .int .u64 (W x.s 2), .int .u64 (W x.s 3), .slice A x.l.length c, .int .i64 x.lo, .int .i64 x.hi, .string x.nm])
  | _ => none
set_option linter.unusedVariables false in
def AdGP (w : World) (b B : Nat) (vv : Value) (x : Gd) (A : Option Addr) (c : Nat) (t : Nat) : Option (Value → World → Prop) :=
  match t with
  | 9 => some (fun z _ => z = vv)
  | 11 => some (NRow w vv x A c)
  | 12 => some (fun z _ => z ≠ undef)
  | _ => none
def AdG (w : World) (b B : Nat) (vv : Value) (x : Gd) (A : Option Addr) (c : Nat) (t : Nat) (v : Value) (u : World) : Prop := (∀ z9, AdGV w b B vv x A c t = some z9 → v = z9) ∧ ∀ R, AdGP w b B vv x A c t = some R → R v u

set_option maxHeartbeats 400000 in
theorem add_any {w : World} {b : Nat} {v : Value} {s : ByteArray} {i er pl d : Int} {l : List NR} (p : PS w b s i er pl d v l) (x : Gd) (A : Option Addr) (c : Nat) (hk : Kid w b v (x, A, c)) (hl : l.length ≤ 100000) :
    Calls Tryd.prog 71 #[.pointer (some ⟨b, 0, none⟩), .agg (gdL x A c).toArray] w fun e w' => e = .returned (.int .i64 (l.length : Int)) ∧ ∃ v', PS w' b s i er pl d v' (l ++ [(x, A, c)]) ∧ Fr b v v' w w' := by
  obtain ⟨i0, hi0, hz0, hz1, hz2⟩ := info_parts node_info
  have hb := p.pr.lt
  have hvl := p.own.lt
  have hfar := p.far
  unfold gdL
  go_enter Tryd.func71, Tryd.ntmps71
  go_wp2_with fail
  have hnw : ∀ k, w.heap.size ≤ k → v.ownBlock ≠ some k := fun k h e => by have := (hvl k e).2; omega
  refine wp_region_slotsA 8 (by decide) (by kernel_rfl) (by kernel_rfl) (fun _ _ => true) (AdS w b s i er pl d v l x A c w.heap.size) (AdG w b w.heap.size v x A c) (Eb v) (by kernel_rfl) (by kernel_rfl) (by kernel_rfl) (by kernel_rfl) ?_ ⟨(RowA.new w _ _), (p.pr.alloc _).drew, grown_below ⟨rfl, rfl, rfl, Nat.le_refl _, fun _ _ _ => rfl⟩ (bel_drew ((Below.refl _ _).alloc (Nat.le_refl _) _)), (p.own.alloc _).drew, fun z hz => .inl (undef12 hz)⟩ [0, 3] (by kernel_rfl) ?_ ?_ ?_
  · intro t d z u u' _ h hE
    refine ⟨h.1, fun R hR => ?_⟩
    have h2 := h.2 R hR
    unfold AdGP at hR
    split at hR
    · cases hR
      exact h2
    · cases hR
      obtain ⟨g, e, hgv, hg, r⟩ := h2
      refine ⟨g, e, hgv, hg, ?_⟩
      unfold Eb at hE
      split at hE
      · exact r.below hE r.lt
      · exact (hE.block g r.lt (fun q => hgv q.symm)).trans r
    · cases hR
      exact h2
    · cases hR
  · intro a u _
    refine ⟨⟨_, rfl, ?_⟩, ⟨_, rfl, ?_⟩, trivial⟩
    · exact ⟨fun _ h => Option.some.inj h, fun _ h => no_some h⟩
    · exact ⟨fun _ h => Option.some.inj h, fun _ h => no_some h⟩
  · refine ⟨?_, ?_, ?_, ?_, ?_, ?_, ?_, ?_, trivial⟩
    · intro a u hS hr K hK
      obtain ⟨⟨vl0, e0, g0⟩, -⟩ := hr
      obtain rfl := g0.1 _ rfl
      clear g0
      rw [if_pos (want_none rfl)]
      unfold Oper.wp
      go_simp
      exact hK _ _ ⟨fun _ h => Option.some.inj h, fun _ h => no_some h⟩ (hS.put rfl _) (eby rfl (Below.refl _ _))
    · intro a u hS hr K hK
      obtain ⟨⟨vl0, e0, g0⟩, -⟩ := hr
      obtain rfl := g0.1 _ rfl
      clear g0
      rw [if_pos (want_none rfl)]
      unfold Oper.wp
      go_simp
      exact hK _ _ ⟨fun _ h => Option.some.inj h, fun _ h => no_some h⟩ (hS.put rfl _) (eby rfl (Below.refl _ _))
    · intro a u hS hr K hK
      obtain ⟨⟨vl0, e0, g0⟩, -⟩ := hr
      obtain rfl := g0.1 _ rfl
      clear g0
      rw [if_pos (want_none rfl)]
      unfold Oper.wp
      go_simp
      exact hK _ _ ⟨fun _ h => Option.some.inj h, fun _ h => no_some h⟩ (hS.put rfl _) (eby rfl (Below.refl _ _))
    · intro a u hS hr K hK
      obtain ⟨⟨vl0, e0, g0⟩, -⟩ := hr
      obtain rfl := g0.1 _ rfl
      clear g0
      rw [if_pos (want_none rfl)]
      unfold Oper.wp
      go_simp
      exact hK _ _ ⟨fun _ h => Option.some.inj h, fun _ h => no_some h⟩ (hS.put rfl _) (eby rfl (Below.refl _ _))
    · intro a u hS hr K hK
      obtain ⟨⟨vl0, e0, g0⟩, -⟩ := hr
      obtain rfl := g0.1 _ rfl
      clear g0
      rw [if_pos (want_none rfl)]
      obtain ⟨c0, c1, c2, c3, c4, c5⟩ := hS.pr.cells
      unfold Oper.wp
      go_simp
      exact hK _ _ ⟨fun _ h => no_some h, fun _ h => spec_ok h rfl⟩ (hS.put rfl _) (eby rfl (Below.refl _ _))
    · intro a u hS hr K hK
      obtain ⟨⟨vl0, e0, g0⟩, -⟩ := hr
      obtain rfl := g0.1 _ rfl
      clear g0
      rw [if_pos (want_none rfl)]
      obtain ⟨c0, c1, c2, c3, c4, c5, c6, c7, c8⟩ := node_cells hS.box
      unfold Oper.wp
      go_simp
      exact hK _ _ ⟨fun _ h => Option.some.inj h, fun _ h => no_some h⟩ (hS.put rfl _) (eby rfl (Below.refl _ _))
    · intro a u hS hr K hK
      obtain ⟨⟨vl0, e0, g0⟩, -⟩ := hr
      obtain rfl := g0.1 _ rfl
      clear g0
      rw [if_pos (want_none rfl)]
      unfold Oper.wp
      go_simp
      exact hK _ _ ⟨fun _ h => no_some h, fun _ h => spec_ok h (⟨_, rfl, hnw _ hS.grow.size, hS.grow.size, RowA.new _ _ _⟩)⟩ ((hS.below ((Below.refl _ _).alloc (Nat.le_refl _) _)).put rfl _) (eby rfl ((Below.refl _ _).alloc (Nat.le_refl _) _))
    · intro a u hS hr K hK
      obtain ⟨⟨vl0, e0, g0⟩, ⟨vl1, e1, g1⟩, -⟩ := hr
      replace g0 := g0.2 _ rfl
      replace g1 := g1.2 _ rfl
      rw [if_pos (want_none rfl)]
      obtain ⟨g, rfl, hgv, hg, Rg⟩ := g1
      refine wp_append_both u (.tmp 9) (.tmp 11) 24 rfl 0 30 i0 _ 9 96 Tryd.underlying24 hi0 hz0 hz1 hz2 rfl (by omega) v l.length (nodesC l) ((eval_at e0).trans g0) hS.own ⟨g, 0, none⟩ 1 1 (gdL x A c) (eval_at e1) rfl (World.news_of_block Rg) (gdL_ones x A c) (by simp only [maxLen]; omega) (by omega) (Nat.zero_le _) ?_
      intro v' u1 h1 h2 h3 h4
      exact hK _ _ ⟨fun _ h => no_some h, fun _ h => spec_ok h (own_not h1)⟩ (hS.app_ hvl hfar h1 h2 h3 h4) (ebw rfl h3)
  intro a u hS hts hd hkn hf
  obtain ⟨v5, e5, g5⟩ := hf 0 _ 5 (by decide) rfl rfl (fun _ => rfl)
  obtain ⟨v6, e6, g6⟩ := hf 1 _ 6 (by decide) rfl rfl (fun _ => rfl)
  obtain ⟨v7, e7, g7⟩ := hf 2 _ 7 (by decide) rfl rfl (fun _ => rfl)
  obtain ⟨v8, e8, g8⟩ := hf 3 _ 8 (by decide) rfl rfl (fun _ => rfl)
  obtain ⟨v9, e9, g9⟩ := hf 4 _ 9 (by decide) rfl rfl (fun _ => rfl)
  obtain ⟨v10, e10, g10⟩ := hf 5 _ 10 (by decide) rfl rfl (fun _ => rfl)
  obtain ⟨v11, e11, g11⟩ := hf 6 _ 11 (by decide) rfl rfl (fun _ => rfl)
  obtain ⟨v12, e12, g12⟩ := hf 7 _ 12 (by decide) rfl rfl (fun _ => rfl)
  obtain ⟨v13, e13⟩ : ∃ z, a.tmps[13]? = some z := ⟨_, Array.getElem?_eq_getElem (by rw [hts]; simp)⟩
  obtain ⟨v14, e14⟩ : ∃ z, a.tmps[14]? = some z := ⟨_, Array.getElem?_eq_getElem (by rw [hts]; simp)⟩
  have hA := act_puts [(5, v5), (6, v6), (7, v7), (8, v8), (9, v9), (10, v10), (11, v11), (12, v12), (13, v13), (14, v14)] hts hd hkn (by kernel_rfl) (by simp [e5, e6, e7, e8, e9, e10, e11, e12, e13, e14])
  have hown := (hS.app v12 e12).resolve_left (g12.2 _ rfl)
  have hgrow := hS.grow
  have R := hS.pr
  clear hS
  clear hf hts hd hkn e5 e6 e7 e8 e9 e10 e11 e12 e13 e14
  obtain rfl := g5.1 _ rfl
  clear g5
  obtain rfl := g6.1 _ rfl
  clear g6
  obtain rfl := g7.1 _ rfl
  clear g7
  obtain rfl := g8.1 _ rfl
  clear g8
  replace g9 := g9.2 _ rfl
  obtain rfl := g10.1 _ rfl
  clear g10
  replace g11 := g11.2 _ rfl
  replace g12 := g12.2 _ rfl
  subst hA
  simp only [List.foldl, List.setIfInBounds_toArray, List.set_cons_zero, List.set_cons_succ]
  simp only [List.drop_succ_cons, List.drop_zero]
  clear g9 g11 g12
  obtain ⟨hown, hat⟩ := hown
  obtain ⟨c0, c1, c2, c3, c4, c5⟩ := R.cells
  have ht := R.thawed
  obtain ⟨A2, cc, rfl⟩ := own_form hown
  have hfr := fr_store (b := b) hgrow hat (.slice A2 (l.length + 1) cc)
  have hps := ps_store p hk hgrow hat R hown
  have hln : (l ++ [(x, A, c)]).length = l.length + 1 := by simp
  rw [hln] at hfr hps
  have HF := hidd hfr
  have HP := hidd hps
  clear hfr hps hln hown hat hgrow
  go_wp2
  go_ret
  exact ⟨rfl, _, HP.out, HF.out⟩
end Ad
section
end

end Go.Proofs.YtghjkbjpdjlddaaDoor.Sy

/- The landed parser's local rows of kids; a row's or an alternative's node; a node of a set. -/
namespace Go.Proofs.YtghjkbjpdjlddaaDoor.Sy
open Go.RowKit
set_option maxRecDepth 100000

/-- A row of kids that a call of the parser makes, apart from all else. -/
structure Loc (w0 w : World) (b : Nat) (v : Value) (l : List NR) (rv : Value) (xs : List Nat) : Prop where
  own : w.ownsRow 0 3 1 rv xs.length (i64s xs)
  nb : rv.ownBlock ≠ some b
  nv : ∀ k, rv.ownBlock = some k → v.ownBlock ≠ some k
  nk : ∀ x ∈ l, ∀ a, x.2.1 = some a → x.1.l ≠ [] → rv.ownBlock ≠ some a.block
  ne : rv.ownBlock ≠ some 5
  new : ∀ k, rv.ownBlock = some k → w0.heap.size ≤ k
/-- What a call has turned, and which nodes came. -/
structure Goes (b : Nat) (v0 : Value) (l0 : List NR) (v : Value) (l : List NR) (w0 w : World) : Prop where
  fr : Fr b v0 v w0 w
  new : ∃ m, l = l0 ++ m ∧ ∀ x ∈ m, ∀ a, x.2.1 = some a → x.1.l ≠ [] → w0.heap.size ≤ a.block
section
variable {w0 w w' : World} {b : Nat} {v0 v v' rv : Value} {s : ByteArray} {i er pl d : Int} {l0 l l' : List NR} {xs : List Nat}
theorem loc_nil (w0 w : World) (b : Nat) (v : Value) (l : List NR) : Loc w0 w b v l (.slice none 0 0) [] :=
  ⟨⟨rfl, .inl ⟨rfl, rfl⟩⟩, nofun, nofun, fun _ _ _ _ _ => nofun, nofun, nofun⟩
theorem Goes.refl (b : Nat) (v : Value) (l : List NR) (w : World) : Goes b v l v l w w := ⟨Fr.refl _ _ _, [], by simp, by simp⟩
theorem Goes.trans (a : Goes b v0 l0 v l w0 w) (c : Goes b v l v' l' w w') : Goes b v0 l0 v' l' w0 w' := by
  obtain ⟨m, h1, h2⟩ := a.new
  obtain ⟨m', h3, h4⟩ := c.new
  refine ⟨a.fr.trans c.fr, m ++ m', by rw [h3, h1, List.append_assoc], fun x hx y hy hl => ?_⟩
  rcases List.mem_append.1 hx with h | h
  · exact h2 x h y hy hl
  · exact Nat.le_trans a.fr.size (h4 x h y hy hl)
theorem Goes.read (a : Goes b v0 l0 v l w0 w) (T : Touch b b w w') : Goes b v0 l0 v l w0 w' := ⟨a.fr.trans (Fr.of T v), a.new⟩
theorem Goes.add (a : Goes b v0 l0 v l w0 w) {x : NR} (f : Fr b v v' w w') (h : ∀ y, x.2.1 = some y → x.1.l ≠ [] → w0.heap.size ≤ y.block) : Goes b v0 l0 v' (l ++ [x]) w0 w' := by
  obtain ⟨m, h1, h2⟩ := a.new
  refine ⟨a.fr.trans f, m ++ [x], by rw [h1, List.append_assoc], fun y hy z hz hl => ?_⟩
  rcases List.mem_append.1 hy with h3 | h3
  · exact h2 y h3 z hz hl
  · rw [List.mem_singleton] at h3
    subst h3
    exact h z hz hl
theorem own_fr {base : Nat} {e : TypeId} {sz n : Nat} {ys : List Value} (h : w.ownsRow base e sz rv n ys) (f : Fr b v v' w w') (h1 : rv.ownBlock ≠ some b) (h2 : ∀ k, rv.ownBlock = some k → v.ownBlock ≠ some k) : w'.ownsRow base e sz rv n ys := by
  have hlt := h.lt
  obtain ⟨h3, h4⟩ := h
  refine ⟨h3, ?_⟩
  rcases h4 with h4 | ⟨g, cap, cur, hv, hg, hh, r⟩
  · exact .inl h4
  · have e : rv.ownBlock = some g := by rw [hv]; rfl
    exact .inr ⟨g, cap, cur, hv, hg, (f.block g (hlt g e).2 (fun q => h1 (q ▸ e)) (h2 g e)).trans hh, r⟩
/-- A local row is kept by a call that makes nodes. -/
theorem Loc.goes (L : Loc w0 w b v l rv xs) (g : Goes b v l v' l' w w') : Loc w0 w' b v' l' rv xs := by
  have hlt := L.own.lt
  obtain ⟨m, h1, h2⟩ := g.new
  refine ⟨own_fr L.own g.fr L.nb L.nv, L.nb, fun k hk e => ?_, fun x hx a ha hl e => ?_, L.ne, L.new⟩
  · rcases g.fr.own k e with h | h
    · exact L.nv k hk h
    · have := (hlt k hk).2; omega
  · rw [h1] at hx
    rcases List.mem_append.1 hx with h | h
    · exact L.nk x h a ha hl e
    · have := h2 x h a ha hl
      have := (hlt _ e).2
      omega
theorem Loc.read (L : Loc w0 w b v l rv xs) (T : Touch b b w w') : Loc w0 w' b v l rv xs := L.goes ((Goes.refl b v l w).read T)
/-- The parser is kept by an append to a local row. -/
theorem PS.grown (p : PS w b s i er pl d v l) (L : Loc w0 w b v l rv xs) (g : w.grownBy w' rv.ownBlock) : PS w' b s i er pl d v l := by
  have hlt := p.own.lt
  refine ⟨(g.block b p.pr.lt (fun e => L.nb e.symm)).trans p.pr, p.own.kept g ?_, p.far, fun x hx hl => ?_, ?_, p.eb, p.en⟩
  · cases hv : v.ownBlock with
    | none => exact .inl rfl
    | some k => exact .inr (fun e => L.nv k e.symm hv)
  · obtain ⟨q, off, h1, h2, h3, h4, h5⟩ := p.kids x hx hl
    exact ⟨q, off, h1, Nat.lt_of_lt_of_le h2 g.size, h3, h4, fun i hi => (World.cell?_of_block (g.block q h2 (fun e => L.nk x hx _ h1 hl e.symm))).trans (h5 i hi)⟩
  · have hl := p.ev.lt
    obtain ⟨ev, h1, h2⟩ := p.ev
    exact ⟨ev, (World.cell?_of_block (g.block _ hl (fun e => L.ne e.symm))).trans h1, h2⟩
theorem Goes.grown (a : Goes b v0 l0 v l w0 w) (L : Loc w0 w b v l rv xs) (g : w.grownBy w' rv.ownBlock) : Goes b v0 l0 v l w0 w' := by
  refine ⟨⟨g.os.trans a.fr.os, g.tape.trans a.fr.tape, g.output.trans a.fr.output, Nat.le_trans a.fr.size g.size, fun k hk h1 h2 => (g.block k (Nat.lt_of_lt_of_le hk a.fr.size) (fun e => ?_)).trans (a.fr.block k hk h1 h2), a.fr.own⟩, a.new⟩
  have := L.new k e.symm
  omega
theorem PS.alloc (p : PS w b s i er pl d v l) (o : Obj) : PS (w.alloc o) b s i er pl d v l := p.read ((Touch.refl b b w).alloc o) (p.pr.alloc o)
/-- One more kid. -/
theorem Loc.push {H g cap k : Nat} (p : PS w b s i er pl d v l) (L : Loc w0 w b v l rv xs) (hH : w.heap.size = H) (h0 : w0.heap.size ≤ H) (hown : w'.ownsRow 0 3 1 (.slice (some ⟨g, 0, none⟩) (xs.length + 1) cap) (xs.length + 1) (i64s xs ++ [.int .i64 (k : Int)])) (hat : rv.ownBlock = some g ∨ g = H) :
    Loc w0 w' b v l (.slice (some ⟨g, 0, none⟩) (xs.length + 1) cap) (xs ++ [k]) := by
  have hlt := p.own.lt
  have hb := p.pr.lt
  have hev := p.ev.lt
  rw [i64s_snoc] at hown
  refine ⟨by rw [List.length_append]; exact hown, fun e => ?_, fun q hq e => ?_, fun x hx a ha hl e => ?_, fun e => ?_, fun q hq => ?_⟩
  · have e1 : g = b := Option.some.inj e
    rcases hat with h | h
    · exact L.nb (e1 ▸ h)
    · omega
  · have e1 : g = q := Option.some.inj hq
    subst e1
    rcases hat with h | h
    · exact L.nv g h e
    · have := (hlt g e).2; omega
  · have e1 : g = a.block := Option.some.inj e
    rcases hat with h | h
    · exact L.nk x hx a ha hl (e1 ▸ h)
    · obtain ⟨q, off, h1, h2, -⟩ := p.kids x hx hl
      rw [ha] at h1
      have h3 := Option.some.inj h1
      rw [h3] at e1
      simp only at e1
      omega
  · have e1 : g = 5 := Option.some.inj e
    rcases hat with h | h
    · exact L.ne (e1 ▸ h)
    · omega
  · have e1 : g = q := Option.some.inj hq
    subst e1
    rcases hat with h | h
    · exact L.new g h
    · omega

theorem cat_lit (op : Int) (ys : List Int) (A : Option Addr) (c : Nat) : (gdL (catG op ys) A c).toArray = #[.int .u8 op, .int .u64 0, .int .u64 0, .int .u64 0, .int .u64 0, .slice A ys.length c, .int .i64 0, .int .i64 0, .string { data := #[] }] := by
  simp only [gdL, catG, W_zero]
theorem i64s_kid {n cap : Nat} (xs : List Nat) (g : Nat) (h : w.ownsRow 0 3 1 (.slice (some ⟨g, 0, none⟩) n cap) n (i64s xs)) (hn : n = xs.length) : ∀ j, j < (xs.map fun k : Nat => (k : Int)).length → w.cell? ⟨g, 0 + j, none⟩ = some (.int .i64 ((xs.map fun k : Nat => (k : Int)).getD j 0)) := by
  intro j hj
  rw [List.length_map] at hj
  have := h.cellAt j (by omega)
  rw [i64s_at xs j hj] at this
  rw [Nat.zero_add, List.getD_eq_getElem?_getD, List.getElem?_map, List.getElem?_eq_getElem hj]
  rw [List.getD_eq_getElem?_getD, List.getElem?_eq_getElem hj] at this
  exact this
/-- A row's kids as a node's kids. -/
theorem Loc.kid (L : Loc w0 w b v l rv xs) (op : Int) (hx : 1 ≤ xs.length) : ∃ g c, rv = .slice (some ⟨g, 0, none⟩) xs.length c ∧ w0.heap.size ≤ g ∧ Kid w b v (catG op (xs.map fun k : Nat => (k : Int)), some ⟨g, 0, none⟩, c) := by
  obtain ⟨g, c, h1, _, h2⟩ := own_pos L.own (by omega)
  have e : rv.ownBlock = some g := by rw [h1]; rfl
  have hown := L.own
  refine ⟨g, c, h1, L.new g e, fun _ => ⟨g, 0, rfl, h2, fun q => L.nb (q ▸ e), L.nv g e, ?_⟩⟩
  rw [h1] at hown
  exact i64s_kid xs g hown rfl
set_option maxHeartbeats 400000 in
theorem join_one (L : Loc w0 w b v l rv xs) (op : Int) (k : Nat) (hx : xs = [k]) :
    Calls Tryd.prog 57 #[.pointer (some ⟨b, 0, none⟩), .int .u8 op, rv] w fun e w' => e = .returned (.int .i64 (k : Int)) ∧ w' = w := by
  subst hx
  obtain ⟨g, c, h1, -, hk⟩ := L.kid op (by simp)
  obtain ⟨q, off, h2, -, -, -, h3⟩ := hk (by simp [catG])
  cases h2
  have hc := h3 0 (by simp [catG])
  have hc' : w.cell? ⟨g, 0, none⟩ = some (.int .i64 (k : Int)) := hc
  subst h1
  clear h3 hk hc L
  go_enter Tryd.func57, Tryd.ntmps57
  go_wp2
  go_ret
  exact ⟨rfl, rfl⟩
set_option maxHeartbeats 400000 in
theorem join_more (p : PS w b s i er pl d v l) (L : Loc w0 w b v l rv xs) (hl : l.length ≤ 100000) (op : Int) (hx : 2 ≤ xs.length) (hx2 : xs.length ≤ 100000) :
    Calls Tryd.prog 57 #[.pointer (some ⟨b, 0, none⟩), .int .u8 op, rv] w fun e w' => e = .returned (.int .i64 (l.length : Int)) ∧ ∃ v' x, PS w' b s i er pl d v' (l ++ [x]) ∧ x.1 = catG op (xs.map fun k : Nat => (k : Int)) ∧ (∀ y, x.2.1 = some y → x.1.l ≠ [] → w0.heap.size ≤ y.block) ∧ Fr b v v' w w' := by
  obtain ⟨g, c, h1, hg, hk⟩ := L.kid op (by omega)
  have ha := Ad.add_any p _ _ c hk hl
  rw [cat_lit] at ha
  subst h1
  rw [List.length_map] at ha
  generalize xs.length = n at *
  have hn1 : ((n : Int) == 1) = false := by simp; omega
  clear L hk
  go_enter Tryd.func57, Tryd.ntmps57
  go_wp2_with fail
  refine ha.mono ?_
  rintro e w1 ⟨rfl, v', p1, f1⟩
  have HP := hidd p1
  clear ha p1
  go_wp2
  go_ret
  exact ⟨rfl, v', _, HP.out, rfl, fun y hy _ => by cases hy; exact hg, f1⟩

/-- A node of a set. -/
def setG (q : Nat → Bool) : Gd := ⟨2, q, [], 0, 0, ⟨#[]⟩⟩
set_option maxHeartbeats 400000 in
theorem oneof_any (p : PS w b s i er pl d v l) (hl : l.length ≤ 100000) (q : Nat → Bool) :
    Calls Tryd.prog 88 #[.pointer (some ⟨b, 0, none⟩), .agg #[.int .u64 (W (q) 0), .int .u64 (W (q) 1), .int .u64 (W (q) 2), .int .u64 (W (q) 3)], .bool true] w fun e w' => e = .returned (.tuple #[.int .i64 (l.length : Int), .bool true]) ∧ ∃ v', PS w' b s i er pl d v' (l ++ [(setG q, none, 0)]) ∧ Fr b v v' w w' := by
  have p1 := p.alloc (.cells (#[.int .u64 (W (q) 0), .int .u64 (W (q) 1), .int .u64 (W (q) 2), .int .u64 (W (q) 3)]) 28)
  have f1 := Fr.of ((Touch.refl b b w).alloc (.cells (#[.int .u64 (W (q) 0), .int .u64 (W (q) 1), .int .u64 (W (q) 2), .int .u64 (W (q) 3)]) 28)) v
  go_enter Tryd.func88, Tryd.ntmps88
  go_wp2_with fail
  generalize w.alloc (.cells (#[.int .u64 (W (q) 0), .int .u64 (W (q) 1), .int .u64 (W (q) 2), .int .u64 (W (q) 3)]) 28) = w1 at *
  refine (Ad.add_any p1 (setG q) none 0 (fun h => absurd rfl h) hl).mono ?_
  rintro e w2 ⟨rfl, v', p2, f2⟩
  have f := f1.trans f2
  clear f1 f2 p1
  go_wp2
  go_ret2
  exact ⟨rfl, v', p2, f⟩
set_option maxHeartbeats 400000 in
theorem oneof_no (w : World) (b : Nat) (q : Nat → Bool) :
    Calls Tryd.prog 88 #[.pointer (some ⟨b, 0, none⟩), .agg #[.int .u64 (W (q) 0), .int .u64 (W (q) 1), .int .u64 (W (q) 2), .int .u64 (W (q) 3)], .bool false] w fun e w' => e = .returned (.tuple #[.int .i64 0, .bool false]) ∧ Below w.heap.size w w' := by
  go_enter Tryd.func88, Tryd.ntmps88
  go_wp2
  go_ret2
  exact ⟨rfl, (Below.refl _ _).alloc (Nat.le_refl _) _⟩
end

end Go.Proofs.YtghjkbjpdjlddaaDoor.Sy

/- The landed parser: a class. -/
namespace Go.Proofs.YtghjkbjpdjlddaaDoor.Sy
open Go.RowKit
set_option maxRecDepth 100000

/-- What is read is one node, and where that ends; or what is wrong. -/
def GotL (w : World) (b : Nat) (s : ByteArray) (d : Int) (v : Value) (l : List NR) (R : Except Bad (Nd × Nat)) (e : Ending) (w' : World) : Prop :=
  match R with
  | .ok (n, j) => e = .returned (.tuple #[.int .i64 (l.length : Int), .bool true]) ∧ ∃ v' x, PS w' b s (j : Int) 0 0 d v' (l ++ [x]) ∧ GN1 x.1 n ∧ x.1.l = [] ∧ Fr b v v' w w'
  | .error (x, p) => (∃ k : Int, e = .returned (.tuple #[.int .i64 k, .bool false])) ∧ ∃ (j : Nat) (v' : Value) (d' : Int), PR w' b s (j : Int) (x : Int) (p : Int) v' d' ∧ Fr b v v' w w'
def classR (t : List Nat) (i : Nat) : Except Bad (Nd × Nat) := match class_ t i with | .error e => .error e | .ok (p, j) => .ok (ndBytes p, j)

section
variable {w w' : World} {b : Nat} {s : ByteArray} {er pl : Int} {v : Value} {d : Int}
theorem takes_any {i c : Nat} (r : PR w b s i er pl v d) (hi : i ≤ s.size) (hs : s.size ≤ 100000) :
    Calls Tryd.prog 56 #[.pointer (some ⟨b, 0, none⟩), .int .u8 (c : Int)] w fun e w' => e = .returned (.bool (is (bs s) i c)) ∧ PR w' b s ((if is (bs s) i c then i + 1 else i : Nat) : Int) er pl v d ∧ Touch b b w w' := by
  cases h : is (bs s) i c with
  | true => exact takes_yes r hs h
  | false =>
    refine (takes_no r hi h).mono ?_
    rintro e w' ⟨rfl, m, rfl⟩
    exact ⟨rfl, r.drewN m, (Touch.refl b b w).drewN m⟩
/-- What a span tells, its set and its answer taken together. -/
def SpanP (b : Nat) (s : ByteArray) (v : Value) (d : Int) (i : Nat) (z : Bool) (q : Nat → Bool) (w' : World) : Prop :=
  (z = true ∧ ∃ lo hi j, part (bs s) i = .ok ((lo, hi), j) ∧ q = rngS lo hi ∧ j ≤ s.size ∧ i < j ∧ PR w' b s (j : Int) 0 0 v d) ∨ (z = false ∧ ∃ x p j : Nat, part (bs s) i = .error (x, p) ∧ PR w' b s (j : Int) (x : Int) (p : Int) v d)
theorem span_u {i : Nat} (r : PR w b s i 0 0 v d) (hi : i ≤ s.size) (hs : s.size ≤ 100000) :
    Calls Tryd.prog 103 #[.pointer (some ⟨b, 0, none⟩)] w fun e w' => ∃ z q, e = .returned (.tuple #[.agg #[.int .u64 (W (q) 0), .int .u64 (W (q) 1), .int .u64 (W (q) 2), .int .u64 (W (q) 3)], .bool z]) ∧ Touch b b w w' ∧ SpanP b s v d i z q w' := by
  refine (span_any r hi hs).mono ?_
  rintro e w' ⟨T, hg⟩
  unfold GotS at hg
  cases hp : part (bs s) i with
  | ok x =>
    rw [hp] at hg
    obtain ⟨⟨lo, hi⟩, j⟩ := x
    have := part_ok hp
    rw [bs_len] at this
    exact ⟨true, _, hg.1, T, .inl ⟨rfl, lo, hi, j, hp, rfl, this.2, this.1, hg.2⟩⟩
  | error x =>
    rw [hp] at hg
    obtain ⟨x, p⟩ := x
    obtain ⟨h1, j, h2⟩ := hg
    exact ⟨false, _, h1, T, .inr ⟨rfl, x, p, j, hp, h2⟩⟩
theorem sts_two (p q : Nat → Bool) (w : World) : Sts (w.alloc (.cells #[.int .u64 (W p 0), .int .u64 (W p 1), .int .u64 (W p 2), .int .u64 (W p 3), .int .u64 (W q 0), .int .u64 (W q 1), .int .u64 (W q 2), .int .u64 (W q 3)] 28)) (w.alloc (.cells #[.int .u64 (W p 0), .int .u64 (W p 1), .int .u64 (W p 2), .int .u64 (W p 3), .int .u64 (W q 0), .int .u64 (W q 1), .int .u64 (W q 2), .int .u64 (W q 3)] 28)).heap.size (some ⟨w.heap.size, 0, none⟩) [p, q] := by
  refine fun _ => ⟨_, 0, rfl, by simp, fun i hi k hk => ?_⟩
  have hi' : i = 0 ∨ i = 1 := by simp at hi; omega
  have hk' : k = 0 ∨ k = 1 ∨ k = 2 ∨ k = 3 := by omega
  rw [World.cell?_alloc_new]
  rcases hi' with rfl | rfl <;> rcases hk' with rfl | rfl | rfl | rfl <;> rfl
theorem or_two (p q : Nat → Bool) (w : World) :
    Calls Tryd.prog 104 #[.slice (some ⟨w.heap.size, 0, none⟩) 2 2] (w.alloc (.cells #[.int .u64 (W p 0), .int .u64 (W p 1), .int .u64 (W p 2), .int .u64 (W p 3), .int .u64 (W q 0), .int .u64 (W q 1), .int .u64 (W q 2), .int .u64 (W q 3)] 28)) fun e w' => e = .returned (.agg #[.int .u64 (W (uniS p q) 0), .int .u64 (W (uniS p q) 1), .int .u64 (W (uniS p q) 2), .int .u64 (W (uniS p q) 3)]) ∧ Below w.heap.size w w' := by
  have h := or_any _ 2 [p, q] _ (sts_two p q w) (by simp)
  have e : anyB [p, q] = uniS p q := by funext x; simp [anyB, uniS]
  rw [e] at h
  exact h.mono fun e w' h => ⟨h.1, bel1 h.2⟩
theorem set_none (p : Nat → Bool) (w : World) : (binOp .eql 28 (.agg #[.int .u64 (W (p) 0), .int .u64 (W (p) 1), .int .u64 (W (p) 2), .int .u64 (W (p) 3)]) (.agg #[.int .u64 0, .int .u64 0, .int .u64 0, .int .u64 0])).run Tryd.prog w = .ok (.bool (emptyS p)) w := by
  have := set_eql p noB w
  rw [W_zero, W_zero, W_zero, W_zero, eqB_empty] at this
  exact this

/-- Reading a class while it goes on. -/
def ClsR (w : World) (b : Nat) (s : ByteArray) (v : Value) (d : Int) (i0 q5 : Nat) (s6 : Value) (wr : World) : Prop :=
  ∃ z q, s6 = .bool z ∧ Row4 wr q5 q ∧ Touch b b w wr ∧
    ((z = true ∧ ∃ j f, parts (bs s) ((bs s).length + 1) false noS i0 = parts (bs s) (f + 1) true q j ∧ s.size ≤ f + j ∧ j ≤ s.size ∧ PR wr b s (j : Int) 0 0 v d) ∨
     (z = false ∧ ∃ x p j : Nat, parts (bs s) ((bs s).length + 1) false noS i0 = .error (x, p) ∧ PR wr b s (j : Int) (x : Int) (p : Int) v d))
def clsM (b : Nat) (s : ByteArray) (s6 : Value) (wr : World) : Nat := match s6 with | .bool true => s.size + 1 - atOf wr b | _ => 0
theorem cls_first {i0 q5 : Nat} {z : Bool} {q : Nat → Bool} {w1 : World} (h : SpanP b s v d i0 z q w1) (T : Touch b b w w1) (r : Row4 w1 q5 q) : ClsR w b s v d i0 q5 (.bool z) w1 := by
  have hbl := bs_len s
  have hp := parts_next (s := bs s) (bs s).length false noS i0 rfl
  rcases h with ⟨hz, lo, hi, j, h1, h2, h3, h3', h4⟩ | ⟨hz, x, p, j, h1, h4⟩
  · refine ⟨z, q, rfl, r, T, .inl ⟨hz, j, (bs s).length - 1, ?_, by omega, h3, h4⟩⟩
    rw [hp, h1]
    have e : uniS noS (rngS lo hi) = q := by rw [h2]; funext x; simp [uniS, noS]
    simp only [e]
    rw [show (bs s).length - 1 + 1 = (bs s).length from by omega]
  · exact ⟨z, q, rfl, r, T, .inr ⟨hz, x, p, j, by rw [hp, h1], h4⟩⟩
theorem cls_next {i0 q5 j f : Nat} {z : Bool} {q q2 : Nat → Bool} {wr w1 : World} (hp : parts (bs s) ((bs s).length + 1) false noS i0 = parts (bs s) (f + 1) true q j) (hf : s.size ≤ f + j) (hj : is (bs s) j 93 = false) (h : SpanP b s v d j z q2 wr) (T : Touch b b w w1) (R : ∀ (k x p : Int), PR wr b s k x p v d → PR w1 b s k x p v d) (r : Row4 w1 q5 (uniS q q2)) : ClsR w b s v d i0 q5 (.bool z) w1 := by
  have hn := parts_next (s := bs s) f true q j (by rw [hj]; rfl)
  rcases h with ⟨hz, lo, hi, k, h1, h2, h3, h3', h4⟩ | ⟨hz, x, p, k, h1, h4⟩
  · refine ⟨z, _, rfl, r, T, .inl ⟨hz, k, f - 1, ?_, by omega, h3, R _ _ _ h4⟩⟩
    rw [hp, hn, h1, h2]
    simp only
    rw [show f - 1 + 1 = f from by omega]
  · exact ⟨z, _, rfl, r, T, .inr ⟨hz, x, p, k, by rw [hp, hn, h1], R _ _ _ h4⟩⟩
theorem clsM_lt {j : Nat} {z : Bool} {wr w1 : World} (h1 : PR wr b s (j : Int) 0 0 v d) (hj : j ≤ s.size) (h2 : z = true → ∃ k : Nat, j < k ∧ PR w1 b s (k : Int) 0 0 v d) : clsM b s (.bool z) w1 < clsM b s (.bool true) wr := by
  unfold clsM
  cases z with
  | false =>
    simp only
    rw [h1.atOf]
    omega
  | true =>
    obtain ⟨k, hk, r⟩ := h2 rfl
    simp only
    rw [h1.atOf, r.atOf]
    omega
end

end Go.Proofs.YtghjkbjpdjlddaaDoor.Sy

/- The landed parser: a class. -/
namespace Go.Proofs.YtghjkbjpdjlddaaDoor.Sy
open Go.RowKit
set_option maxRecDepth 100000
set_option linter.unusedVariables false

theorem class_of {t : List Nat} {i : Nat} : class_ t i = match parts t (t.length + 1) false noS (if is t (i + 1) 94 then i + 1 + 1 else i + 1) with
    | .error e => .error e
    | .ok (p, j) => if emptyS (negS (is t (i + 1) 94) p) then .error (44, j) else .ok (negS (is t (i + 1) 94) p, j + 1) := rfl
theorem classR_bad {t : List Nat} {i x p : Nat} (h : parts t (t.length + 1) false noS (if is t (i + 1) 94 then i + 1 + 1 else i + 1) = .error (x, p)) : classR t i = .error (x, p) := by
  unfold classR; rw [class_of, h]
theorem classR_none {t : List Nat} {i j : Nat} {q : Nat → Bool} (h : parts t (t.length + 1) false noS (if is t (i + 1) 94 then i + 1 + 1 else i + 1) = .ok (q, j)) (h2 : emptyS (negS (is t (i + 1) 94) q) = true) : classR t i = .error (44, j) := by
  unfold classR; rw [class_of, h]; simp only [h2, if_true]
theorem classR_ok {t : List Nat} {i j : Nat} {q : Nat → Bool} (h : parts t (t.length + 1) false noS (if is t (i + 1) 94 then i + 1 + 1 else i + 1) = .ok (q, j)) (h2 : emptyS (negS (is t (i + 1) 94) q) = false) : classR t i = .ok (ndBytes (negS (is t (i + 1) 94) q), j + 1) := by
  unfold classR; rw [class_of, h]; simp only [h2]; rfl

section
variable {w w' : World} {b : Nat} {s : ByteArray} {v : Value} {d : Int} {l : List NR}
set_option maxHeartbeats 4000000 in
theorem pclass_any {i : Nat} (p : PS w b s i 0 0 d v l) (hi : i < s.size) (hs : s.size ≤ 100000) (hl : l.length ≤ 100000) :
    Calls Tryd.prog 86 #[.pointer (some ⟨b, 0, none⟩)] w fun e w' => GotL w b s d v l (classR (bs s) i) e w' := by
  have hbl := bs_len s
  have hbw := p.pr.lt
  obtain ⟨c0, c1, c2, c3, c4, c5⟩ := p.pr.cells
  have ht := p.pr.thawed
  have R1 := p.pr.atTo ((i : Int) + 1)
  have T1 := (Touch.refl b b w).set1 1 (.int .i64 ((i : Int) + 1))
  go_enter Tryd.func86, Tryd.ntmps86
  go_wp2_with fail
  generalize w.setCell ⟨b, 1, none⟩ (.int .i64 ((i : Int) + 1)) = w1 at *
  rw [show (i : Int) + 1 = ((i + 1 : Nat) : Int) from by omega] at R1
  clear c0 c1 c2 c3 c4 c5 ht
  refine (takes_any (c := 94) R1 hi hs).mono ?_
  rintro e w2 ⟨rfl, R2, T2⟩
  have T12 := T1.trans T2
  have hi0 : (if is (bs s) (i + 1) 94 then i + 1 + 1 else i + 1 : Nat) ≤ s.size := by
    split
    · rename_i h
      have := (is_lt h).1
      rw [hbl] at this
      omega
    · exact hi
  clear R1 T1 T2
  go_wp2_with fail
  refine (span_u R2 hi0 hs).mono ?_
  rintro e w3 ⟨z, q, rfl, T3, hsp⟩
  have T13 := T12.trans T3
  have hcl : ClsR w b s v d (if is (bs s) (i + 1) 94 then i + 1 + 1 else i + 1) w3.heap.size (.bool z) (w3.alloc (.cells (#[.int .u64 (W (q) 0), .int .u64 (W (q) 1), .int .u64 (W (q) 2), .int .u64 (W (q) 3)]) 28)) := by
    refine cls_first ?_ (T13.alloc _) (Row4.new w3 q)
    rcases hsp with ⟨hz, lo, hi, j, h1, h2, h3, h3', h4⟩ | ⟨hz, x, pp, j, h1, h4⟩
    · exact .inl ⟨hz, lo, hi, j, h1, h2, h3, h3', h4.alloc _⟩
    · exact .inr ⟨hz, x, pp, j, h1, h4.alloc _⟩
  have hq5 : w.heap.size ≤ w3.heap.size := T13.size
  clear T12 T3 T13 R2 hsp hi0
  have HC := hidd hcl
  clear hcl
  go_wp2
  generalize hneg : is (bs s) (i + 1) 94 = neg at *
  generalize hq5e : w3.heap.size = q5 at *
  have hbq : b ≠ q5 := by omega
  have HN := hidd hneg
  clear hneg hq5e
  go_loopw [6] (fun s6 wr => ClsR w b s v d (if neg then i + 1 + 1 else i + 1) q5 s6 wr) (fun s6 wr => clsM b s s6 wr)
  case atStart => exact HC.out
  case round =>
    obtain ⟨z1, q1, rfl, Z, T, hc⟩ := hrel
    clear HC
    rcases hc with ⟨hz, j, f, hpa, hf, hj, R⟩ | ⟨hz, x, pp, j, hpa, R⟩
    · subst hz
      go_wp2_with fail
      refine (sees_any R hj { data := #[93] }).mono ?_
      rintro e w4 ⟨rfl, m4, rfl⟩
      rw [show bs { data := #[93] } = [93] from rfl, sees_one]
      have R4 := R.drewN m4
      have T4 := T.drewN m4
      have Z4 := Z.drewN m4
      have hao : atOf wr b = j := R.atOf
      cases h93 : is (bs s) j 93 with
      | true =>
        rw [parts_last f q1 j h93] at hpa
        rw [← HN.out] at hpa
        clear R T Z h93 hao
        generalize wr.drewN m4 = w4 at *
        cases neg with
        | false =>
          have hng : negS (is (bs s) (i + 1) 94) q1 = q1 := by rw [HN.out]; funext x; rfl
          clear HN
          obtain ⟨c0, c1, c2, c3⟩ := Z4.cells
          have hse := set_none q1
          cases hem : emptyS q1 with
          | true =>
            rw [hem] at hse
            have HR : Hid (classR (bs s) i = .error (44, j)) := classR_none hpa (by rw [hng]; exact hem)
            clear hpa hem
            obtain ⟨a0, a1, a2, a3, a4, a5⟩ := R4.cells
            go_wp2_with fail
            refine wp_region_still_tail 8 (by kernel_rfl) (by kernel_rfl) ?_
            simp only [List.take_succ_cons, List.take_zero, List.drop_succ_cons, List.drop_zero]
            repeat still_step
            refine wpStill_nil ?_
            change wpList _ _ _ _ _ (World.drew w4)
            go_wp2_with fail
            refine (fail_any R4.drew 44 _).mono ?_
            rintro e w9 ⟨rfl, R9, T9⟩
            go_wp2
            go_ret2
            rw [HR.out]
            exact ⟨⟨_, rfl⟩, _, v, d, R9, (Fr.of (T4) v).trans ((Fr.of (Touch.refl b b _).drew v).trans (Fr.of T9 v))⟩
          | false =>
            rw [hem] at hse
            have HR : Hid (classR (bs s) i = .ok (ndBytes q1, j + 1)) := by show _ = _; rw [classR_ok hpa (by rw [hng]; exact hem), hng]
            clear hpa hem
            have ht := R4.thawed
            obtain ⟨a0, a1, a2, a3, a4, a5⟩ := R4.cells
            have p9 := (p.read T4 R4).read ((Touch.refl b b _).set1 1 (.int .i64 ((j : Int) + 1))) (R4.atTo ((j : Int) + 1))
            have f9 := (Fr.of T4 v).trans (Fr.of ((Touch.refl b b _).set1 1 (.int .i64 ((j : Int) + 1))) v)
            have hq9 : (b : Nat) ≠ q5 := hbq
            have Z9 := Z4.far (a := ⟨b, 1, none⟩) (fun e => hbq e.symm) (.int .i64 ((j : Int) + 1))
            obtain ⟨z0, z1, z2, z3⟩ := Z9.cells
            go_wp2_with fail
            refine (oneof_any p9 hl q1).mono ?_
            rintro e w10 ⟨rfl, v', p10, f10⟩
            have HP := hidd p10
            have f := f9.trans f10
            clear p9 p10 f9 f10
            go_wp2
            go_ret2
            rw [HR.out]
            exact ⟨rfl, v', _, HP.out, ⟨rfl, fun _ _ => rfl, rfl, rfl, rfl, rfl⟩, rfl, f⟩
        | true =>
          have hng : negS (is (bs s) (i + 1) 94) q1 = notB q1 := by rw [HN.out]; funext x; rfl
          clear HN
          obtain ⟨c0, c1, c2, c3⟩ := Z4.cells
          go_wp2_with fail
          refine (not_any q1 _).mono ?_
          rintro e w5 ⟨rfl, b5⟩
          have R5 := R4.below b5 R4.lt
          have T5 := T4.below b5
          have Z5 := Z4.below b5 Z4.lt
          clear R4 T4 Z4 b5 c0 c1 c2 c3
          obtain ⟨c0, c1, c2, c3⟩ := Z5.cells
          have ht := Z5.thawed
          have Z6 := Z5.fill (notB q1)
          have hbq' : q5 ≠ b := fun e => hbq e.symm
          have T6 := (((T5.fresh (x := ⟨q5, 0, none⟩) hq5 (.int .u64 (W (notB q1) 0))).fresh (x := ⟨q5, 1, none⟩) hq5 (.int .u64 (W (notB q1) 1))).fresh (x := ⟨q5, 2, none⟩) hq5 (.int .u64 (W (notB q1) 2))).fresh (x := ⟨q5, 3, none⟩) hq5 (.int .u64 (W (notB q1) 3))
          have R6 := (((R5.far (x := ⟨q5, 0, none⟩) hbq (.int .u64 (W (notB q1) 0))).far (x := ⟨q5, 1, none⟩) hbq (.int .u64 (W (notB q1) 1))).far (x := ⟨q5, 2, none⟩) hbq (.int .u64 (W (notB q1) 2))).far (x := ⟨q5, 3, none⟩) hbq (.int .u64 (W (notB q1) 3))
          go_upto_region 12 with fail
          generalize (((w5.setCell ⟨q5, 0, none⟩ (.int .u64 (W (notB q1) 0))).setCell ⟨q5, 1, none⟩ (.int .u64 (W (notB q1) 1))).setCell ⟨q5, 2, none⟩ (.int .u64 (W (notB q1) 2))).setCell ⟨q5, 3, none⟩ (.int .u64 (W (notB q1) 3)) = w6 at *
          clear c0 c1 c2 c3 ht Z5 R5 T5
          obtain ⟨c0, c1, c2, c3⟩ := Z6.cells
          have hse := set_none (notB q1)
          cases hem : emptyS (notB q1) with
          | true =>
            rw [hem] at hse
            have HR : Hid (classR (bs s) i = .error (44, j)) := classR_none hpa (by rw [hng]; exact hem)
            clear hpa hem
            obtain ⟨a0, a1, a2, a3, a4, a5⟩ := R6.cells
            go_wp2_with fail
            refine wp_region_still_tail 8 (by kernel_rfl) (by kernel_rfl) ?_
            simp only [List.take_succ_cons, List.take_zero, List.drop_succ_cons, List.drop_zero]
            repeat still_step
            refine wpStill_nil ?_
            change wpList _ _ _ _ _ (World.drew w6)
            go_wp2_with fail
            refine (fail_any R6.drew 44 _).mono ?_
            rintro e w9 ⟨rfl, R9, T9⟩
            go_wp2
            go_ret2
            rw [HR.out]
            exact ⟨⟨_, rfl⟩, _, v, d, R9, (Fr.of (T6) v).trans ((Fr.of (Touch.refl b b _).drew v).trans (Fr.of T9 v))⟩
          | false =>
            rw [hem] at hse
            have HR : Hid (classR (bs s) i = .ok (ndBytes (notB q1), j + 1)) := by show _ = _; rw [classR_ok hpa (by rw [hng]; exact hem), hng]
            clear hpa hem
            have ht := R6.thawed
            obtain ⟨a0, a1, a2, a3, a4, a5⟩ := R6.cells
            have p9 := (p.read T6 R6).read ((Touch.refl b b _).set1 1 (.int .i64 ((j : Int) + 1))) (R6.atTo ((j : Int) + 1))
            have f9 := (Fr.of T6 v).trans (Fr.of ((Touch.refl b b _).set1 1 (.int .i64 ((j : Int) + 1))) v)
            have hq9 : (b : Nat) ≠ q5 := hbq
            have Z9 := Z6.far (a := ⟨b, 1, none⟩) (fun e => hbq e.symm) (.int .i64 ((j : Int) + 1))
            obtain ⟨z0, z1, z2, z3⟩ := Z9.cells
            go_wp2_with fail
            refine (oneof_any p9 hl (notB q1)).mono ?_
            rintro e w10 ⟨rfl, v', p10, f10⟩
            have HP := hidd p10
            have f := f9.trans f10
            clear p9 p10 f9 f10
            go_wp2
            go_ret2
            rw [HR.out]
            exact ⟨rfl, v', _, HP.out, ⟨rfl, fun _ _ => rfl, rfl, rfl, rfl, rfl⟩, rfl, f⟩
      | false =>
        have HPA := hidd hpa
        have H93 := hidd h93
        clear hpa h93
        have R5 := R4.alloc (.cells #[.int .u64 0, .int .u64 0, .int .u64 0, .int .u64 0] 28)
        have T5 := T4.alloc (.cells #[.int .u64 0, .int .u64 0, .int .u64 0, .int .u64 0] 28)
        have Z5 := Z4.alloc (.cells #[.int .u64 0, .int .u64 0, .int .u64 0, .int .u64 0] 28)
        have Y5 := Row4.zero (wr.drewN m4)
        have hq7 : (wr.drewN m4).heap.size ≠ b := by have := R4.lt; omega
        have hq75 : (wr.drewN m4).heap.size ≠ q5 := by have := Z4.lt; omega
        have hq7w : w.heap.size ≤ (wr.drewN m4).heap.size := T4.size
        clear R4 T4 Z4
        go_wp2_with fail
        generalize (wr.drewN m4).alloc (.cells #[.int .u64 0, .int .u64 0, .int .u64 0, .int .u64 0] 28) = w5 at *
        generalize hq7e : (wr.drewN m4).heap.size = q7 at *
        have hq7e' : wr.heap.size = q7 := hq7e
        rw [hq7e']
        clear hq7e hq7e'
        refine (span_u R5 hj hs).mono ?_
        rintro e w6 ⟨z6, q6, rfl, T6, hsp⟩
        have T56 := T5.trans T6
        have hbq' : q5 ≠ b := fun e => hbq e.symm
        have Z6 := Row4.touch Z5 T6 hbq' hbq'
        have Y6 := Row4.touch Y5 T6 hq7 hq7
        clear R5 T5 Z5 Y5 T6
        obtain ⟨y0, y1, y2, y3⟩ := Y6.cells
        have hty := Y6.thawed
        have Y7 := Y6.fill q6
        have Z7 := (((Z6.far (a := ⟨q7, 0, none⟩) (fun e => hq75 e.symm) (.int .u64 (W q6 0))).far (a := ⟨q7, 1, none⟩) (fun e => hq75 e.symm) (.int .u64 (W q6 1))).far (a := ⟨q7, 2, none⟩) (fun e => hq75 e.symm) (.int .u64 (W q6 2))).far (a := ⟨q7, 3, none⟩) (fun e => hq75 e.symm) (.int .u64 (W q6 3))
        have T7 := (((T56.fresh (x := ⟨q7, 0, none⟩) hq7w (.int .u64 (W q6 0))).fresh (x := ⟨q7, 1, none⟩) hq7w (.int .u64 (W q6 1))).fresh (x := ⟨q7, 2, none⟩) hq7w (.int .u64 (W q6 2))).fresh (x := ⟨q7, 3, none⟩) hq7w (.int .u64 (W q6 3))
        have hR7 : ∀ (k x pp : Int), PR w6 b s k x pp v d → PR ((((w6.setCell ⟨q7, 0, none⟩ (.int .u64 (W q6 0))).setCell ⟨q7, 1, none⟩ (.int .u64 (W q6 1))).setCell ⟨q7, 2, none⟩ (.int .u64 (W q6 2))).setCell ⟨q7, 3, none⟩ (.int .u64 (W q6 3))) b s k x pp v d := fun k x pp r => (((r.far (x := ⟨q7, 0, none⟩) (fun e => hq7 e.symm) _).far (x := ⟨q7, 1, none⟩) (fun e => hq7 e.symm) _).far (x := ⟨q7, 2, none⟩) (fun e => hq7 e.symm) _).far (x := ⟨q7, 3, none⟩) (fun e => hq7 e.symm) _
        have HSP := hidd hsp
        have HR7 := hidd hR7
        clear hsp hR7
        go_upto_region 7 with fail
        generalize (((w6.setCell ⟨q7, 0, none⟩ (.int .u64 (W q6 0))).setCell ⟨q7, 1, none⟩ (.int .u64 (W q6 1))).setCell ⟨q7, 2, none⟩ (.int .u64 (W q6 2))).setCell ⟨q7, 3, none⟩ (.int .u64 (W q6 3)) = w7 at *
        clear y0 y1 y2 y3 hty Y6 Z6 T56
        obtain ⟨y0, y1, y2, y3⟩ := Y7.cells
        obtain ⟨z0, z1, z2, z3⟩ := Z7.cells
        go_wp2_with fail
        refine (or_two q1 q6 _).mono ?_
        rintro e w8 ⟨rfl, b8⟩
        have T8 := T7.below b8
        have Z8 := Z7.below b8 Z7.lt
        clear y0 y1 y2 y3 z0 z1 z2 z3
        obtain ⟨z0, z1, z2, z3⟩ := Z8.cells
        have htz := Z8.thawed
        go_wp2
        have T9 := (((T8.fresh (x := ⟨q5, 0, none⟩) hq5 (.int .u64 (W (uniS q1 q6) 0))).fresh (x := ⟨q5, 1, none⟩) hq5 (.int .u64 (W (uniS q1 q6) 1))).fresh (x := ⟨q5, 2, none⟩) hq5 (.int .u64 (W (uniS q1 q6) 2))).fresh (x := ⟨q5, 3, none⟩) hq5 (.int .u64 (W (uniS q1 q6) 3))
        have hR9 : ∀ (k x pp : Int), PR w6 b s k x pp v d → PR ((((w8.setCell ⟨q5, 0, none⟩ (.int .u64 (W (uniS q1 q6) 0))).setCell ⟨q5, 1, none⟩ (.int .u64 (W (uniS q1 q6) 1))).setCell ⟨q5, 2, none⟩ (.int .u64 (W (uniS q1 q6) 2))).setCell ⟨q5, 3, none⟩ (.int .u64 (W (uniS q1 q6) 3))) b s k x pp v d := fun k x pp r => by
          have r7 := HR7.out k x pp r
          have r8 := r7.below b8 r7.lt
          exact (((r8.far (x := ⟨q5, 0, none⟩) hbq _).far (x := ⟨q5, 1, none⟩) hbq _).far (x := ⟨q5, 2, none⟩) hbq _).far (x := ⟨q5, 3, none⟩) hbq _
        refine ⟨cls_next HPA.out hf H93.out HSP.out T9 hR9 (Z8.fill _), clsM_lt R hj fun hz => ?_⟩
        rcases HSP.out with ⟨_, lo, hi2, k, h1, h2, h3, h3', h4⟩ | ⟨h5, _⟩
        · exact ⟨k, h3', hR9 _ _ _ h4⟩
        · rw [hz] at h5; cases h5
    · subst hz
      rw [← HN.out] at hpa
      have HR := hidd (classR_bad hpa)
      clear hpa HN
      go_wp2
      go_ret2
      rw [HR.out]
      exact ⟨⟨_, rfl⟩, j, v, d, R, Fr.of T v⟩
end

end Go.Proofs.YtghjkbjpdjlddaaDoor.Sy

/- The landed parser: a name, and how often something is repeated. -/
namespace Go.Proofs.YtghjkbjpdjlddaaDoor.Sy
open Go.RowKit
set_option maxRecDepth 100000
set_option linter.unusedVariables false

set_option maxHeartbeats 400000 in
theorem pletter_any (c : Nat) (w : World) : Calls Tryd.prog 73 #[.int .u8 (c : Int)] w fun e w' => e = .returned (.bool (letterB c)) ∧ w' = w := by
  by_cases h1 : 97 ≤ c
  · have h1i : (97 : Int) ≤ (c : Int) := by omega
    by_cases h2 : c ≤ 122
    · have h2i : (c : Int) ≤ 122 := by omega
      have HV : Hid (letterB c = true) := by show _ = _; simp [letterB]; omega
      go_enter Tryd.func73, Tryd.ntmps73
      go_wp2
      go_ret
      exact ⟨by rw [HV.out]; rfl, rfl⟩
    · have h2i : ¬ (c : Int) ≤ 122 := by omega
      have h3i : (65 : Int) ≤ (c : Int) := by omega
      have h4i : ¬ (c : Int) ≤ 90 := by omega
      have h5i : ((c : Int) == 95) = false := by simp; omega
      have HV : Hid (letterB c = false) := by show _ = _; simp [letterB]; omega
      go_enter Tryd.func73, Tryd.ntmps73
      go_wp2
      go_ret
      exact ⟨by rw [HV.out]; rfl, rfl⟩
  · have h1i : ¬ (97 : Int) ≤ (c : Int) := by omega
    by_cases h3 : 65 ≤ c
    · have h3i : (65 : Int) ≤ (c : Int) := by omega
      by_cases h4 : c ≤ 90
      · have h4i : (c : Int) ≤ 90 := by omega
        have HV : Hid (letterB c = true) := by show _ = _; simp [letterB]; omega
        go_enter Tryd.func73, Tryd.ntmps73
        go_wp2
        go_ret
        exact ⟨by rw [HV.out]; rfl, rfl⟩
      · have h4i : ¬ (c : Int) ≤ 90 := by omega
        by_cases h5 : c = 95
        · subst h5
          go_enter Tryd.func73, Tryd.ntmps73
          go_wp2
          go_ret
          exact ⟨rfl, rfl⟩
        · have h5i : ((c : Int) == 95) = false := by simp; omega
          have HV : Hid (letterB c = false) := by show _ = _; simp [letterB]; omega
          go_enter Tryd.func73, Tryd.ntmps73
          go_wp2
          go_ret
          exact ⟨by rw [HV.out]; rfl, rfl⟩
    · have h3i : ¬ (65 : Int) ≤ (c : Int) := by omega
      have h5i : ((c : Int) == 95) = false := by simp; omega
      have HV : Hid (letterB c = false) := by show _ = _; simp [letterB]; omega
      go_enter Tryd.func73, Tryd.ntmps73
      go_wp2
      go_ret
      exact ⟨by rw [HV.out]; rfl, rfl⟩

theorem digit_not_letter {c : Nat} (h : digitB c = true) : letterB c = false := by
  unfold digitB at h
  unfold letterB
  simp at h ⊢
  omega
set_option maxHeartbeats 1000000 in
theorem pname_same (s : ByteArray) (w : World) (hs : s.size ≤ maxLen) : Calls Tryd.prog 59 #[.string s] w fun e w' => e = .returned (.bool (nameB (bs s))) ∧ w' = w := by
  unfold maxLen at hs
  have hbl := bs_len s
  by_cases h1 : s.size < 1
  · have HV : Hid (nameB (bs s) = false) := by show _ = _; unfold nameB; rw [hbl, decide_eq_false (by omega)]; rfl
    have h1i : (s.size : Int) < 1 := by omega
    clear hbl
    go_enter Tryd.func59, Tryd.ntmps59
    go_wp2
    go_ret
    exact ⟨by rw [HV.out]; rfl, rfl⟩
  · have h1i : ¬ (s.size : Int) < 1 := by omega
    by_cases h2 : 32 < s.size
    · have HV : Hid (nameB (bs s) = false) := by show _ = _; unfold nameB; rw [hbl, decide_eq_false (show ¬ s.size ≤ 32 from by omega)]; simp
      have h2i : decide ((32 : Int) < (s.size : Int)) = true := decide_eq_true (by omega)
      clear hbl
      go_enter Tryd.func59, Tryd.ntmps59
      go_wp2
      go_ret
      exact ⟨by rw [HV.out]; rfl, rfl⟩
    · have h2i : decide ((32 : Int) < (s.size : Int)) = false := decide_eq_false (by omega)
      have h0 : 0 < s.size := by omega
      have h0i : (0 : Int) < (s.size : Int) := by omega
      have hd0 := fun w => pdigit_any (s[0].toNat) w
      have ha0 := at_bs s 0 h0
      cases hq : digitB s[0].toNat with
      | true =>
        rw [hq] at hd0
        have HV : Hid (nameB (bs s) = false) := name_not (j := 0) (by rw [hbl]; exact h0) (by unfold okAt; rw [ha0, digit_not_letter hq]; rfl)
        clear hbl hq ha0
        go_enter Tryd.func59, Tryd.ntmps59
        go_wp2_with fail
        refine (hd0 _).mono ?_
        rintro e w1 ⟨rfl, rfl⟩
        go_wp2
        go_ret
        exact ⟨by rw [HV.out]; rfl, rfl⟩
      | false =>
        rw [hq] at hd0
        have HQ := hidd hq
        have HA := hidd ha0
        have HBL := hidd hbl
        clear hq ha0 hbl
        go_enter Tryd.func59, Tryd.ntmps59
        go_wp2_with fail
        refine (hd0 _).mono ?_
        rintro e w1 ⟨rfl, rfl⟩
        clear hd0
        go_wp2
        go_loopw [19] (fun i wr => wr = w1 ∧ ∃ k : Nat, k ≤ s.size ∧ i = .int .i64 k ∧ ∀ j, j < k → okAt (bs s) j = true) (fun i _ => s.size - (intOf i).toNat)
        case atStart => exact ⟨rfl, 0, Nat.zero_le _, rfl, fun j hj => by omega⟩
        case round =>
          obtain ⟨rfl, k, hk0, rfl, hok⟩ := hrel
          by_cases hlt : k < s.size
          · have hki : (k : Int) < (s.size : Int) := by omega
            have hak := at_bs s k hlt
            have hl1 := fun w => pletter_any (s[k].toNat) w
            have hd1 := fun w => pdigit_any (s[k].toNat) w
            have HNX : Hid (okAt (bs s) k = true → ∀ j, j < k + 1 → okAt (bs s) j = true) := fun h j hj => by
              rcases Nat.lt_or_ge j k with h2 | h2
              · exact hok j h2
              · rw [show j = k from by omega]; exact h
            have HNO : Hid (okAt (bs s) k = false → nameB (bs s) = false) := fun h => name_not (by rw [HBL.out]; exact hlt) h
            have HOK : Hid (okAt (bs s) k = (letterB s[k].toNat || digitB s[k].toNat)) := by
              show _ = _
              unfold okAt
              rw [hak]
              by_cases hz : k = 0
              · subst hz
                rw [HQ.out]
                simp
              · rw [decide_eq_true (by omega), Bool.true_and]
            clear hok hak
            generalize letterB s[k].toNat = lt at *
            generalize digitB s[k].toNat = dg at *
            go_wp2_with fail
            refine (hd1 _).mono ?_
            rintro e w2 ⟨rfl, rfl⟩
            cases dg with
            | true =>
              go_wp2
              exact ⟨⟨trivial, k + 1, by omega, rfl, HNX.out (by rw [HOK.out]; simp)⟩, by simp [intOf]; omega⟩
            | false =>
              go_wp2_with fail
              refine (hl1 _).mono ?_
              rintro e w2 ⟨rfl, rfl⟩
              cases lt with
              | true =>
                go_wp2
                exact ⟨⟨trivial, k + 1, by omega, rfl, HNX.out (by rw [HOK.out]; rfl)⟩, by simp [intOf]; omega⟩
              | false =>
                go_wp2
                go_ret
                exact ⟨by rw [HNO.out (by rw [HOK.out]; rfl)]; rfl, rfl⟩
          · have hk : k = s.size := by omega
            subst hk
            have HV := hidd (name_all (s := bs s) (fun j hj => hok j (by rw [HBL.out] at hj; exact hj)))
            rw [HBL.out, decide_eq_true (show 1 ≤ s.size from h0), decide_eq_true (show s.size ≤ 32 from by omega)] at HV
            clear hok
            go_wp2
            go_ret
            exact ⟨by rw [HV.out]; rfl, rfl⟩
theorem nameC : NameC := fun s w hs => (pname_same s w (by unfold maxLen; omega)).mono fun _ _ h => ⟨h.1, by rw [h.2]; exact Below.refl _ _⟩

set_option maxHeartbeats 400000 in
theorem clone_any (t : ByteArray) (w : World) (hs : t.size ≤ 100000) : Calls Tryd.prog 107 #[.string t] w fun e w' => e = .returned (.string t) ∧ Below w.heap.size w w' := by
  go_enter Tryd.func107, Tryd.ntmps107
  go_wp2_with fail
  refine (Tryd.stringslite_Clone t _ (by omega)).mono ?_
  rintro e w1 ⟨rfl, b1⟩
  go_wp2
  go_ret
  exact ⟨rfl, b1⟩
def nameR (t : List Nat) (i : Nat) : Except Bad (Nd × Nat) := match name_ t i with | .error e => .error e | .ok (nm, j) => .ok (ndRef nm, j)
theorem ref_lit (q : ByteArray) : (gdL (refG q) none 0).toArray = #[.int .u8 6, .int .u64 0, .int .u64 0, .int .u64 0, .int .u64 0, .slice none 0 0, .int .i64 0, .int .i64 0, .string q] := by
  simp only [gdL, refG, W_zero, List.length_nil]
section
variable {w w' : World} {b : Nat} {s : ByteArray} {v : Value} {d : Int} {l : List NR}
set_option maxHeartbeats 1000000 in
theorem ref_any {i : Nat} (p : PS w b s i 0 0 d v l) (hi : i < s.size) (hs : s.size ≤ 100000) (hl : l.length ≤ 100000) :
    Calls Tryd.prog 89 #[.pointer (some ⟨b, 0, none⟩)] w fun e w' => GotL w b s d v l (nameR (bs s) i) e w' := by
  have hbl := bs_len s
  obtain ⟨c0, c1, c2, c3, c4, c5⟩ := p.pr.cells
  have ht := p.pr.thawed
  have R1 := p.pr.atTo ((i : Int) + 1)
  have T1 := (Touch.refl b b w).set1 1 (.int .i64 ((i : Int) + 1))
  go_enter Tryd.func89, Tryd.ntmps89
  obtain ⟨a0, a1, a2, a3, a4, a5⟩ := R1.cells
  go_upto_region 2 with fail
  generalize w.setCell ⟨b, 1, none⟩ (.int .i64 ((i : Int) + 1)) = w1 at *
  rw [show (i : Int) + 1 = ((i + 1 : Nat) : Int) from by omega] at R1
  clear c0 c1 c2 c3 c4 c5 ht
  go_wp2_with fail
  clear a0 a1 a2 a3 a4 a5
  refine (upto_any R1 hi hs).mono ?_
  rintro e w2 ⟨T2, hu⟩
  have T12 := T1.trans T2
  clear T1 T2 R1
  rcases hu with ⟨rfl, hb1, R2⟩ | ⟨j, hj, hj1, hj2, rfl, R2⟩
  · have HR : Hid (nameR (bs s) i = .error (40, s.size)) := by show _ = _; unfold nameR name_; simp only [if_pos hb1]; rw [hbl]
    clear hb1 hbl
    go_wp2
    go_ret2
    rw [HR.out]
    exact ⟨⟨_, rfl⟩, i + 1, v, d, R2, Fr.of T12 v⟩
  · have hnb := ex_bs s (i + 1) j
    have hsz : (s.extract (i + 1) j).size ≤ 100000 := by rw [ByteArray.size_extract]; omega
    have hnr : nameR (bs s) i = if nameB (bs (s.extract (i + 1) j)) then .ok (ndRef (bs (s.extract (i + 1) j)), j + 1) else .error (41, i + 1) := by
      unfold nameR name_
      simp only [hj]
      rw [if_neg (by rw [hbl]; omega), hnb]
      cases nameB (cut (bs s) (i + 1) j) <;> rfl
    clear hnb hj hbl
    generalize s.extract (i + 1) j = t at *
    have HNR := hidd hnr
    clear hnr
    go_wp2_with fail
    refine (pname_same t _ (by unfold maxLen; omega)).mono ?_
    rintro e w3 ⟨rfl, rfl⟩
    cases hq : nameB (bs t) with
    | false =>
      rw [hq] at HNR
      clear hq
      go_wp2_with fail
      refine (fail_any R2 41 _).mono ?_
      rintro e w4 ⟨rfl, R4, T4⟩
      have T := T12.trans T4
      clear T12 T4 R2
      go_wp2
      go_ret2
      rw [HNR.out]
      exact ⟨⟨_, rfl⟩, j + 1, v, d, R4, Fr.of T v⟩
    | true =>
      rw [hq] at HNR
      clear hq
      go_wp2_with fail
      refine (clone_any t _ hsz).mono ?_
      rintro e w4 ⟨rfl, b4⟩
      have R4 := R2.below b4 R2.lt
      have T4 := T12.below b4
      have p4 := p.read T4 R4
      have f4 := Fr.of T4 v
      have ha := Ad.add_any p4 (refG t) none 0 (fun h => absurd rfl h) hl
      rw [ref_lit] at ha
      clear R2 T12 b4 R4 T4 p4
      go_wp2_with fail
      refine ha.mono ?_
      rintro e w5 ⟨rfl, v', p5, f5⟩
      have HP := hidd p5
      have f := f4.trans f5
      clear ha p5 f4 f5
      go_wp2
      go_ret2
      rw [HNR.out]
      exact ⟨rfl, v', _, HP.out, gn_ref t, rfl, f⟩
end

end Go.Proofs.YtghjkbjpdjlddaaDoor.Sy

/- The landed parser: how often, and an atom that is no parenthesis. -/
namespace Go.Proofs.YtghjkbjpdjlddaaDoor.Sy
open Go.RowKit
set_option maxRecDepth 100000
set_option linter.unusedVariables false

section
variable {w w' : World} {b : Nat} {s : ByteArray} {er pl : Int} {v : Value} {d : Int} {l : List NR}
set_option maxHeartbeats 1000000 in
theorem prepet_any {i : Nat} (r : PR w b s i er pl v d) (hi : i < s.size) (hs : s.size ≤ 100000) (hE : EV w) (hvb : 5 ≠ b) (hr : repAt (bs s) i = true) :
    Calls Tryd.prog 81 #[.pointer (some ⟨b, 0, none⟩)] w fun e w' => Touch b b w w' ∧ GotN b s er pl v d (repet (bs s) i) e w' := by
  have hbl := bs_len s
  unfold repAt at hr
  simp only [is_of (show i < (bs s).length from by rw [hbl]; exact hi), Bool.or_eq_true, Bool.and_eq_true, beq_iff_eq] at hr
  go_enter Tryd.func81, Tryd.ntmps81
  go_wp2_with fail
  refine (next_any r hi hs).mono ?_
  rintro e w1 ⟨rfl, R1, T1⟩
  have hE1 := EV.touch hE T1 hvb
  clear r hE hbl
  rcases hr with ((h | h) | h) | ⟨h, hdg⟩
  · skip
    have e1 : at_ (bs s) i = 42 := h
    rw [e1]
    have HR : Hid (repet (bs s) i = .ok ((0, (-1)), i + 1)) := by show _ = _; unfold repet; simp [e1]
    clear e1 h
    go_wp2
    go_ret3
    refine ⟨T1, ?_⟩
    rw [HR.out]
    exact ⟨rfl, R1⟩
  · skip
    have e1 : at_ (bs s) i = 43 := h
    rw [e1]
    have HR : Hid (repet (bs s) i = .ok ((1, (-1)), i + 1)) := by show _ = _; unfold repet; simp [e1]
    clear e1 h
    go_wp2
    go_ret3
    refine ⟨T1, ?_⟩
    rw [HR.out]
    exact ⟨rfl, R1⟩
  · skip
    have e1 : at_ (bs s) i = 63 := h
    rw [e1]
    have HR : Hid (repet (bs s) i = .ok ((0, 1), i + 1)) := by show _ = _; unfold repet; simp [e1]
    clear e1 h
    go_wp2
    go_ret3
    refine ⟨T1, ?_⟩
    rw [HR.out]
    exact ⟨rfl, R1⟩
  · have e1 : at_ (bs s) i = 123 := h
    rw [e1]
    have HR : Hid (repet (bs s) i = bounds (bs s) i) := by show _ = _; unfold repet; simp [e1]
    clear e1 h
    obtain ⟨c0, c1, c2, c3, c4, c5⟩ := R1.cells
    rw [show ((i + 1 : Nat) : Int) = (i : Int) + 1 from by omega] at c1
    go_wp2_with fail
    clear c0 c1 c2 c3 c4 c5
    refine (pbounds_any R1 hi hs hE1 hvb hdg).mono ?_
    rintro e w2 ⟨T2, hg⟩
    have T := T1.trans T2
    clear T1 T2 R1 hE1
    unfold GotN at hg
    cases ho : bounds (bs s) i with
    | ok x =>
      rw [ho] at hg HR
      obtain ⟨rfl, R2⟩ := hg
      go_wp2
      go_ret3
      refine ⟨T, ?_⟩
      rw [HR.out]
      exact ⟨rfl, R2⟩
    | error x =>
      rw [ho] at hg HR
      obtain ⟨rfl, R2⟩ := hg
      go_wp2
      go_ret3
      refine ⟨T, ?_⟩
      rw [HR.out]
      exact ⟨rfl, R2⟩

theorem sees_val {i : Nat} (r : PR w b s i er pl v d) (hi : i < s.size) (t : ByteArray) (z : Bool) (hz : (bs t).contains (at_ (bs s) i) = z) : Calls Tryd.prog 69 #[.pointer (some ⟨b, 0, none⟩), .string t] w fun e w' => e = .returned (.bool z) ∧ PR w' b s i er pl v d ∧ Touch b b w w' := by
  refine (sees_any r (by omega) t).mono ?_
  rintro e w' ⟨rfl, m, rfl⟩
  refine ⟨?_, r.drewN m, (Touch.refl b b w).drewN m⟩
  unfold seesB
  rw [decide_eq_true (by rw [bs_len]; exact hi), Bool.true_and, hz]
theorem bnds_val {i : Nat} (r : PR w b s i er pl v d) (hi : i < s.size) (hs : s.size ≤ 100000) (z : Bool) (hz : ((at_ (bs s) i == 123) && dig (bs s) (i + 1)) = z) : Calls Tryd.prog 80 #[.pointer (some ⟨b, 0, none⟩)] w fun e w' => e = .returned (.bool z) ∧ PR w' b s i er pl v d ∧ Touch b b w w' := by
  refine (bnds_any r (by omega) hs).mono ?_
  rintro e w' ⟨rfl, m, rfl⟩
  refine ⟨?_, r.drewN m, (Touch.refl b b w).drewN m⟩
  rw [is_of (by rw [bs_len]; exact hi), hz]
theorem of_one (c : Nat) (hc : c < 256) (w : World) : Calls Tryd.prog 29 #[.slice (some ⟨w.heap.size, 0, none⟩) 1 1] (w.alloc (.cells #[.int .u8 (c : Int)] 5)) fun e w' => e = .returned (.agg #[.int .u64 (W (oneS c) 0), .int .u64 (W (oneS c) 1), .int .u64 (W (oneS c) 2), .int .u64 (W (oneS c) 3)]) ∧ Below w.heap.size w w' := by
  refine (of_any (some ⟨w.heap.size, 0, none⟩) 1 [(c : Int)] _ (bts_one w (c : Int) (by omega) (by omega)) (by simp)).mono ?_
  rintro e w' ⟨rfl, hb⟩
  rw [one_words, one_words, one_words, one_words, Int.toNat_natCast]
  exact ⟨rfl, bel1 hb⟩
end

end Go.Proofs.YtghjkbjpdjlddaaDoor.Sy

/- The landed parser: an atom that is no parenthesis. -/
namespace Go.Proofs.YtghjkbjpdjlddaaDoor.Sy
open Go.RowKit
set_option maxRecDepth 100000
set_option linter.unusedVariables false

section
variable {w w' w1 : World} {b : Nat} {s : ByteArray} {er pl : Int} {v : Value} {d : Int} {l : List NR}
theorem GotL.from {R : Except Bad (Nd × Nat)} {e : Ending} (f : Fr b v v w w1) (h : GotL w1 b s d v l R e w') : GotL w b s d v l R e w' := by
  unfold GotL at h ⊢
  cases R with
  | ok x =>
    obtain ⟨h1, v', x, h2, h3, h4, h5⟩ := h
    exact ⟨h1, v', x, h2, h3, h4, f.trans h5⟩
  | error x =>
    obtain ⟨h1, j, v', d', h2, h3⟩ := h
    exact ⟨h1, j, v', d', h2, f.trans h3⟩
theorem takes_nope {i c : Nat} (r : PR w b s i er pl v d) (hi : i < s.size) (h : at_ (bs s) i ≠ c) :
    Calls Tryd.prog 56 #[.pointer (some ⟨b, 0, none⟩), .int .u8 (c : Int)] w fun e w' => e = .returned (.bool false) ∧ PR w' b s i er pl v d ∧ Touch b b w w' := by
  refine (takes_no r (by omega) (by rw [is_of (by rw [bs_len]; exact hi)]; exact beq_eq_false_iff_ne.2 h)).mono ?_
  rintro e w' ⟨rfl, m, rfl⟩
  exact ⟨rfl, r.drewN m, (Touch.refl b b w).drewN m⟩
theorem lone_cls {t : List Nat} {i : Nat} (h : at_ t i = 91) : lone t i = classR t i := by unfold lone classR; rw [if_pos h]; cases class_ t i <;> rfl
theorem lone_dot {t : List Nat} {i : Nat} (h : at_ t i = 46) : lone t i = .ok (ndBytes dotS, i + 1) := by unfold lone; rw [if_neg (by rw [h]; decide), if_pos h]
theorem lone_name {t : List Nat} {i : Nat} (h : at_ t i = 123) (h2 : dig t (i + 1) = false) : lone t i = nameR t i := by unfold lone nameR; rw [if_neg (by rw [h]; decide), if_neg (by rw [h]; decide), if_pos ⟨h, h2⟩]; cases name_ t i <;> rfl
theorem lone_trail {t : List Nat} {i : Nat} (h : at_ t i = 47 ∨ at_ t i = 36) : lone t i = .error (42, i) := by
  unfold lone
  rw [if_neg (by omega), if_neg (by omega), if_neg (fun e => by omega), if_pos h]
theorem lone_sp {t : List Nat} {i : Nat} (n91 : at_ t i ≠ 91) (n46 : at_ t i ≠ 46) (n123 : ¬ (at_ t i = 123 ∧ dig t (i + 1) = false)) (n47 : ¬ (at_ t i = 47 ∨ at_ t i = 36)) (n92 : at_ t i ≠ 92) (h : specialB (at_ t i) = true) : lone t i = .error (41, i) := by
  unfold lone
  rw [if_neg n91, if_neg n46, if_neg n123, if_neg n47, if_pos ⟨n92, h⟩]
theorem lone_one {t : List Nat} {i : Nat} (n91 : at_ t i ≠ 91) (n46 : at_ t i ≠ 46) (n123 : ¬ (at_ t i = 123 ∧ dig t (i + 1) = false)) (n47 : ¬ (at_ t i = 47 ∨ at_ t i = 36)) (h : ¬ (at_ t i ≠ 92 ∧ specialB (at_ t i) = true)) : lone t i = match one t i with | .error e => .error e | .ok (b, j) => .ok (ndBytes (oneS b), j) := by
  unfold lone
  rw [if_neg n91, if_neg n46, if_neg n123, if_neg n47, if_neg h]
  cases one t i <;> rfl

set_option maxHeartbeats 4000000 in
theorem atomL_any {i : Nat} (p : PS w b s i 0 0 d v l) (hi : i < s.size) (hs : s.size ≤ 100000) (hl : l.length ≤ 100000) (h40 : at_ (bs s) i ≠ 40) :
    Calls Tryd.prog 79 #[.pointer (some ⟨b, 0, none⟩)] w fun e w' => GotL w b s d v l (lone (bs s) i) e w' := by
  have R := p.pr
  have T := Touch.refl b b w
  have hby := bs_lt s
  go_enter Tryd.func79, Tryd.ntmps79
  by_cases h91 : at_ (bs s) i = 91
  · have HL := hidd (lone_cls h91)
    have hcc := h91
    clear h40 h91
    go_wp2_with fail
    refine (sees_val R hi { data := #[40] } false (by rw [hcc]; rfl)).mono ?_
    rintro e w9 ⟨rfl, R9, T9⟩
    replace T := T.trans T9
    clear R
    have R := R9
    clear R9 T9
    go_wp2_with fail
    refine (sees_val R hi { data := #[91] } true (by rw [hcc]; rfl)).mono ?_
    rintro e w9 ⟨rfl, R9, T9⟩
    replace T := T.trans T9
    clear R
    have R := R9
    clear R9 T9
    go_wp2_with fail
    refine (pclass_any (p.read T R) hi hs hl).mono ?_
    rintro e w8 hg
    replace hg := GotL.from (Fr.of T v) hg
    rw [← HL.out] at hg
    unfold GotL at hg
    cases hr : lone (bs s) i with
    | ok x =>
      rw [hr] at hg
      obtain ⟨rfl, hg⟩ := hg
      have HG := hidd hg
      clear hg
      go_wp2
      go_ret2
      rw [hr]
      exact ⟨rfl, HG.out⟩
    | error x =>
      rw [hr] at hg
      obtain ⟨⟨k, rfl⟩, hg⟩ := hg
      have HG := hidd hg
      clear hg
      go_wp2
      go_ret2
      rw [hr]
      exact ⟨⟨k, rfl⟩, HG.out⟩
  · by_cases h92 : at_ (bs s) i = 92
    · have HL := hidd (lone_one (t := bs s) (i := i) h91 (by omega) (by omega) (by omega) (fun e => e.1 h92))
      have hcc := h92
      clear h40 h91
      go_wp2_with fail
      refine (sees_val R hi { data := #[40] } false (by rw [hcc]; rfl)).mono ?_
      rintro e w9 ⟨rfl, R9, T9⟩
      replace T := T.trans T9
      clear R
      have R := R9
      clear R9 T9
      go_wp2_with fail
      refine (sees_val R hi { data := #[91] } false (by rw [hcc]; rfl)).mono ?_
      rintro e w9 ⟨rfl, R9, T9⟩
      replace T := T.trans T9
      clear R
      have R := R9
      clear R9 T9
      go_wp2_with fail
      refine (sees_val R hi { data := #[92] } true (by rw [hcc]; rfl)).mono ?_
      rintro e w9 ⟨rfl, R9, T9⟩
      replace T := T.trans T9
      clear R
      have R := R9
      clear R9 T9
      go_wp2_with fail
      refine (escape_any R hi hs h92).mono ?_
      rintro e w2 ⟨T2, hg⟩
      replace T := T.trans T2
      clear R T2
      unfold GotB at hg
      cases ho : one (bs s) i with
      | ok x =>
        obtain ⟨c, j⟩ := x
        rw [ho] at hg HL
        obtain ⟨rfl, R2⟩ := hg
        have hc := one_lt hby ho
        clear ho
        go_wp2_with fail
        refine (of_one c hc _).mono ?_
        rintro e w3 ⟨rfl, b3⟩
        have R := R2.below b3 R2.lt
        replace T := T.below b3
        clear R2 b3
        have p8 := p.read T R
        have f8 := Fr.of T v
        clear R T
        go_wp2_with fail
        refine (oneof_any p8 hl (oneS c)).mono ?_
        rintro e w10 ⟨rfl, v', p10, f10⟩
        have HP := hidd p10
        have f := f8.trans f10
        clear p8 p10 f8 f10
        go_wp2
        go_ret2
        rw [HL.out]
        exact ⟨rfl, v', _, HP.out, ⟨rfl, fun _ _ => rfl, rfl, rfl, rfl, rfl⟩, rfl, f⟩
      | error x =>
        obtain ⟨x, pp⟩ := x
        rw [ho] at hg HL
        obtain ⟨rfl, j, R2⟩ := hg
        clear ho
        go_wp2_with fail
        refine (of_one 0 (by decide) _).mono ?_
        rintro e w3 ⟨rfl, b3⟩
        have R := R2.below b3 R2.lt
        replace T := T.below b3
        clear R2 b3
        go_wp2_with fail
        refine (oneof_no _ b (oneS 0)).mono ?_
        rintro e w4 ⟨rfl, b4⟩
        have R4 := R.below b4 R.lt
        replace T := T.below b4
        clear R b4
        go_wp2
        go_ret2
        rw [HL.out]
        exact ⟨⟨_, rfl⟩, j, v, d, R4, Fr.of T v⟩
    · by_cases h46 : at_ (bs s) i = 46
      · have HL := hidd (lone_dot h46)
        have hcc := h46
        clear h40 h91 h92
        go_wp2_with fail
        refine (sees_val R hi { data := #[40] } false (by rw [hcc]; rfl)).mono ?_
        rintro e w9 ⟨rfl, R9, T9⟩
        replace T := T.trans T9
        clear R
        have R := R9
        clear R9 T9
        go_wp2_with fail
        refine (sees_val R hi { data := #[91] } false (by rw [hcc]; rfl)).mono ?_
        rintro e w9 ⟨rfl, R9, T9⟩
        replace T := T.trans T9
        clear R
        have R := R9
        clear R9 T9
        go_wp2_with fail
        refine (sees_val R hi { data := #[92] } false (by rw [hcc]; rfl)).mono ?_
        rintro e w9 ⟨rfl, R9, T9⟩
        replace T := T.trans T9
        clear R
        have R := R9
        clear R9 T9
        go_wp2_with fail
        refine (sees_val R hi { data := #[123] } false (by rw [hcc]; rfl)).mono ?_
        rintro e w9 ⟨rfl, R9, T9⟩
        replace T := T.trans T9
        clear R
        have R := R9
        clear R9 T9
        go_wp2_with fail
        refine (takes_yes (c := 46) R hs (by rw [is_of (by rw [bs_len]; exact hi), hcc]; rfl)).mono ?_
        rintro e w2 ⟨rfl, R2, T2⟩
        replace T := T.trans T2
        clear R T2 hcc h46
        go_wp2_with fail
        refine (of_one 10 (by decide) _).mono ?_
        rintro e w3 ⟨rfl, b3⟩
        have R3 := R2.below b3 R2.lt
        replace T := T.below b3
        clear R2 b3
        go_wp2_with fail
        refine (not_any (oneS 10) _).mono ?_
        rintro e w4 ⟨rfl, b4⟩
        have R := R3.below b4 R3.lt
        replace T := T.below b4
        clear R3 b4
        have p8 := p.read T R
        have f8 := Fr.of T v
        clear R T
        go_wp2_with fail
        refine (oneof_any p8 hl (notB (oneS 10))).mono ?_
        rintro e w10 ⟨rfl, v', p10, f10⟩
        have HP := hidd p10
        have f := f8.trans f10
        clear p8 p10 f8 f10
        go_wp2
        go_ret2
        rw [HL.out]
        exact ⟨rfl, v', _, HP.out, ⟨rfl, fun _ _ => rfl, rfl, rfl, rfl, rfl⟩, rfl, f⟩
      · by_cases h47 : at_ (bs s) i = 47 ∨ at_ (bs s) i = 36
        · have HL := hidd (lone_trail h47)
          rcases h47 with hcc | hcc
          all_goals
            clear h40 h91 h92
            go_wp2_with fail
            refine (sees_val R hi { data := #[40] } false (by rw [hcc]; rfl)).mono ?_
            rintro e w9 ⟨rfl, R9, T9⟩
            replace T := T.trans T9
            clear R
            have R := R9
            clear R9 T9
            go_wp2_with fail
            refine (sees_val R hi { data := #[91] } false (by rw [hcc]; rfl)).mono ?_
            rintro e w9 ⟨rfl, R9, T9⟩
            replace T := T.trans T9
            clear R
            have R := R9
            clear R9 T9
            go_wp2_with fail
            refine (sees_val R hi { data := #[92] } false (by rw [hcc]; rfl)).mono ?_
            rintro e w9 ⟨rfl, R9, T9⟩
            replace T := T.trans T9
            clear R
            have R := R9
            clear R9 T9
            go_wp2_with fail
            refine (sees_val R hi { data := #[123] } false (by rw [hcc]; rfl)).mono ?_
            rintro e w9 ⟨rfl, R9, T9⟩
            replace T := T.trans T9
            clear R
            have R := R9
            clear R9 T9
            go_wp2_with fail
            refine (takes_nope (c := 46) R hi h46).mono ?_
            rintro e w2 ⟨rfl, R2, T2⟩
            replace T := T.trans T2
            clear R T2
            have R := R2
            clear R2
            go_wp2_with fail
            refine (sees_val R hi { data := #[47, 36] } true (by rw [hcc]; rfl)).mono ?_
            rintro e w9 ⟨rfl, R9, T9⟩
            replace T := T.trans T9
            clear R
            have R := R9
            clear R9 T9
            clear hcc h46
            obtain ⟨a0, a1, a2, a3, a4, a5⟩ := R.cells
            go_wp2_with fail
            refine wp_region_still_tail 8 (by kernel_rfl) (by kernel_rfl) ?_
            simp only [List.take_succ_cons, List.take_zero, List.drop_succ_cons, List.drop_zero]
            repeat still_step
            refine wpStill_nil ?_
            change wpList _ _ _ _ _ (World.drew _)
            go_wp2_with fail
            refine (fail_any R.drew 42 _).mono ?_
            rintro e w9 ⟨rfl, R9, T9⟩
            replace T := (T.drew).trans T9
            clear R a0 a1 a2 a3 a4 a5 T9
            go_wp2
            go_ret2
            rw [HL.out]
            exact ⟨⟨_, rfl⟩, _, v, d, R9, Fr.of T v⟩
        · by_cases h123 : at_ (bs s) i = 123
          · have hcc := h123
            cases hdg : dig (bs s) (i + 1) with
            | false =>
              have HL := hidd (lone_name h123 hdg)
              clear h40 h91 h92 h46 h47
              go_wp2_with fail
              refine (sees_val R hi { data := #[40] } false (by rw [hcc]; rfl)).mono ?_
              rintro e w9 ⟨rfl, R9, T9⟩
              replace T := T.trans T9
              clear R
              have R := R9
              clear R9 T9
              go_wp2_with fail
              refine (sees_val R hi { data := #[91] } false (by rw [hcc]; rfl)).mono ?_
              rintro e w9 ⟨rfl, R9, T9⟩
              replace T := T.trans T9
              clear R
              have R := R9
              clear R9 T9
              go_wp2_with fail
              refine (sees_val R hi { data := #[92] } false (by rw [hcc]; rfl)).mono ?_
              rintro e w9 ⟨rfl, R9, T9⟩
              replace T := T.trans T9
              clear R
              have R := R9
              clear R9 T9
              go_wp2_with fail
              refine (sees_val R hi { data := #[123] } true (by rw [hcc]; rfl)).mono ?_
              rintro e w9 ⟨rfl, R9, T9⟩
              replace T := T.trans T9
              clear R
              have R := R9
              clear R9 T9
              go_wp2_with fail
              refine (bnds_val R hi hs false (by rw [hdg, Bool.and_false])).mono ?_
              rintro e w2 ⟨rfl, R2, T2⟩
              replace T := T.trans T2
              clear R T2
              have R := R2
              clear R2 hdg hcc h123
              go_wp2_with fail
              refine (ref_any (p.read T R) hi hs hl).mono ?_
              rintro e w8 hg
              replace hg := GotL.from (Fr.of T v) hg
              rw [← HL.out] at hg
              unfold GotL at hg
              cases hr : lone (bs s) i with
              | ok x =>
                rw [hr] at hg
                obtain ⟨rfl, hg⟩ := hg
                have HG := hidd hg
                clear hg
                go_wp2
                go_ret2
                rw [hr]
                exact ⟨rfl, HG.out⟩
              | error x =>
                rw [hr] at hg
                obtain ⟨⟨k, rfl⟩, hg⟩ := hg
                have HG := hidd hg
                clear hg
                go_wp2
                go_ret2
                rw [hr]
                exact ⟨⟨k, rfl⟩, HG.out⟩
            | true =>
              have HL := hidd (lone_sp (t := bs s) (i := i) h91 h46 (fun e => by rw [hdg] at e; cases e.2) h47 h92 (by rw [h123]; rfl))
              clear h40 h91 h92 h47
              go_wp2_with fail
              refine (sees_val R hi { data := #[40] } false (by rw [hcc]; rfl)).mono ?_
              rintro e w9 ⟨rfl, R9, T9⟩
              replace T := T.trans T9
              clear R
              have R := R9
              clear R9 T9
              go_wp2_with fail
              refine (sees_val R hi { data := #[91] } false (by rw [hcc]; rfl)).mono ?_
              rintro e w9 ⟨rfl, R9, T9⟩
              replace T := T.trans T9
              clear R
              have R := R9
              clear R9 T9
              go_wp2_with fail
              refine (sees_val R hi { data := #[92] } false (by rw [hcc]; rfl)).mono ?_
              rintro e w9 ⟨rfl, R9, T9⟩
              replace T := T.trans T9
              clear R
              have R := R9
              clear R9 T9
              go_wp2_with fail
              refine (sees_val R hi { data := #[123] } true (by rw [hcc]; rfl)).mono ?_
              rintro e w9 ⟨rfl, R9, T9⟩
              replace T := T.trans T9
              clear R
              have R := R9
              clear R9 T9
              go_wp2_with fail
              refine (bnds_val R hi hs true (by rw [hdg, hcc]; rfl)).mono ?_
              rintro e w2 ⟨rfl, R2, T2⟩
              replace T := T.trans T2
              clear R T2
              have R := R2
              clear R2 hdg
              go_wp2_with fail
              refine (takes_nope (c := 46) R hi h46).mono ?_
              rintro e w2 ⟨rfl, R2, T2⟩
              replace T := T.trans T2
              clear R T2
              have R := R2
              clear R2
              go_wp2_with fail
              refine (sees_val R hi { data := #[47, 36] } false (by rw [hcc]; rfl)).mono ?_
              rintro e w9 ⟨rfl, R9, T9⟩
              replace T := T.trans T9
              clear R
              have R := R9
              clear R9 T9
              go_wp2_with fail
              refine (sees_val R hi { data := #[124, 42, 43, 63, 123, 125, 40, 41, 91, 93, 46, 92, 47, 36, 94, 34] } true (by rw [hcc]; rfl)).mono ?_
              rintro e w9 ⟨rfl, R9, T9⟩
              replace T := T.trans T9
              clear R
              have R := R9
              clear R9 T9
              clear hcc h46 h123
              obtain ⟨a0, a1, a2, a3, a4, a5⟩ := R.cells
              go_wp2_with fail
              refine wp_region_still_tail 8 (by kernel_rfl) (by kernel_rfl) ?_
              simp only [List.take_succ_cons, List.take_zero, List.drop_succ_cons, List.drop_zero]
              repeat still_step
              refine wpStill_nil ?_
              change wpList _ _ _ _ _ (World.drew _)
              go_wp2_with fail
              refine (fail_any R.drew 41 _).mono ?_
              rintro e w9 ⟨rfl, R9, T9⟩
              replace T := (T.drew).trans T9
              clear R a0 a1 a2 a3 a4 a5 T9
              go_wp2
              go_ret2
              rw [HL.out]
              exact ⟨⟨_, rfl⟩, _, v, d, R9, Fr.of T v⟩
          · obtain ⟨c, hcc⟩ : ∃ c, at_ (bs s) i = c := ⟨_, rfl⟩
            have hlt := at_lt hby i
            rw [hcc] at h40 h91 h92 h46 h47 h123 hlt
            have h47a : c ≠ 47 := fun e => h47 (.inl e)
            have h36a : c ≠ 36 := fun e => h47 (.inr e)
            cases hsp : specialB c with
            | true =>
              have HL := hidd (lone_sp (t := bs s) (i := i) (by rw [hcc]; exact h91) (by rw [hcc]; exact h46) (fun e => h123 (hcc ▸ e.1)) (by rw [hcc]; exact h47) (by rw [hcc]; exact h92) (by rw [hcc]; exact hsp))
              clear h47
              go_wp2_with fail
              refine (sees_val R hi { data := #[40] } false (by rw [hcc]; show ([40] : List Nat).contains c = false; simp [h40])).mono ?_
              rintro e w9 ⟨rfl, R9, T9⟩
              replace T := T.trans T9
              clear R
              have R := R9
              clear R9 T9
              go_wp2_with fail
              refine (sees_val R hi { data := #[91] } false (by rw [hcc]; show ([91] : List Nat).contains c = false; simp [h91])).mono ?_
              rintro e w9 ⟨rfl, R9, T9⟩
              replace T := T.trans T9
              clear R
              have R := R9
              clear R9 T9
              go_wp2_with fail
              refine (sees_val R hi { data := #[92] } false (by rw [hcc]; show ([92] : List Nat).contains c = false; simp [h92])).mono ?_
              rintro e w9 ⟨rfl, R9, T9⟩
              replace T := T.trans T9
              clear R
              have R := R9
              clear R9 T9
              go_wp2_with fail
              refine (sees_val R hi { data := #[123] } false (by rw [hcc]; show ([123] : List Nat).contains c = false; simp [h123])).mono ?_
              rintro e w9 ⟨rfl, R9, T9⟩
              replace T := T.trans T9
              clear R
              have R := R9
              clear R9 T9
              go_wp2_with fail
              refine (takes_nope (c := 46) R hi (by rw [hcc]; exact h46)).mono ?_
              rintro e w2 ⟨rfl, R2, T2⟩
              replace T := T.trans T2
              clear R T2
              have R := R2
              clear R2
              go_wp2_with fail
              refine (sees_val R hi { data := #[47, 36] } false (by rw [hcc]; show ([47, 36] : List Nat).contains c = false; simp [h47a, h36a])).mono ?_
              rintro e w9 ⟨rfl, R9, T9⟩
              replace T := T.trans T9
              clear R
              have R := R9
              clear R9 T9
              go_wp2_with fail
              refine (sees_val R hi { data := #[124, 42, 43, 63, 123, 125, 40, 41, 91, 93, 46, 92, 47, 36, 94, 34] } true (by rw [hcc]; exact hsp)).mono ?_
              rintro e w9 ⟨rfl, R9, T9⟩
              replace T := T.trans T9
              clear R
              have R := R9
              clear R9 T9
              clear hcc h46 h123 hsp h40 h91 h92 h47a h36a
              obtain ⟨a0, a1, a2, a3, a4, a5⟩ := R.cells
              go_wp2_with fail
              refine wp_region_still_tail 8 (by kernel_rfl) (by kernel_rfl) ?_
              simp only [List.take_succ_cons, List.take_zero, List.drop_succ_cons, List.drop_zero]
              repeat still_step
              refine wpStill_nil ?_
              change wpList _ _ _ _ _ (World.drew _)
              go_wp2_with fail
              refine (fail_any R.drew 41 _).mono ?_
              rintro e w9 ⟨rfl, R9, T9⟩
              replace T := (T.drew).trans T9
              clear R a0 a1 a2 a3 a4 a5 T9
              go_wp2
              go_ret2
              rw [HL.out]
              exact ⟨⟨_, rfl⟩, _, v, d, R9, Fr.of T v⟩
            | false =>
              have HL := hidd (lone_one (t := bs s) (i := i) (by rw [hcc]; exact h91) (by rw [hcc]; exact h46) (fun e => h123 (hcc ▸ e.1)) (by rw [hcc]; exact h47) (fun e => by rw [hcc, hsp] at e; cases e.2))
              rw [show one (bs s) i = .ok (c, i + 1) from by unfold one; rw [hcc, if_pos h92]] at HL
              clear h47
              go_wp2_with fail
              refine (sees_val R hi { data := #[40] } false (by rw [hcc]; show ([40] : List Nat).contains c = false; simp [h40])).mono ?_
              rintro e w9 ⟨rfl, R9, T9⟩
              replace T := T.trans T9
              clear R
              have R := R9
              clear R9 T9
              go_wp2_with fail
              refine (sees_val R hi { data := #[91] } false (by rw [hcc]; show ([91] : List Nat).contains c = false; simp [h91])).mono ?_
              rintro e w9 ⟨rfl, R9, T9⟩
              replace T := T.trans T9
              clear R
              have R := R9
              clear R9 T9
              go_wp2_with fail
              refine (sees_val R hi { data := #[92] } false (by rw [hcc]; show ([92] : List Nat).contains c = false; simp [h92])).mono ?_
              rintro e w9 ⟨rfl, R9, T9⟩
              replace T := T.trans T9
              clear R
              have R := R9
              clear R9 T9
              go_wp2_with fail
              refine (sees_val R hi { data := #[123] } false (by rw [hcc]; show ([123] : List Nat).contains c = false; simp [h123])).mono ?_
              rintro e w9 ⟨rfl, R9, T9⟩
              replace T := T.trans T9
              clear R
              have R := R9
              clear R9 T9
              go_wp2_with fail
              refine (takes_nope (c := 46) R hi (by rw [hcc]; exact h46)).mono ?_
              rintro e w2 ⟨rfl, R2, T2⟩
              replace T := T.trans T2
              clear R T2
              have R := R2
              clear R2
              go_wp2_with fail
              refine (sees_val R hi { data := #[47, 36] } false (by rw [hcc]; show ([47, 36] : List Nat).contains c = false; simp [h47a, h36a])).mono ?_
              rintro e w9 ⟨rfl, R9, T9⟩
              replace T := T.trans T9
              clear R
              have R := R9
              clear R9 T9
              go_wp2_with fail
              refine (sees_val R hi { data := #[124, 42, 43, 63, 123, 125, 40, 41, 91, 93, 46, 92, 47, 36, 94, 34] } false (by rw [hcc]; exact hsp)).mono ?_
              rintro e w9 ⟨rfl, R9, T9⟩
              replace T := T.trans T9
              clear R
              have R := R9
              clear R9 T9
              go_wp2_with fail
              refine (next_any R hi hs).mono ?_
              rintro e w2 ⟨rfl, R2, T2⟩
              rw [hcc]
              replace T := T.trans T2
              clear R T2 hcc h46 h123 hsp h40 h91 h92 h47a h36a
              go_wp2_with fail
              refine (of_one c hlt _).mono ?_
              rintro e w3 ⟨rfl, b3⟩
              have R := R2.below b3 R2.lt
              replace T := T.below b3
              clear R2 b3
              have p8 := p.read T R
              have f8 := Fr.of T v
              clear R T
              go_wp2_with fail
              refine (oneof_any p8 hl (oneS c)).mono ?_
              rintro e w10 ⟨rfl, v', p10, f10⟩
              have HP := hidd p10
              have f := f8.trans f10
              clear p8 p10 f8 f10
              go_wp2
              go_ret2
              rw [HL.out]
              exact ⟨rfl, v', _, HP.out, ⟨rfl, fun _ _ => rfl, rfl, rfl, rfl, rfl⟩, rfl, f⟩
end

end Go.Proofs.YtghjkbjpdjlddaaDoor.Sy

/- The landed parser: parentheses, an item, a row, an alternative. -/
namespace Go.Proofs.YtghjkbjpdjlddaaDoor.Sy
open Go.RowKit
set_option maxRecDepth 100000
set_option linter.unusedVariables false

/-- Something is wrong. -/
def BadR (w : World) (b : Nat) (s : ByteArray) (v : Value) (r : Except Bad (List Nd)) (e : Ending) (w' : World) : Prop :=
  ∃ (k : Int) (x p j : Nat) (v' : Value) (d' : Int), e = .returned (.tuple #[.int .i64 k, .bool false]) ∧ r = .error (x, p) ∧ PR w' b s (j : Int) (x : Int) (p : Int) v' d' ∧ Fr b v v' w w'
/-- An atom, or an item, was read. -/
def ItemR (w : World) (b : Nat) (s : ByteArray) (v : Value) (l : List NR) (i : Nat) (ns : List Nd) (st : List (List Nat × List Nat)) (aa I : List Nat) (e : Ending) (w' : World) : Prop :=
  (∃ (k j : Nat) (ns' : List Nd) (v' : Value) (l' : List NR), e = .returned (.tuple #[.int .i64 (k : Int), .bool true]) ∧ run (bs s) ⟨i, ns, st, aa, I⟩ = run (bs s) ⟨j, ns', st, aa, I ++ [k]⟩ ∧ i < j ∧ j ≤ s.size ∧
    PS w' b s (j : Int) 0 0 (st.length : Int) v' l' ∧ GN (l'.map (·.1)) ns' ∧ Goes b v l v' l' w w' ∧ l'.length + 2 * i ≤ l.length + 2 * j) ∨
  BadR w b s v (run (bs s) ⟨i, ns, st, aa, I⟩) e w'
/-- An alternative was read. -/
def AltR (w : World) (b : Nat) (s : ByteArray) (v : Value) (l : List NR) (i : Nat) (ns : List Nd) (st : List (List Nat × List Nat)) (e : Ending) (w' : World) : Prop :=
  (∃ (k j : Nat) (ns1 : List Nd) (a1 I1 : List Nat) (ns' : List Nd) (v' : Value) (l' : List NR), e = .returned (.tuple #[.int .i64 (k : Int), .bool true]) ∧ run (bs s) ⟨i, ns, st, [], []⟩ = run (bs s) ⟨j, ns1, st, a1, I1⟩ ∧ close ns1 a1 I1 = (ns', k) ∧ i ≤ j ∧ j ≤ s.size ∧ (j < s.size → at_ (bs s) j = 41) ∧
    PS w' b s (j : Int) 0 0 (st.length : Int) v' l' ∧ GN (l'.map (·.1)) ns' ∧ Goes b v l v' l' w w' ∧ l'.length + 2 * i ≤ l.length + 2 * j + 1) ∨
  BadR w b s v (run (bs s) ⟨i, ns, st, [], []⟩) e w'
/-- A row was read. -/
def RowR (w : World) (b : Nat) (s : ByteArray) (v : Value) (l : List NR) (i : Nat) (ns : List Nd) (st : List (List Nat × List Nat)) (aa : List Nat) (e : Ending) (w' : World) : Prop :=
  (∃ (k j : Nat) (ns1 : List Nd) (I1 : List Nat) (ns' : List Nd) (v' : Value) (l' : List NR), e = .returned (.tuple #[.int .i64 (k : Int), .bool true]) ∧ run (bs s) ⟨i, ns, st, aa, []⟩ = run (bs s) ⟨j, ns1, st, aa, I1⟩ ∧ mkRow ns1 I1 = (ns', k) ∧ i ≤ j ∧ j ≤ s.size ∧ (j < s.size → at_ (bs s) j = 124 ∨ at_ (bs s) j = 41) ∧
    PS w' b s (j : Int) 0 0 (st.length : Int) v' l' ∧ GN (l'.map (·.1)) ns' ∧ Goes b v l v' l' w w' ∧ l'.length + 2 * i ≤ l.length + 2 * j + 1) ∨
  BadR w b s v (run (bs s) ⟨i, ns, st, aa, []⟩) e w'
/-- What an alternative owes, n bytes ahead of the end. -/
def AltC (n : Nat) : Prop := ∀ (w : World) (b : Nat) (s : ByteArray) (v : Value) (l : List NR) (i : Nat) (ns : List Nd) (st : List (List Nat × List Nat)),
  s.size - i < n → PS w b s (i : Int) 0 0 (st.length : Int) v l → GN (l.map (·.1)) ns → i ≤ s.size → s.size ≤ 1024 → st.length ≤ 64 → l.length ≤ 2 * i →
  Calls Tryd.prog 36 #[.pointer (some ⟨b, 0, none⟩)] w fun e w' => AltR w b s v l i ns st e w'

section
variable {w w' w1 : World} {b : Nat} {s : ByteArray} {v v1 : Value} {l l1 : List NR} {i : Nat} {ns : List Nd} {st : List (List Nat × List Nat)} {aa I : List Nat}
theorem BadR.from {r : Except Bad (List Nd)} {e : Ending} (f : Fr b v v1 w w1) (h : BadR w1 b s v1 r e w') : BadR w b s v r e w' := by
  obtain ⟨k, x, p, j, v', d', h1, h2, h3, h4⟩ := h
  exact ⟨k, x, p, j, v', d', h1, h2, h3, f.trans h4⟩
theorem gn_snoc {gs : List Gd} {ns : List Nd} {g : Gd} {n : Nd} (h : GN gs ns) (h1 : GN1 g n) : GN (gs ++ [g]) (ns ++ [n]) := by
  refine ⟨by simp [h.1], fun i hi => ?_⟩
  rw [List.length_append, List.length_singleton] at hi
  rcases Nat.lt_or_ge i gs.length with h2 | h2
  · have e1 : (gs ++ [g]).getD i gd0 = gs.getD i gd0 := by rw [List.getD_eq_getElem?_getD, List.getD_eq_getElem?_getD, List.getElem?_append_left h2]
    have e2 : (ns ++ [n]).getD i nd0 = ns.getD i nd0 := by rw [List.getD_eq_getElem?_getD, List.getD_eq_getElem?_getD, List.getElem?_append_left (by rw [← h.1]; exact h2)]
    rw [e1, e2]
    exact h.2 i h2
  · have hi2 : i = gs.length := by omega
    subst hi2
    have e1 : (gs ++ [g]).getD gs.length gd0 = g := by simp [List.getD_eq_getElem?_getD]
    have e2 : (ns ++ [n]).getD gs.length nd0 = n := by rw [h.1]; simp [List.getD_eq_getElem?_getD]
    rw [e1, e2]
    exact h1
theorem gn_map {l : List NR} {ns : List Nd} {x : NR} {n : Nd} (h : GN (l.map (·.1)) ns) (h1 : GN1 x.1 n) : GN ((l ++ [x]).map (·.1)) (ns ++ [n]) := by
  rw [List.map_append]
  exact gn_snoc h h1
/-- An atom that is no parenthesis is an atom. -/
theorem item_lone {e : Ending} (h : GotL w b s (st.length : Int) v l (lone (bs s) i) e w') (hg : GN (l.map (·.1)) ns) (hi : i < s.size) (h1 : at_ (bs s) i ≠ 124) (h2 : at_ (bs s) i ≠ 41) (h3 : I = [] ∨ repAt (bs s) i = false) (h4 : at_ (bs s) i ≠ 40) : ItemR w b s v l i ns st aa I e w' := by
  have hbl := bs_len s
  have hr : run (bs s) ⟨i, ns, st, aa, I⟩ = _ := run_lone (by rw [hbl]; exact hi) h1 h2 h3 h4
  unfold GotL at h
  cases hl : lone (bs s) i with
  | ok x =>
    obtain ⟨n, j⟩ := x
    rw [hl] at h hr
    obtain ⟨he, v', x, p1, g1, g2, f⟩ := h
    have hj := lone_ok (by rw [hbl]; exact hi) hl
    rw [hbl] at hj
    have hnl : ns.length = l.length := by have := hg.1; rw [List.length_map] at this; exact this.symm
    refine .inl ⟨l.length, j, ns ++ [n], v', l ++ [x], he, by rw [hr, hnl], hj.1, hj.2, p1, gn_map hg g1, (Goes.refl b v l w).add f (fun y _ hne => absurd g2 hne), by rw [List.length_append, List.length_singleton]; omega⟩
  | error x =>
    obtain ⟨x, pp⟩ := x
    rw [hl] at h hr
    obtain ⟨⟨k, he⟩, j, v', d', h5, f⟩ := h
    exact .inr ⟨k, x, pp, j, v', d', he, hr, h5, f⟩
end

end Go.Proofs.YtghjkbjpdjlddaaDoor.Sy

/- The landed parser: parentheses. -/
namespace Go.Proofs.YtghjkbjpdjlddaaDoor.Sy
open Go.RowKit
set_option maxRecDepth 100000
set_option linter.unusedVariables false

section
variable {w w' w1 : World} {b : Nat} {s : ByteArray} {v v1 : Value} {l l1 : List NR} {i : Nat} {ns : List Nd} {st : List (List Nat × List Nat)} {aa I : List Nat}
set_option maxHeartbeats 2000000 in
theorem group_any_ {n : Nat} (hA : AltC n) (hn : s.size - i < n + 1) (p : PS w b s (i : Int) 0 0 (st.length : Int) v l) (hg : GN (l.map (·.1)) ns) (hi : i < s.size) (hs : s.size ≤ 1024) (hst : st.length ≤ 64) (hl : l.length ≤ 2 * i) (h40 : at_ (bs s) i = 40) (h3 : I = [] ∨ repAt (bs s) i = false) :
    Calls Tryd.prog 85 #[.pointer (some ⟨b, 0, none⟩)] w fun e w' => ItemR w b s v l i ns st aa I e w' := by
  have hbl := bs_len s
  obtain ⟨c0, c1, c2, c3, c4, c5⟩ := p.pr.cells
  have ht := p.pr.thawed
  by_cases h64 : st.length = 64
  · have HR : Hid (run (bs s) ⟨i, ns, st, aa, I⟩ = .error (46, i)) := run_deep (by rw [hbl]; exact hi) h3 h40 (by omega)
    have h64i : ((st.length : Int) == 64) = true := by rw [h64]; rfl
    clear h64 h40 hA hn hg hl h3 hbl
    go_enter Tryd.func85, Tryd.ntmps85
    go_wp2_with fail
    refine wp_region_still_tail 8 (by kernel_rfl) (by kernel_rfl) ?_
    simp only [List.take_succ_cons, List.take_zero, List.drop_succ_cons, List.drop_zero]
    repeat still_step
    refine wpStill_nil ?_
    change wpList _ _ _ _ _ (World.drew _)
    go_wp2_with fail
    refine (fail_any p.pr.drew 46 _).mono ?_
    rintro e w9 ⟨rfl, R9, T9⟩
    have f := (Fr.of (Touch.refl b b w).drew v).trans (Fr.of T9 v)
    clear T9 c0 c1 c2 c3 c4 c5 ht
    go_wp2
    go_ret2
    exact .inr ⟨_, 46, i, i, v, _, rfl, HR.out, R9, f⟩
  · have HO : Hid (run (bs s) ⟨i, ns, st, aa, I⟩ = run (bs s) ⟨i + 1, ns, (aa, I) :: st, [], []⟩) := run_open (by rw [hbl]; exact hi) h3 h40 (by omega)
    have h64i : ((st.length : Int) == 64) = false := by simp; omega
    have R1 := (p.pr.atTo ((i : Int) + 1)).deep ((st.length : Int) + 1)
    have T1 := ((Touch.refl b b w).set1 1 (.int .i64 ((i : Int) + 1))).set1 5 (.int .i64 ((st.length : Int) + 1))
    go_enter Tryd.func85, Tryd.ntmps85
    go_wp2_with fail
    generalize (w.setCell ⟨b, 1, none⟩ (.int .i64 ((i : Int) + 1))).setCell ⟨b, 5, none⟩ (.int .i64 ((st.length : Int) + 1)) = w1 at *
    rw [show (i : Int) + 1 = ((i + 1 : Nat) : Int) from by omega, show (st.length : Int) + 1 = ((((aa, I) :: st).length : Nat) : Int) from by simp] at R1
    have p1 := p.read T1 R1
    have f1 := Fr.of T1 v
    clear c0 c1 c2 c3 c4 c5 ht R1 T1 h64i
    refine (hA w1 b s v l (i + 1) ns ((aa, I) :: st) (by omega) p1 hg hi hs (by simp; omega) (by omega)).mono ?_
    rintro e w2 hr
    clear hA hn h3 hg p1
    rcases hr with ⟨k, j, ns1, a1, I1, ns', v', l', rfl, hrun, hcl, hij, hj, hend, p2, g2, go2, hlen⟩ | ⟨k, x, pp, j, v', d', rfl, hr, R2, f2⟩
    · have HRUN := hidd hrun
      have HCL := hidd hcl
      have HG := hidd g2
      have hgo : Goes b v l v' l' w w2 := ⟨f1.trans go2.fr, by
        obtain ⟨m, h5, h6⟩ := go2.new
        exact ⟨m, h5, fun x hx a ha hne => Nat.le_trans f1.size (h6 x hx a ha hne)⟩⟩
      clear hrun hcl g2 go2 f1
      rcases Nat.lt_or_ge j s.size with hlt | hge
      · have h41 := hend hlt
        have HS : Hid (run (bs s) ⟨j, ns1, (aa, I) :: st, a1, I1⟩ = run (bs s) ⟨j + 1, (close ns1 a1 I1).1, st, aa, I ++ [(close ns1 a1 I1).2]⟩) := run_shut (by rw [hbl]; exact hlt) h41
        have his : is (bs s) j 41 = true := by rw [is_of (by rw [hbl]; exact hlt), h41]; rfl
        clear hend h41 hbl
        go_wp2_with fail
        refine (takes_yes (c := 41) p2.pr (by omega) his).mono ?_
        rintro e w3 ⟨rfl, R3, T3⟩
        have p3 := p2.read T3 R3
        have hgo3 := hgo.read T3
        clear p2 hgo T3 R3 his
        obtain ⟨c0, c1, c2, c3, c4, c5⟩ := p3.pr.cells
        rw [show ((((aa, I) :: st).length : Nat) : Int) = (st.length : Int) + 1 from by simp] at c5
        have ht := p3.pr.thawed
        have R4 := p3.pr.deep (st.length : Int)
        have T4 := (Touch.refl b b w3).set1 5 (.int .i64 (st.length : Int))
        have p4 := p3.read T4 R4
        have hgo4 := hgo3.read T4
        clear p3 hgo3 R4 T4
        go_wp2
        go_ret2
        refine .inl ⟨k, j + 1, ns', v', l', rfl, ?_, by omega, by omega, p4, HG.out, hgo4, by omega⟩
        rw [HO.out, HRUN.out, HS.out, HCL.out]
      · have hje : j = s.size := by omega
        subst hje
        have HS : Hid (run (bs s) ⟨s.size, ns1, (aa, I) :: st, a1, I1⟩ = .error (40, s.size)) := by show _ = _; rw [run_soon hbl.symm, hbl]
        have his : is (bs s) s.size 41 = false := is_end (by rw [hbl]; exact Nat.le_refl _)
        clear hend hbl
        go_wp2_with fail
        refine (takes_no (c := 41) p2.pr (Nat.le_refl _) his).mono ?_
        rintro e w3 ⟨rfl, m3, rfl⟩
        have R3 := p2.pr.drewN m3
        have f3 := hgo.fr.trans (Fr.of ((Touch.refl b b w2).drewN m3) v')
        clear p2 hgo his
        generalize w2.drewN m3 = w3 at *
        obtain ⟨c0, c1, c2, c3, c4, c5⟩ := R3.cells
        go_wp2_with fail
        refine wp_region_still_tail 8 (by kernel_rfl) (by kernel_rfl) ?_
        simp only [List.take_succ_cons, List.take_zero, List.drop_succ_cons, List.drop_zero]
        repeat still_step
        refine wpStill_nil ?_
        change wpList _ _ _ _ _ (World.drew _)
        go_wp2_with fail
        refine (fail_any R3.drew 40 _).mono ?_
        rintro e w9 ⟨rfl, R9, T9⟩
        have f := f3.trans ((Fr.of (Touch.refl b b w3).drew v').trans (Fr.of T9 v'))
        clear T9 c0 c1 c2 c3 c4 c5 f3
        go_wp2
        go_ret2
        exact .inr ⟨_, 40, s.size, s.size, v', _, rfl, by rw [HO.out, HRUN.out, HS.out], R9, f⟩
    · have HR := hidd hr
      clear hr
      go_wp2
      go_ret2
      exact .inr ⟨_, x, pp, j, v', d', rfl, by rw [HO.out, HR.out], R2, f1.trans f2⟩

set_option maxHeartbeats 1000000 in
theorem atom_any {n : Nat} (hA : AltC n) (hn : s.size - i < n + 1) (p : PS w b s (i : Int) 0 0 (st.length : Int) v l) (hg : GN (l.map (·.1)) ns) (hi : i < s.size) (hs : s.size ≤ 1024) (hst : st.length ≤ 64) (hl : l.length ≤ 2 * i) (h1 : at_ (bs s) i ≠ 124) (h2 : at_ (bs s) i ≠ 41) (h3 : I = [] ∨ repAt (bs s) i = false) :
    Calls Tryd.prog 79 #[.pointer (some ⟨b, 0, none⟩)] w fun e w' => ItemR w b s v l i ns st aa I e w' := by
  by_cases h40 : at_ (bs s) i = 40
  · go_enter Tryd.func79, Tryd.ntmps79
    go_wp2_with fail
    refine (sees_val p.pr hi { data := #[40] } true (by rw [h40]; rfl)).mono ?_
    rintro e w2 ⟨rfl, R2, T2⟩
    have p2 := p.read T2 R2
    have f2 := Fr.of T2 v
    clear R2 T2
    go_wp2_with fail
    refine (group_any_ (aa := aa) (I := I) hA hn p2 hg hi hs hst hl h40 h3).mono ?_
    rintro e w3 hr
    have hr2 : ItemR w b s v l i ns st aa I e w3 := by
      rcases hr with ⟨k, j, ns', v', l', h5, h6, h7, h8, h9, h10, h11, h12⟩ | h
      · refine .inl ⟨k, j, ns', v', l', h5, h6, h7, h8, h9, h10, ⟨f2.trans h11.fr, ?_⟩, h12⟩
        obtain ⟨m, h13, h14⟩ := h11.new
        exact ⟨m, h13, fun x hx a ha hne => Nat.le_trans f2.size (h14 x hx a ha hne)⟩
      · exact .inr (h.from f2)
    clear hr hA p2 f2 hg hl h40 h1 h2 h3
    have hsh : ∃ (k : Int) (z : Bool), e = .returned (.tuple #[.int .i64 k, .bool z]) := by
      rcases hr2 with ⟨k, j, ns', v', l', h5, h6, h7, h8, h9, h10, h11, h12⟩ | ⟨k, x, pp, j, v', d', h5, h6⟩
      · exact ⟨_, _, h5⟩
      · exact ⟨_, _, h5⟩
    obtain ⟨k, z, rfl⟩ := hsh
    have HR := hidd hr2
    clear hr2
    go_wp2
    go_ret2
    exact HR.out
  · refine (atomL_any p hi (by omega) (by omega) h40).mono ?_
    rintro e w2 hr
    exact item_lone hr hg hi h1 h2 h3 h40
end

end Go.Proofs.YtghjkbjpdjlddaaDoor.Sy

/- The landed parser: an item. -/
namespace Go.Proofs.YtghjkbjpdjlddaaDoor.Sy
open Go.RowKit
set_option maxRecDepth 100000
set_option linter.unusedVariables false

section
variable {w w' w1 : World} {b : Nat} {s : ByteArray} {v v1 : Value} {l l1 : List NR} {i : Nat} {ns : List Nd} {st : List (List Nat × List Nat)} {aa I : List Nat}
/-- An item was read: no repetition stands behind it. -/
def ItemQ (w : World) (b : Nat) (s : ByteArray) (v : Value) (l : List NR) (i : Nat) (ns : List Nd) (st : List (List Nat × List Nat)) (aa I : List Nat) (e : Ending) (w' : World) : Prop :=
  (∃ (k j : Nat) (ns' : List Nd) (v' : Value) (l' : List NR), e = .returned (.tuple #[.int .i64 (k : Int), .bool true]) ∧ run (bs s) ⟨i, ns, st, aa, I⟩ = run (bs s) ⟨j, ns', st, aa, I ++ [k]⟩ ∧ i < j ∧ j ≤ s.size ∧
    PS w' b s (j : Int) 0 0 (st.length : Int) v' l' ∧ GN (l'.map (·.1)) ns' ∧ Goes b v l v' l' w w' ∧ l'.length + 2 * i ≤ l.length + 2 * j ∧ repAt (bs s) j = false) ∨
  BadR w b s v (run (bs s) ⟨i, ns, st, aa, I⟩) e w'
/-- Reading an item while it goes on. -/
def ItmR (w : World) (b : Nat) (s : ByteArray) (v : Value) (l : List NR) (i : Nat) (ns : List Nd) (st : List (List Nat × List Nat)) (aa I : List Nat) (s4 s5 : Value) (wr : World) : Prop :=
  (∃ (k j : Nat) (ns' : List Nd) (v' : Value) (l' : List NR), s4 = .int .i64 (k : Int) ∧ s5 = .bool true ∧ run (bs s) ⟨i, ns, st, aa, I⟩ = run (bs s) ⟨j, ns', st, aa, I ++ [k]⟩ ∧ i < j ∧ j ≤ s.size ∧
    PS wr b s (j : Int) 0 0 (st.length : Int) v' l' ∧ GN (l'.map (·.1)) ns' ∧ Goes b v l v' l' w wr ∧ l'.length + 2 * i ≤ l.length + 2 * j) ∨
  (∃ (k : Int) (x p j : Nat) (v' : Value) (d' : Int), s4 = .int .i64 k ∧ s5 = .bool false ∧ run (bs s) ⟨i, ns, st, aa, I⟩ = .error (x, p) ∧ PR wr b s (j : Int) (x : Int) (p : Int) v' d' ∧ Fr b v v' w wr)
def itmM (b : Nat) (s : ByteArray) (s5 : Value) (wr : World) : Nat := match s5 with | .bool true => s.size + 1 - atOf wr b | _ => 0
theorem rep_or (t : List Nat) (j : Nat) : repAt t j = (seesB t j [42, 43, 63] || (is t j 123 && dig t (j + 1))) := by
  have h : seesB t j [42, 43, 63] = (is t j 42 || is t j 43 || is t j 63) := by
    unfold seesB is
    cases decide (j < t.length) with
    | false => rfl
    | true =>
      simp only [Bool.true_and, List.contains_cons, List.contains_nil, Bool.or_false, Bool.or_assoc]
  unfold repAt
  rw [h]
theorem rep_lt {t : List Nat} {j : Nat} (h : repAt t j = true) : j < t.length := by
  unfold repAt at h
  simp only [Bool.or_eq_true, Bool.and_eq_true] at h
  rcases h with ((h | h) | h) | ⟨h, _⟩ <;> exact (is_lt h).1
theorem rep_lit (k lo hi : Int) (A : Option Addr) (c : Nat) : (gdL (repG k lo hi) A c).toArray = #[.int .u8 5, .int .u64 0, .int .u64 0, .int .u64 0, .int .u64 0, .slice A 1 c, .int .i64 lo, .int .i64 hi, .string { data := #[] }] := by
  simp only [gdL, repG, W_zero, List.length_cons, List.length_nil, Nat.zero_add]
theorem Goes.into (f : Fr b v v w w1) {v' : Value} {l' : List NR} {w2 : World} (g : Goes b v l v' l' w1 w2) : Goes b v l v' l' w w2 := by
  obtain ⟨m, h5, h6⟩ := g.new
  exact ⟨f.trans g.fr, m, h5, fun x hx a ha hne => Nat.le_trans f.size (h6 x hx a ha hne)⟩

set_option maxHeartbeats 4000000 in
theorem item_any {n : Nat} (hA : AltC n) (hn : s.size - i < n + 1) (p : PS w b s (i : Int) 0 0 (st.length : Int) v l) (hg : GN (l.map (·.1)) ns) (hi : i < s.size) (hs : s.size ≤ 1024) (hst : st.length ≤ 64) (hl : l.length ≤ 2 * i) (h1 : at_ (bs s) i ≠ 124) (h2 : at_ (bs s) i ≠ 41) (h3 : I = [] ∨ repAt (bs s) i = false) :
    Calls Tryd.prog 70 #[.pointer (some ⟨b, 0, none⟩)] w fun e w' => ItemQ w b s v l i ns st aa I e w' := by
  have HBL := hidd (bs_len s)
  go_enter Tryd.func70, Tryd.ntmps70
  go_wp2_with fail
  refine (atom_any (aa := aa) (I := I) hA hn p hg hi hs hst hl h1 h2 h3).mono ?_
  rintro e w1 hr
  have hsh : ∃ (s4 s5 : Value), e = .returned (.tuple #[s4, s5]) ∧ ItmR w b s v l i ns st aa I s4 s5 w1 := by
    rcases hr with ⟨k, j, ns', v', l', h5, h6⟩ | ⟨k, x, pp, j, v', d', h5, h6⟩
    · exact ⟨_, _, h5, .inl ⟨k, j, ns', v', l', rfl, rfl, h6⟩⟩
    · exact ⟨_, _, h5, .inr ⟨k, x, pp, j, v', d', rfl, rfl, h6⟩⟩
  obtain ⟨s4, s5, rfl, hr5⟩ := hsh
  have HR5 := hidd hr5
  clear hr hr5 hA hn p hg h1 h2 h3
  go_wp2
  go_loopw [4, 5] (fun s4 s5 wr => ItmR w b s v l i ns st aa I s4 s5 wr) (fun _ s5 wr => itmM b s s5 wr)
  case atStart => exact HR5.out
  case round =>
    clear HR5
    rcases hrel with ⟨k, j, ns', v', l', rfl, rfl, hrun, hij, hj, p1, g1n, g1, hlen⟩ | ⟨k, x, pp, j, v', d', rfl, rfl, hr, R1, f1⟩
    · have HRUN := hidd hrun
      have HG := hidd g1n
      clear hrun g1n
      go_wp2_with fail
      refine (sees_any p1.pr hj { data := #[42, 43, 63] }).mono ?_
      rintro e w2 ⟨rfl, m2, rfl⟩
      have hro := rep_or (bs s) j
      rw [show bs { data := #[42, 43, 63] } = [42, 43, 63] from rfl]
      cases hse : seesB (bs s) j [42, 43, 63] with
      | true =>
        have hrep : repAt (bs s) j = true := by rw [hro, hse]; rfl
        have R3 := p1.pr.drewN m2
        have T3 := (Touch.refl b b wr).drewN m2
        clear hro hse
        generalize wr.drewN m2 = w3 at *
        have hjl : j < s.size := by have := rep_lt hrep; rw [HBL.out] at this; exact this
        have hrr : run (bs s) ⟨j, ns', st, aa, I ++ [k]⟩ = _ := run_repet (by rw [HBL.out]; exact hjl) hrep
        have HRR := hidd hrr
        clear hrr
        have hao : atOf wr b = j := p1.pr.atOf
        have p3 := p1.read T3 R3
        have g3 := g1.read T3
        clear T3 R3
        go_wp2_with fail
        refine (prepet_any p3.pr hjl (by omega) p3.ev p3.eb hrep).mono ?_
        rintro e w4 ⟨T4, hg4⟩
        have f4 := g3.read T4
        clear hrep
        unfold GotN at hg4
        cases hre : repet (bs s) j with
        | error x =>
          obtain ⟨x, pp⟩ := x
          rw [hre] at hg4 HRR
          obtain ⟨rfl, j4, R4⟩ := hg4
          have HRE := hidd hre
          clear hre
          go_wp2
          refine ⟨.inr ⟨_, x, pp, j4, v', _, rfl, rfl, ?_, R4, f4.fr⟩, ?_⟩
          · rw [HRUN.out]
            exact HRR.out
          · show 0 < _
            unfold itmM
            simp only
            omega
        | ok x =>
          obtain ⟨⟨lo, hi2⟩, j2⟩ := x
          have hj2 := repet_ok (by rw [HBL.out]; exact hjl) hre
          rw [HBL.out] at hj2
          rw [hre] at hg4 HRR
          obtain ⟨rfl, R4⟩ := hg4
          have p4 := p3.read T4 R4
          have p5 := p4.alloc (.cells #[.int .i64 (k : Int)] 3)
          have g5 := f4.read ((Touch.refl b b w4).alloc (.cells #[.int .i64 (k : Int)] 3))
          have hq := p4.pr.lt
          have hqv := p4.own.lt
          have hk5 : Kid (w4.alloc (.cells #[.int .i64 (k : Int)] 3)) b v' (repG (k : Int) lo hi2, some ⟨w4.heap.size, 0, none⟩, 1) := fun _ => ⟨w4.heap.size, 0, rfl, by simp, by omega, fun e => by have := (hqv _ e).2; omega, fun t ht => by
            have ht0 : t = 0 := by simp [repG] at ht; exact ht
            subst ht0
            rw [World.cell?_alloc_new]
            rfl⟩
          have hl5 : l'.length ≤ 100000 := by omega
          have ha := Ad.add_any p5 (repG (k : Int) lo hi2) (some ⟨w4.heap.size, 0, none⟩) 1 hk5 hl5
          rw [rep_lit] at ha
          have hw4 := f4.fr.size
          clear hre R4 T4 p4 p3 hk5 f4 hq hqv g3
          go_wp2_with fail
          generalize w4.alloc (.cells #[.int .i64 (k : Int)] 3) = w5 at *
          refine ha.mono ?_
          rintro e w6 ⟨rfl, v6, p6, f6⟩
          have g6 := g5.add f6 (x := (repG (k : Int) lo hi2, some ⟨w4.heap.size, 0, none⟩, 1)) (fun y hy _ => by cases hy; exact hw4)
          have HGN := hidd (gn_map HG.out (x := (repG (k : Int) lo hi2, some ⟨w4.heap.size, 0, none⟩, 1)) (gn_rep k lo hi2))
          have HP := hidd p6
          clear ha p5 g5 f6 p6
          go_wp2
          have hnl : ns'.length = l'.length := by have := HG.out.1; rw [List.length_map] at this; exact this.symm
          refine ⟨.inl ⟨l'.length, j2, ns' ++ [ndRep k lo hi2], v6, _, rfl, rfl, ?_, by omega, hj2.2, HP.out, HGN.out, g6, by rw [List.length_append, List.length_singleton]; omega⟩, ?_⟩
          · rw [HRUN.out, ← hnl]
            exact HRR.out
          · have e6 := HP.out.pr.atOf
            unfold itmM
            simp only
            rw [e6, hao]
            omega
      | false =>
        rw [hse, Bool.false_or] at hro
        go_wp2_with fail
        refine (bnds_any (p1.pr.drewN m2) hj (by omega)).mono ?_
        rintro e w3 ⟨rfl, m3, rfl⟩
        cases hbn : (is (bs s) j 123 && dig (bs s) (j + 1)) with
        | true =>
          have hrep : repAt (bs s) j = true := by rw [hro, hbn]
          have R3 := (p1.pr.drewN m2).drewN m3
          have T3 := ((Touch.refl b b wr).drewN m2).drewN m3
          clear hro hse hbn
          generalize (wr.drewN m2).drewN m3 = w3 at *
          have hjl : j < s.size := by have := rep_lt hrep; rw [HBL.out] at this; exact this
          have hrr : run (bs s) ⟨j, ns', st, aa, I ++ [k]⟩ = _ := run_repet (by rw [HBL.out]; exact hjl) hrep
          have HRR := hidd hrr
          clear hrr
          have hao : atOf wr b = j := p1.pr.atOf
          have p3 := p1.read T3 R3
          have g3 := g1.read T3
          clear T3 R3
          go_wp2_with fail
          refine (prepet_any p3.pr hjl (by omega) p3.ev p3.eb hrep).mono ?_
          rintro e w4 ⟨T4, hg4⟩
          have f4 := g3.read T4
          clear hrep
          unfold GotN at hg4
          cases hre : repet (bs s) j with
          | error x =>
            obtain ⟨x, pp⟩ := x
            rw [hre] at hg4 HRR
            obtain ⟨rfl, j4, R4⟩ := hg4
            have HRE := hidd hre
            clear hre
            go_wp2
            refine ⟨.inr ⟨_, x, pp, j4, v', _, rfl, rfl, ?_, R4, f4.fr⟩, ?_⟩
            · rw [HRUN.out]
              exact HRR.out
            · show 0 < _
              unfold itmM
              simp only
              omega
          | ok x =>
            obtain ⟨⟨lo, hi2⟩, j2⟩ := x
            have hj2 := repet_ok (by rw [HBL.out]; exact hjl) hre
            rw [HBL.out] at hj2
            rw [hre] at hg4 HRR
            obtain ⟨rfl, R4⟩ := hg4
            have p4 := p3.read T4 R4
            have p5 := p4.alloc (.cells #[.int .i64 (k : Int)] 3)
            have g5 := f4.read ((Touch.refl b b w4).alloc (.cells #[.int .i64 (k : Int)] 3))
            have hq := p4.pr.lt
            have hqv := p4.own.lt
            have hk5 : Kid (w4.alloc (.cells #[.int .i64 (k : Int)] 3)) b v' (repG (k : Int) lo hi2, some ⟨w4.heap.size, 0, none⟩, 1) := fun _ => ⟨w4.heap.size, 0, rfl, by simp, by omega, fun e => by have := (hqv _ e).2; omega, fun t ht => by
              have ht0 : t = 0 := by simp [repG] at ht; exact ht
              subst ht0
              rw [World.cell?_alloc_new]
              rfl⟩
            have hl5 : l'.length ≤ 100000 := by omega
            have ha := Ad.add_any p5 (repG (k : Int) lo hi2) (some ⟨w4.heap.size, 0, none⟩) 1 hk5 hl5
            rw [rep_lit] at ha
            have hw4 := f4.fr.size
            clear hre R4 T4 p4 p3 hk5 f4 hq hqv g3
            go_wp2_with fail
            generalize w4.alloc (.cells #[.int .i64 (k : Int)] 3) = w5 at *
            refine ha.mono ?_
            rintro e w6 ⟨rfl, v6, p6, f6⟩
            have g6 := g5.add f6 (x := (repG (k : Int) lo hi2, some ⟨w4.heap.size, 0, none⟩, 1)) (fun y hy _ => by cases hy; exact hw4)
            have HGN := hidd (gn_map HG.out (x := (repG (k : Int) lo hi2, some ⟨w4.heap.size, 0, none⟩, 1)) (gn_rep k lo hi2))
            have HP := hidd p6
            clear ha p5 g5 f6 p6
            go_wp2
            have hnl : ns'.length = l'.length := by have := HG.out.1; rw [List.length_map] at this; exact this.symm
            refine ⟨.inl ⟨l'.length, j2, ns' ++ [ndRep k lo hi2], v6, _, rfl, rfl, ?_, by omega, hj2.2, HP.out, HGN.out, g6, by rw [List.length_append, List.length_singleton]; omega⟩, ?_⟩
            · rw [HRUN.out, ← hnl]
              exact HRR.out
            · have e6 := HP.out.pr.atOf
              unfold itmM
              simp only
              rw [e6, hao]
              omega
        | false =>
          rw [hbn] at hro
          have HRO := hidd hro
          clear hro hse hbn
          go_wp2
          go_ret2
          have T3 := (Touch.refl b b wr).drewN (m2 + m3)
          exact .inl ⟨k, j, ns', v', l', rfl, HRUN.out, hij, hj, p1.read T3 (p1.pr.drewN (m2 + m3)), HG.out, g1.read T3, hlen, HRO.out⟩
    · have HR := hidd hr
      clear hr
      go_wp2
      go_ret2
      exact .inr ⟨k, x, pp, j, v', d', rfl, HR.out, R1, f1⟩
end

end Go.Proofs.YtghjkbjpdjlddaaDoor.Sy

/- The landed parser: a row. -/
namespace Go.Proofs.YtghjkbjpdjlddaaDoor.Sy
open Go.RowKit
set_option maxRecDepth 100000
set_option linter.unusedVariables false

section
variable {w w' w1 : World} {b : Nat} {s : ByteArray} {v v1 : Value} {l l1 : List NR} {i : Nat} {ns : List Nd} {st : List (List Nat × List Nat)} {aa I : List Nat}
/-- Reading a row while it goes on. -/
def RoR (w : World) (b : Nat) (s : ByteArray) (v : Value) (l : List NR) (i : Nat) (ns : List Nd) (st : List (List Nat × List Nat)) (aa : List Nat) (s4 : Value) (wr : World) : Prop :=
  ∃ (xs : List Nat) (j : Nat) (ns' : List Nd) (v' : Value) (l' : List NR), Loc w wr b v' l' s4 xs ∧ run (bs s) ⟨i, ns, st, aa, []⟩ = run (bs s) ⟨j, ns', st, aa, xs⟩ ∧ i ≤ j ∧ j ≤ s.size ∧ xs.length + i ≤ j ∧ (xs = [] ∨ repAt (bs s) j = false) ∧
    PS wr b s (j : Int) 0 0 (st.length : Int) v' l' ∧ GN (l'.map (·.1)) ns' ∧ Goes b v l v' l' w wr ∧ l'.length + 2 * i ≤ l.length + 2 * j
def emptyG : Gd := ⟨1, noB, [], 0, 0, ⟨#[]⟩⟩
theorem gn_empty : GN1 emptyG ndEmpty := ⟨rfl, fun _ _ => rfl, rfl, rfl, rfl, rfl⟩
theorem empty_lit : (gdL emptyG none 0).toArray = #[.int .u8 1, .int .u64 0, .int .u64 0, .int .u64 0, .int .u64 0, .slice none 0 0, .int .i64 0, .int .i64 0, .string { data := #[] }] := by
  simp only [gdL, emptyG, W_zero, List.length_nil]
theorem mkRow_many {ns : List Nd} {xs : List Nat} (h : 2 ≤ xs.length) : mkRow ns xs = (ns ++ [ndCat xs], ns.length) := by
  match xs, h with
  | x :: y :: r, _ => rfl
theorem mkAlt_lots {ns : List Nd} {xs : List Nat} (h : 2 ≤ xs.length) : mkAlt ns xs = (ns ++ [ndAlt xs], ns.length) := by
  match xs, h with
  | x :: y :: r, _ => rfl
theorem gn_len {l : List NR} {ns : List Nd} (h : GN (l.map (·.1)) ns) : ns.length = l.length := by have := h.1; rw [List.length_map] at this; exact this.symm
theorem int_news (w : World) (k : Int) : ∀ j u, ([.int .i64 k] : List Value)[j]? = some u → (w.alloc (.cells #[.int .i64 k] 3)).cell? ((⟨w.heap.size, 0, none⟩ : Addr).add j) = some u :=
  World.news_of_block (heap_alloc_new w _)

set_option maxHeartbeats 4000000 in
theorem row_any {n : Nat} (hA : AltC n) (hn : s.size - i < n + 1) (p : PS w b s (i : Int) 0 0 (st.length : Int) v l) (hg : GN (l.map (·.1)) ns) (hi : i ≤ s.size) (hs : s.size ≤ 1024) (hst : st.length ≤ 64) (hl : l.length ≤ 2 * i) :
    Calls Tryd.prog 55 #[.pointer (some ⟨b, 0, none⟩)] w fun e w' => RowR w b s v l i ns st aa e w' := by
  obtain ⟨i0, hi0, hz0, hz1, hz2⟩ := info_parts int_info
  have HBL := hidd (bs_len s)
  have hst0 : RoR w b s v l i ns st aa (.slice none 0 0) w := ⟨[], i, ns, v, l, loc_nil _ _ _ _ _, rfl, Nat.le_refl _, hi, by simp, .inl rfl, p, hg, Goes.refl _ _ _ _, Nat.le_refl _⟩
  have HS0 := hidd hst0
  clear hst0 p hg hi
  go_enter Tryd.func55, Tryd.ntmps55
  go_wp2
  go_loopw [4] (fun s4 wr => RoR w b s v l i ns st aa s4 wr) (fun _ wr => s.size - atOf wr b)
  case atStart => exact HS0.out
  case round =>
    clear HS0
    obtain ⟨xs, j, ns', v', l', L1, hrun, hij, hj, hxj, hnr, p1, hgn, g1, hlen⟩ := hrel
    have HRUN := hidd hrun
    have HG := hidd hgn
    have HNR := hidd hnr
    have hao : Hid (atOf wr b = j) := p1.pr.atOf
    clear hrun hgn hnr
    rcases Nat.lt_or_ge j s.size with hlt | hge
    · go_wp2_with fail
      refine (ended_no p1.pr hlt).mono ?_
      rintro e w2 ⟨rfl, m2, rfl⟩
      have R2 := p1.pr.drewN m2
      have T2 := (Touch.refl b b wr).drewN m2
      generalize wr.drewN m2 = w2 at *
      by_cases hstop : at_ (bs s) j = 124 ∨ at_ (bs s) j = 41
      · go_wp2_with fail
        refine (sees_val R2 hlt { data := #[124, 41] } true (by rcases hstop with h | h <;> rw [h] <;> rfl)).mono ?_
        rintro e w3 ⟨rfl, R3, T3⟩
        have p3 := p1.read (T2.trans T3) R3
        have g3 := g1.read (T2.trans T3)
        have L3 := L1.read (T2.trans T3)
        have HEND : Hid (j < s.size → at_ (bs s) j = 124 ∨ at_ (bs s) j = 41) := fun _ => hstop
        clear R2 T2 R3 T3 hstop L1 g1 p1 hao HNR
        have hnl := gn_len HG.out
        rcases Nat.lt_or_ge xs.length 1 with hx | hx
        · have hxe : xs = [] := List.eq_nil_of_length_eq_zero (by omega)
          subst hxe
          obtain ⟨A, c, rfl⟩ := own_form L3.own
          have ha := Ad.add_any p3 emptyG none 0 (fun h => absurd rfl h) (by omega)
          rw [empty_lit] at ha
          clear L3
          go_wp2_with fail
          refine ha.mono ?_
          rintro e w6 ⟨rfl, v6, p6, f6⟩
          have g6 := g3.add f6 (x := (emptyG, none, 0)) (fun y hy _ => by cases hy)
          have HP := hidd p6
          clear ha p6 f6
          go_wp2
          go_ret2
          refine .inl ⟨l'.length, j, ns', [], ns' ++ [ndEmpty], v6, _, rfl, HRUN.out, by rw [← hnl]; rfl, hij, hj, HEND.out, HP.out, gn_map HG.out gn_empty, g6, by rw [List.length_append, List.length_singleton]; omega⟩
        · rcases Nat.lt_or_ge xs.length 2 with hx2 | hx2
          · obtain ⟨k, hxe⟩ : ∃ k, xs = [k] := by
              match xs, hx, hx2 with
              | [k], _, _ => exact ⟨k, rfl⟩
            subst hxe
            have hjo := join_one L3 3 k rfl
            obtain ⟨A, c, rfl⟩ := own_form L3.own
            clear L3
            go_wp2_with fail
            refine hjo.mono ?_
            rintro e w6 ⟨rfl, rfl⟩
            clear hjo
            go_wp2
            go_ret2
            exact .inl ⟨k, j, ns', [k], ns', v', l', rfl, HRUN.out, rfl, hij, hj, HEND.out, p3, HG.out, g3, by omega⟩
          · have hjo := join_more p3 L3 (by omega) 3 hx2 (by omega)
            have hlf : ((xs.length : Int) == 0) = false := beq_eq_false_iff_ne.2 (by omega)
            obtain ⟨A, c, rfl⟩ := own_form L3.own
            have HMK := hidd (mkRow_many (ns := ns') hx2)
            clear L3
            generalize hxl : xs.length = xl at *
            go_wp2_with fail
            refine hjo.mono ?_
            rintro e w6 ⟨rfl, v6, x6, p6, hx6, hb6, f6⟩
            have g6 := g3.add f6 hb6
            have HP := hidd p6
            have HX := hidd hx6
            clear hjo p6 f6 hx6
            go_wp2
            go_ret2
            refine .inl ⟨l'.length, j, ns', xs, ns' ++ [ndCat xs], v6, _, rfl, HRUN.out, by rw [HMK.out, hnl], hij, hj, HEND.out, HP.out, gn_map HG.out (by rw [HX.out]; exact gn_cat xs), g6, by rw [List.length_append, List.length_singleton]; omega⟩
      · have h124 : at_ (bs s) j ≠ 124 := fun e => hstop (.inl e)
        have h41 : at_ (bs s) j ≠ 41 := fun e => hstop (.inr e)
        go_wp2_with fail
        refine (sees_val R2 hlt { data := #[124, 41] } false (by show ([124, 41] : List Nat).contains _ = false; simp [h124, h41])).mono ?_
        rintro e w3 ⟨rfl, R3, T3⟩
        have p3 := p1.read (T2.trans T3) R3
        have g3 := g1.read (T2.trans T3)
        have L3 := L1.read (T2.trans T3)
        clear R2 T2 R3 T3 hstop L1 g1 p1
        go_wp2_with fail
        refine (item_any (aa := aa) (I := xs) hA (by omega) p3 HG.out hlt hs hst (by omega) h124 h41 HNR.out).mono ?_
        rintro e w4 hr
        clear h124 h41 HNR
        rcases hr with ⟨k, j4, ns4, v4, l4, rfl, hrun4, hij4, hj4, p4, hgn4, g4, hlen4, hrep4⟩ | ⟨k, x, pp, j4, v4, d4, rfl, hr, R4, f4⟩
        · have HRUN4 := hidd hrun4
          have HG4 := hidd hgn4
          have HREP := hidd hrep4
          have L4 := L3.goes g4
          have g14 := g3.trans g4
          clear hrun4 hgn4 hrep4 L3 g3 g4 p3
          have p5 := p4.alloc (.cells #[.int .i64 (k : Int)] 3)
          have L5 := L4.read ((Touch.refl b b w4).alloc (.cells #[.int .i64 (k : Int)] 3))
          have g5 := g14.read ((Touch.refl b b w4).alloc (.cells #[.int .i64 (k : Int)] 3))
          have hnews := int_news w4 (k : Int)
          have hz5 : (w4.alloc (.cells #[.int .i64 (k : Int)] 3)).heap.size = w4.heap.size + 1 := World.size_alloc ..
          have hown := L5.own
          have hw5 : w.heap.size ≤ w4.heap.size + 1 := by have := g14.fr.size; omega
          clear p4 L4 g14
          go_wp2_with (at_builtin; refine wpList_append_lies _ rfl _ _ _ rfl 0 3 i0 (.int .i64 0) 1 8 Tryd.underlying25 hi0 hz0 hz1 hz2 rfl (by omega) _ xs.length (i64s xs) rfl hown ⟨w4.heap.size, 0, none⟩ 1 1 [.int .i64 (k : Int)] rfl rfl hnews (by simp [Value.oneCell']) (by omega) (by simp only [maxLen]; omega) (by omega) (Nat.zero_le _) (w4.heap.size + 1) hz5 ?_; intro g cap w6 hown6 hgrow hat hlt6; refine Hid.out ?_)
          have p6 := p5.grown L5 hgrow
          have g6 := g5.grown L5 hgrow
          have L6 := L5.push p5 hz5 hw5 hown6 hat
          clear hown6 hgrow hat hlt6 p5 L5 g5 hnews hz5 hown hw5
          have HP := hidd p6
          have HL := hidd L6
          have HGo := hidd g6
          clear p6 L6 g6
          refine Lib.hid ?_
          go_wp2
          refine ⟨⟨xs ++ [k], j4, ns4, v4, l4, HL.out, HRUN.out.trans HRUN4.out, by omega, hj4, by rw [List.length_append, List.length_singleton]; omega, .inr HREP.out, HP.out, HG4.out, HGo.out, by omega⟩, ?_⟩
          rw [HP.out.pr.atOf, hao.out]
          omega
        · have HR := hidd hr
          clear hr
          go_wp2
          go_ret2
          exact .inr ⟨_, x, pp, j4, v4, d4, rfl, by rw [HRUN.out, HR.out], R4, g3.fr.trans f4⟩
    · have hje : j = s.size := by omega
      go_wp2_with fail
      refine (ended_yes p1.pr hje).mono ?_
      rintro e w2 ⟨rfl, m2, rfl⟩
      have T2 := (Touch.refl b b wr).drewN m2
      have p3 := p1.read T2 (p1.pr.drewN m2)
      have g3 := g1.read T2
      have L3 := L1.read T2
      have HEND : Hid (j < s.size → at_ (bs s) j = 124 ∨ at_ (bs s) j = 41) := fun h => by omega
      clear hje hge p1 g1 L1 T2 hao HNR
      generalize wr.drewN m2 = w2 at *
      have hnl := gn_len HG.out
      rcases Nat.lt_or_ge xs.length 1 with hx | hx
      · have hxe : xs = [] := List.eq_nil_of_length_eq_zero (by omega)
        subst hxe
        obtain ⟨A, c, rfl⟩ := own_form L3.own
        have ha := Ad.add_any p3 emptyG none 0 (fun h => absurd rfl h) (by omega)
        rw [empty_lit] at ha
        clear L3
        go_wp2_with fail
        refine ha.mono ?_
        rintro e w6 ⟨rfl, v6, p6, f6⟩
        have g6 := g3.add f6 (x := (emptyG, none, 0)) (fun y hy _ => by cases hy)
        have HP := hidd p6
        clear ha p6 f6
        go_wp2
        go_ret2
        refine .inl ⟨l'.length, j, ns', [], ns' ++ [ndEmpty], v6, _, rfl, HRUN.out, by rw [← hnl]; rfl, hij, hj, HEND.out, HP.out, gn_map HG.out gn_empty, g6, by rw [List.length_append, List.length_singleton]; omega⟩
      · rcases Nat.lt_or_ge xs.length 2 with hx2 | hx2
        · obtain ⟨k, hxe⟩ : ∃ k, xs = [k] := by
            match xs, hx, hx2 with
            | [k], _, _ => exact ⟨k, rfl⟩
          subst hxe
          have hjo := join_one L3 3 k rfl
          obtain ⟨A, c, rfl⟩ := own_form L3.own
          clear L3
          go_wp2_with fail
          refine hjo.mono ?_
          rintro e w6 ⟨rfl, rfl⟩
          clear hjo
          go_wp2
          go_ret2
          exact .inl ⟨k, j, ns', [k], ns', v', l', rfl, HRUN.out, rfl, hij, hj, HEND.out, p3, HG.out, g3, by omega⟩
        · have hjo := join_more p3 L3 (by omega) 3 hx2 (by omega)
          have hlf : ((xs.length : Int) == 0) = false := beq_eq_false_iff_ne.2 (by omega)
          obtain ⟨A, c, rfl⟩ := own_form L3.own
          have HMK := hidd (mkRow_many (ns := ns') hx2)
          clear L3
          generalize hxl : xs.length = xl at *
          go_wp2_with fail
          refine hjo.mono ?_
          rintro e w6 ⟨rfl, v6, x6, p6, hx6, hb6, f6⟩
          have g6 := g3.add f6 hb6
          have HP := hidd p6
          have HX := hidd hx6
          clear hjo p6 f6 hx6
          go_wp2
          go_ret2
          refine .inl ⟨l'.length, j, ns', xs, ns' ++ [ndCat xs], v6, _, rfl, HRUN.out, by rw [HMK.out, hnl], hij, hj, HEND.out, HP.out, gn_map HG.out (by rw [HX.out]; exact gn_cat xs), g6, by rw [List.length_append, List.length_singleton]; omega⟩
end

end Go.Proofs.YtghjkbjpdjlddaaDoor.Sy

/- The landed parser: an alternative. -/
namespace Go.Proofs.YtghjkbjpdjlddaaDoor.Sy
open Go.RowKit
set_option maxRecDepth 100000
set_option linter.unusedVariables false

section
variable {w w' w1 : World} {b : Nat} {s : ByteArray} {v v1 : Value} {l l1 : List NR} {i : Nat} {ns : List Nd} {st : List (List Nat × List Nat)} {aa I : List Nat}
def one_if (xs : List Nat) : Nat := if xs = [] then 0 else 1
/-- Reading an alternative while it goes on. -/
def AlR (w : World) (b : Nat) (s : ByteArray) (v : Value) (l : List NR) (i : Nat) (ns : List Nd) (st : List (List Nat × List Nat)) (s4 : Value) (wr : World) : Prop :=
  ∃ (xs : List Nat) (j : Nat) (ns' : List Nd) (v' : Value) (l' : List NR), Loc w wr b v' l' s4 xs ∧ run (bs s) ⟨i, ns, st, [], []⟩ = run (bs s) ⟨j, ns', st, xs, []⟩ ∧ i ≤ j ∧ j ≤ s.size ∧ xs.length + i ≤ j ∧
    PS wr b s (j : Int) 0 0 (st.length : Int) v' l' ∧ GN (l'.map (·.1)) ns' ∧ Goes b v l v' l' w wr ∧ l'.length + 2 * i + one_if xs ≤ l.length + 2 * j
set_option maxHeartbeats 4000000 in
theorem alt_step {n : Nat} (hA : AltC n) : AltC (n + 1) := by
  intro w b s v l i ns st hn p hg hi hs hst hl
  obtain ⟨i0, hi0, hz0, hz1, hz2⟩ := info_parts int_info
  have HBL := hidd (bs_len s)
  have hst0 : AlR w b s v l i ns st (.slice none 0 0) w := ⟨[], i, ns, v, l, loc_nil _ _ _ _ _, rfl, Nat.le_refl _, hi, by simp, p, hg, Goes.refl _ _ _ _, Nat.le_refl _⟩
  have HS0 := hidd hst0
  clear hst0 p hg hi
  go_enter Tryd.func36, Tryd.ntmps36
  go_wp2
  go_loopw [4] (fun s4 wr => AlR w b s v l i ns st s4 wr) (fun _ wr => s.size + 1 - atOf wr b)
  case atStart => exact HS0.out
  case round =>
    clear HS0
    obtain ⟨xs, j, ns', v', l', L1, hrun, hij, hj, hxj, p1, hgn, g1, hlen⟩ := hrel
    have HRUN := hidd hrun
    have hao : Hid (atOf wr b = j) := p1.pr.atOf
    clear hrun
    have hl1 : l'.length ≤ 2 * j := by omega
    go_wp2_with fail
    refine (row_any (aa := xs) hA (by omega) p1 hgn hj hs hst hl1).mono ?_
    rintro e w4 hr
    clear hgn hl1
    rcases hr with ⟨k, j4, ns1, I1, ns4, v4, l4, rfl, hrun4, hmk, hij4, hj4, hend, p4, hgn4, g4, hlen4⟩ | ⟨k, x, pp, j4, v4, d4, rfl, hr, R4, f4⟩
    · have HRUN4 := hidd hrun4
      have HMK := hidd hmk
      have HG4 := hidd hgn4
      have HEND := hidd hend
      have L4 := L1.goes g4
      have g14 := g1.trans g4
      clear hrun4 hgn4 hmk hend L1 g1 g4 p1
      have p5 := p4.alloc (.cells #[.int .i64 (k : Int)] 3)
      have L5 := L4.read ((Touch.refl b b w4).alloc (.cells #[.int .i64 (k : Int)] 3))
      have g5 := g14.read ((Touch.refl b b w4).alloc (.cells #[.int .i64 (k : Int)] 3))
      have hnews := int_news w4 (k : Int)
      have hz5 : (w4.alloc (.cells #[.int .i64 (k : Int)] 3)).heap.size = w4.heap.size + 1 := World.size_alloc ..
      have hown := L5.own
      have hw5 : w.heap.size ≤ w4.heap.size + 1 := by have := g14.fr.size; omega
      clear p4 L4 g14
      go_wp2_with (at_builtin; refine wpList_append_lies _ rfl _ _ _ rfl 0 3 i0 (.int .i64 0) 1 8 Tryd.underlying25 hi0 hz0 hz1 hz2 rfl (by omega) _ xs.length (i64s xs) rfl hown ⟨w4.heap.size, 0, none⟩ 1 1 [.int .i64 (k : Int)] rfl rfl hnews (by simp [Value.oneCell']) (by omega) (by simp only [maxLen]; omega) (by omega) (Nat.zero_le _) (w4.heap.size + 1) hz5 ?_; intro g cap w6 hown6 hgrow hat hlt6; refine Hid.out ?_)
      have p6 := p5.grown L5 hgrow
      have g6 := g5.grown L5 hgrow
      have L6 := L5.push p5 hz5 hw5 hown6 hat
      clear hown6 hgrow hat hlt6 p5 L5 g5 hnews hz5 hown hw5
      refine Lib.hid ?_
      go_wp2_with fail
      refine (takes_any (c := 124) p6.pr hj4 (by omega)).mono ?_
      rintro e w7 ⟨rfl, R7, T7⟩
      have L7 := L6.read T7
      have g7 := g6.read T7
      cases hb : is (bs s) j4 124 with
      | true =>
        rw [hb] at R7
        have p7 := p6.read T7 R7
        obtain ⟨hb1, hb2⟩ := is_lt hb
        have HBAR : Hid (run (bs s) ⟨j4, ns1, st, xs, I1⟩ = run (bs s) ⟨j4 + 1, (mkRow ns1 I1).1, st, xs ++ [(mkRow ns1 I1).2], []⟩) := run_bar hb1 hb2
        rw [HBL.out] at hb1
        have HP := hidd p7
        have HL := hidd L7
        have HGo := hidd g7
        clear p6 L6 g6 R7 T7 p7 L7 g7 hb hb2
        go_wp2
        refine ⟨⟨xs ++ [k], j4 + 1, ns4, v4, l4, HL.out, ?_, by omega, hb1, by rw [List.length_append, List.length_singleton]; omega, HP.out, HG4.out, HGo.out, ?_⟩, ?_⟩
        · rw [HRUN.out, HRUN4.out, HBAR.out, HMK.out]
        · have : one_if (xs ++ [k]) = 1 := by unfold one_if; rw [if_neg (by simp)]
          omega
        · have e7 : atOf w7 b = j4 + 1 := HP.out.pr.atOf
          rw [e7, hao.out]
          omega
      | false =>
        rw [hb] at R7
        have p7 := p6.read T7 R7
        have hend : j4 < s.size → at_ (bs s) j4 = 41 := fun h => by
          rcases HEND.out h with h2 | h2
          · rw [is_of (by rw [HBL.out]; exact h), h2] at hb
            cases hb
          · exact h2
        have HE := hidd hend
        clear p6 L6 g6 R7 T7 hb hend HEND hao
        have hnl := gn_len HG4.out
        have hcl : close ns1 xs I1 = mkAlt ns4 (xs ++ [k]) := by unfold close; rw [HMK.out]
        have HCL := hidd hcl
        clear hcl
        by_cases hx : xs = []
        · subst hx
          have hjo := join_one L7 4 k rfl
          clear L7
          go_wp2_with fail
          refine hjo.mono ?_
          rintro e w8 ⟨rfl, rfl⟩
          clear hjo
          go_wp2
          go_ret2
          refine .inl ⟨k, j4, ns1, [], I1, ns4, v4, l4, rfl, by rw [HRUN.out, HRUN4.out], by rw [HCL.out]; rfl, by omega, hj4, HE.out, p7, HG4.out, g7, ?_⟩
          unfold one_if at hlen
          simp at hlen
          omega
        · have hx2 : 2 ≤ (xs ++ [k]).length := by
            rw [List.length_append, List.length_singleton]
            have : xs.length ≠ 0 := fun e => hx (List.eq_nil_of_length_eq_zero e)
            omega
          have hone : one_if xs = 1 := by unfold one_if; rw [if_neg hx]
          have hjo := join_more p7 L7 (by omega) 4 hx2 (by rw [List.length_append, List.length_singleton]; omega)
          have HMA := hidd (mkAlt_lots (ns := ns4) hx2)
          clear L7 hx hx2
          go_wp2_with fail
          refine hjo.mono ?_
          rintro e w8 ⟨rfl, v8, x8, p8, hx8, hb8, f8⟩
          have g8 := g7.add f8 hb8
          have HP := hidd p8
          have HX := hidd hx8
          clear hjo p8 f8 hx8
          go_wp2
          go_ret2
          exact .inl ⟨l4.length, j4, ns1, xs, I1, ns4 ++ [ndAlt (xs ++ [k])], v8, _, rfl, by rw [HRUN.out, HRUN4.out], by rw [HCL.out, HMA.out, hnl], by omega, hj4, HE.out, HP.out, gn_map HG4.out (by rw [HX.out]; exact gn_alt (xs ++ [k])), g8, by rw [List.length_append, List.length_singleton]; omega⟩
    · have HR := hidd hr
      clear hr
      go_wp2
      go_ret2
      exact .inr ⟨_, x, pp, j4, v4, d4, rfl, by rw [HRUN.out, HR.out], R4, g1.fr.trans f4⟩
theorem altC : ∀ n, AltC n
  | 0 => fun w b s v l i ns st hn => by omega
  | n + 1 => alt_step (altC n)
end

end Go.Proofs.YtghjkbjpdjlddaaDoor.Sy

/- The landed Parse keeps what it owes. -/
namespace Go.Proofs.YtghjkbjpdjlddaaDoor.Sy
open Go.RowKit
set_option maxRecDepth 100000
set_option linter.unusedVariables false

section
variable {w w' w1 : World} {b : Nat} {s : ByteArray} {v v1 : Value} {l l1 : List NR}
set_option maxHeartbeats 1000000 in
theorem whole_any (p : PS w b s 0 0 0 0 v []) (hs : s.size ≤ 1024) :
    Calls Tryd.prog 18 #[.pointer (some ⟨b, 0, none⟩)] w fun e w' =>
      (∃ (ns' : List Nd) (v' : Value) (l' : List NR), e = .returned (.bool true) ∧ run (bs s) start = .ok ns' ∧ PS w' b s (s.size : Int) 0 0 0 v' l' ∧ GN (l'.map (·.1)) ns' ∧ Fr b v v' w w' ∧ l'.length ≤ 2 * s.size + 1) ∨
      (∃ (x pp j : Nat) (v' : Value) (d' : Int), e = .returned (.bool false) ∧ run (bs s) start = .error (x, pp) ∧ PR w' b s (j : Int) (x : Int) (pp : Int) v' d' ∧ Fr b v v' w w') := by
  have hbl := bs_len s
  go_enter Tryd.func18, Tryd.ntmps18
  go_wp2_with fail
  refine (altC (s.size + 1) w b s v [] 0 [] [] (by omega) p ⟨rfl, fun i hi => absurd hi (Nat.not_lt_zero _)⟩ (Nat.zero_le _) hs (by simp) (by simp)).mono ?_
  rintro e w1 hr
  rcases hr with ⟨k, j, ns1, a1, I1, ns', v', l', rfl, hrun, hcl, hij, hj, hend, p1, hgn, g1, hlen⟩ | ⟨k, x, pp, j, v', d', rfl, hr, R1, f1⟩
  · have HG := hidd hgn
    have HRUN := hidd hrun
    have HCL := hidd hcl
    clear hgn hrun hcl
    rcases Nat.lt_or_ge j s.size with hlt | hge
    · have HOV : Hid (run (bs s) ⟨j, ns1, [], a1, I1⟩ = .error (41, j)) := run_over (by rw [hbl]; exact hlt) (hend hlt)
      clear hend hbl
      go_wp2_with fail
      refine (ended_no p1.pr hlt).mono ?_
      rintro e w2 ⟨rfl, m2, rfl⟩
      have R2 := p1.pr.drewN m2
      have f2 := g1.fr.trans (Fr.of ((Touch.refl b b w1).drewN m2) v')
      clear p1 g1
      generalize w1.drewN m2 = w2 at *
      obtain ⟨c0, c1, c2, c3, c4, c5⟩ := R2.cells
      go_wp2_with fail
      refine wp_region_still_tail 8 (by kernel_rfl) (by kernel_rfl) ?_
      simp only [List.take_succ_cons, List.take_zero, List.drop_succ_cons, List.drop_zero]
      repeat still_step
      refine wpStill_nil ?_
      change wpList _ _ _ _ _ (World.drew _)
      go_wp2_with fail
      refine (fail_any R2.drew 41 _).mono ?_
      rintro e w9 ⟨rfl, R9, T9⟩
      have f := f2.trans ((Fr.of (Touch.refl b b w2).drew v').trans (Fr.of T9 v'))
      clear T9 c0 c1 c2 c3 c4 c5 f2
      go_wp2
      go_ret
      exact .inr ⟨41, j, j, v', _, rfl, by unfold start; rw [HRUN.out, HOV.out], R9, f⟩
    · have hje : j = s.size := by omega
      have HDO : Hid (run (bs s) ⟨j, ns1, [], a1, I1⟩ = .ok ns') := by show _ = _; rw [run_done (by rw [hbl]; exact hje), HCL.out]
      clear hend hbl hge
      go_wp2_with fail
      refine (ended_yes p1.pr hje).mono ?_
      rintro e w2 ⟨rfl, m2, rfl⟩
      subst hje
      have T2 := (Touch.refl b b w1).drewN m2
      have p2 := p1.read T2 (p1.pr.drewN m2)
      have f2 := (g1.read T2).fr
      have HP := hidd p2
      clear p1 g1 T2 p2
      go_wp2
      go_ret
      exact .inl ⟨ns', v', l', rfl, by unfold start; rw [HRUN.out, HDO.out], HP.out, HG.out, f2, by simp at hlen; omega⟩
  · have HR := hidd hr
    clear hr hbl
    go_wp2
    go_ret
    exact .inr ⟨x, pp, j, v', d', rfl, HR.out, R1, f1⟩

theorem ps_nds {i er pl d : Int} (p : PS w b s i er pl d v l) : ∃ A c, v = .slice A l.length c ∧ Nds w w.heap.size A (l.map (·.1)) := by
  rcases Nat.eq_zero_or_pos l.length with h0 | h0
  · obtain ⟨A, c, hv⟩ := own_form p.own
    refine ⟨A, c, hv, fun hne => absurd ?_ hne⟩
    rw [List.eq_nil_of_length_eq_zero h0]
    rfl
  · obtain ⟨g, c, hv, _, hg⟩ := own_pos p.own h0
    refine ⟨_, c, hv, fun _ => ⟨g, 0, rfl, hg, fun i hi => ?_⟩⟩
    rw [List.length_map] at hi
    have hx : l[i]? = some l[i] := List.getElem?_eq_getElem hi
    have e : (l.map (·.1)).getD i gd0 = l[i].1 := by rw [List.getD_eq_getElem?_getD, List.getElem?_map, hx]; rfl
    rw [e]
    refine ⟨l[i].2.1, l[i].2.2, fun hne => ?_, fun j u hu => ?_⟩
    · obtain ⟨q, off, h1, h2, -, -, h5⟩ := p.kids _ (List.getElem_mem hi) hne
      exact ⟨q, off, h1, h2, h5⟩
    · have hj : j < 9 := by
        rcases Nat.lt_or_ge j 9 with h | h
        · exact h
        · rw [List.getElem?_eq_none (by rw [gdL_len]; exact h)] at hu; cases hu
      have := p.own.cells (g := g) (by rw [hv]; rfl) (i * 9 + j) u (by rw [nodesC_at l i j _ hx hj]; exact hu)
      rw [Nat.zero_add]
      have ha : (⟨g, 0, none⟩ : Addr).add (i * 9 + j) = ⟨g, i * 9 + j, none⟩ := by unfold Addr.add; split <;> simp_all
      rw [ha] at this
      exact this
theorem fr_below {w0 : World} {o : Obj} (f : Fr w0.heap.size (.slice none 0 0) v1 (w0.alloc o) w') : Below w0.heap.size w0 w' := by
  have hz : (w0.alloc o).heap.size = w0.heap.size + 1 := World.size_alloc ..
  have hb : Below w0.heap.size w0 (w0.alloc o) := (Below.refl _ _).alloc (Nat.le_refl _) o
  refine ⟨f.os.trans hb.os, f.tape.trans hb.tape, f.output.trans hb.output, by have := f.size; omega, fun k hk => (f.block k (by omega) (by omega) nofun).trans (hb.block k hk)⟩
theorem parse_run {t : List Nat} (h : t.length ≤ 1024) : parse t = match run t start with | .error e => .error e | .ok ns => if 1024 < ns.length then .error (3, 0) else .ok ns := by
  unfold parse
  rw [if_neg (by omega)]
  cases run t start <;> rfl

set_option maxHeartbeats 1000000 in
theorem parseC : ParseC := by
  intro s w hE hs
  have hbl := bs_len s
  by_cases hlong : 1024 < s.size
  · have HR : Hid (parse (bs s) = .error (3, 0)) := by show _ = _; unfold parse; rw [if_pos (by rw [hbl]; exact hlong)]
    have hi : (1024 : Int) < (s.size : Int) := by omega
    clear hbl
    go_enter Tryd.func8, Tryd.ntmps8
    go_wp2
    go_ret3
    refine ⟨?_, Below.refl _ _⟩
    unfold ParseR
    rw [HR.out]
    exact ⟨none, 0, rfl⟩
  · have hi : ¬ (1024 : Int) < (s.size : Int) := by omega
    have HPR := hidd (parse_run (t := bs s) (by rw [hbl]; omega))
    have p0 : PS (w.alloc (.cells #[.string s, .int .i64 0, .int .i64 0, .int .i64 0, .slice none 0 0, .int .i64 0] 47)) w.heap.size s 0 0 0 0 (.slice none 0 0) [] :=
      ⟨RowA.new w _ _, ⟨rfl, .inl ⟨rfl, rfl⟩⟩, nofun, fun x hx => absurd hx (List.not_mem_nil), hE.below ((Below.refl _ _).alloc (Nat.le_refl _) _), by have := hE.lt; omega, nofun⟩
    clear hE hbl
    go_enter Tryd.func8, Tryd.ntmps8
    go_wp2_with fail
    refine (whole_any p0 (by omega)).mono ?_
    rintro e w1 hr
    clear p0
    rcases hr with ⟨ns', v', l', rfl, hrun, p1, hgn, f1, hlen⟩ | ⟨x, pp, j, v', d', rfl, hrun, R1, f1⟩
    · have hb := fr_below f1
      have hgl := gn_len hgn
      obtain ⟨A, c, hv, hnd⟩ := ps_nds p1
      subst hv
      obtain ⟨c0, c1, c2, c3, c4, c5⟩ := p1.pr.cells
      rw [hrun] at HPR
      have HG := hidd hgn
      have HN := hidd hnd
      have hlm : (l'.map (·.1)).length = l'.length := List.length_map ..
      have HLM := hidd hlm
      clear hrun hgn hnd p1 f1 hlm
      by_cases hmany : 1024 < l'.length
      · have HR : Hid (parse (bs s) = .error (3, 0)) := by show _ = _; rw [HPR.out]; simp only; rw [if_pos (by omega)]
        have hmi : (1024 : Int) < (l'.length : Int) := by omega
        clear hgl
        go_wp2
        go_ret3
        refine ⟨?_, hb⟩
        unfold ParseR
        rw [HR.out]
        exact ⟨none, 0, rfl⟩
      · have HR : Hid (parse (bs s) = .ok ns') := by show _ = _; rw [HPR.out]; simp only; rw [if_neg (by omega)]
        have hmi : ¬ (1024 : Int) < (l'.length : Int) := by omega
        clear hgl
        go_wp2
        go_ret3
        refine ⟨?_, hb⟩
        unfold ParseR
        rw [HR.out]
        exact ⟨A, c, l'.map (·.1), by rw [HLM.out]; rfl, HN.out, HG.out⟩
    · have hb := fr_below f1
      rw [hrun] at HPR
      have HR : Hid (parse (bs s) = .error (x, pp)) := HPR
      obtain ⟨c0, c1, c2, c3, c4, c5⟩ := R1.cells
      clear hrun f1 HPR
      go_wp2
      go_quiet (fail)
      go_wp2
      go_ret3
      refine ⟨?_, bel_drewN hb _⟩
      unfold ParseR
      rw [HR.out]
      exact ⟨none, 0, rfl⟩
end

end Go.Proofs.YtghjkbjpdjlddaaDoor.Sy
