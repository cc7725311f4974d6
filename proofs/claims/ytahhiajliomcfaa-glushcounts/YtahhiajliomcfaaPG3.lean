/- The landed builder: the place of a set; a part that is repeated. -/
import Derived.Test.YtahhiajliomcfaaPG2
import Derived.Test.YtahhiajliomcfaaPAn
namespace Go.Proofs.Ytahhiajliomcfaa.Sy.Gl
open Go.RowKit Go.Proofs.Ytahhiajliomcfaa.Sy.Ap Go.Proofs.Ytahhiajliomcfaa.Sy.Ap.Wk Go.Proofs.Ytahhiajliomcfaa.Sy.Lg Go.Proofs.Ytahhiajliomcfaa.Sy.Pl
set_option maxRecDepth 100000
set_option linter.unusedVariables false

theorem pos_info : (Try.prog.info? 44).map (fun i => (i.zero, i.size, i.bytes)) = some (some (.agg #[.int .u64 0, .int .u64 0, .int .u64 0, .int .u64 0, .int .i64 0, .int .i64 0, .int .i64 0, .bool false, .slice none 0 0]), 9, 88) := by kernel_rfl
theorem part_info : (Try.prog.info? 57).map (fun i => (i.zero, i.size, i.bytes)) = some (some (.agg #[.slice none 0 0, .slice none 0 0, .bool false]), 3, 56) := by kernel_rfl
theorem pt_info (a b c : Value) : (Try.prog.info? 57).map (·.size) = some (#[a, b, c] : Array Value).size := by
  show _ = some 3
  kernel_rfl
/-- A part is returned that lies in a box. -/
theorem ret_part {fn : Func} {R : Ending → World → Prop} {a : Act} {w : World} {t b : Nat} {x y z : Value} (hr : fn.results = #[.cell t 57]) (ht : a.tmps.getD t undef = .pointer (some ⟨b, 0, none⟩))
    (h : RowA w b 57 #[x, y, z]) (hd : a.defers = []) (hR : R (.returned (.agg #[x, y, z])) w) : bodyPost Try.prog fn R .ret a w :=
  bodyPost_ret (v := .agg #[x, y, z]) (results_cell_row hr a.tmps w b 57 #[x, y, z] (0, 0) _ ht h Try.underlying57 rfl (pt_info x y z)) hd hR
theorem pt_ones (A1 A2 : Option Addr) (n1 c1 n2 c2 : Nat) (z : Bool) : (#[.slice A1 n1 c1, .slice A2 n2 c2, .bool z] : Array Value).all (·.oneCell') = true := by simp [Value.oneCell']
abbrev ptA (A1 : Option Addr) (n1 c1 : Nat) (A2 : Option Addr) (n2 c2 : Nat) (z : Bool) : Array Value := #[.slice A1 n1 c1, .slice A2 n2 c2, .bool z]
abbrev ptZ : Array Value := #[.slice none 0 0, .slice none 0 0, .bool false]
theorem ir_one (w : World) (k : Nat) {B : Nat} (hB : B ≤ w.heap.size) : IR (w.alloc (.cells #[.int .i64 (k : Int)] 3)) B (some ⟨w.heap.size, 0, none⟩) 1 [k] :=
  World.ownsRow_lit (base := B) (e := 3) (size := 1) w #[.int .i64 (k : Int)] 1 hB (by simp only [maxLen]; omega) (by simp)
/-! ### A region that appends one element to a row of a struct, a box of any type beside -/
structure ApT (w : World) (B b q : Nat) (tb tr : TypeId) (cr bx : Array Value) (e : TypeId) (sz : Nat) (v : Value) (n : Nat) (xs ys : List Value) (sl : Nat) (a : Act) (u : World) : Prop where
  box : RowA u q tb bx
  row : RowA u b tr cr
  grow : w.grownBy u v.ownBlock
  own : u.ownsRow B e sz v n xs
  app : ∀ z, a.tmps[sl]? = some z → z = undef ∨ AppP w B e sz v n (xs ++ ys) z u
section
variable {w u u' u1 : World} {B b q : Nat} {tb tr : TypeId} {cr bx : Array Value} {e : TypeId} {sz : Nat} {v v' : Value} {n : Nat} {xs ys : List Value} {sl : Nat} {a : Act}
theorem eby {d : Option Nat} (hd : nS sl d = true) (h : Below u.heap.size u u') : EbS sl v d u u' := Ap.eby hd h
theorem ApT.below (h : ApT w B b q tb tr cr bx e sz v n xs ys sl a u) (hb : Below u.heap.size u u') : ApT w B b q tb tr cr bx e sz v n xs ys sl a u' :=
  ⟨h.box.below hb h.box.lt, h.row.below hb h.row.lt, grown_below h.grow hb, own_below h.own hb (Nat.le_refl _), fun z hz => by
    rcases h.app z hz with h1 | ⟨h1, h2⟩
    · exact .inl h1
    · exact .inr ⟨own_below h1 hb (Nat.le_refl _), h2⟩⟩
theorem ApT.put (h : ApT w B b q tb tr cr bx e sz v n xs ys sl a u) {d : Option Nat} (he : nS sl d = true) (z : Value) : ApT w B b q tb tr cr bx e sz v n xs ys sl (a.put d z) u := by
  have e8 : (a.put d z).tmps[sl]? = a.tmps[sl]? := by
    cases d with
    | none => rfl
    | some d => rw [put_tmps, Array.getElem?_setIfInBounds_ne (fun q => by subst q; simp [nS] at he)]
  exact ⟨h.box, h.row, h.grow, h.own, fun y hy => h.app y (e8 ▸ hy)⟩
theorem ApT.app_ (hvb : v.ownBlock ≠ some b) (hvq : v.ownBlock ≠ some q) (hS : ApT w B b q tb tr cr bx e sz v n xs ys sl a u)
    (h1 : u1.ownsRow B e sz v' (n + 1) (xs ++ ys)) (h2 : u1.ownsRow B e sz v n xs) (h3 : u.grownBy u1 v.ownBlock) (h4 : v'.ownBlock = v.ownBlock ∨ v'.ownBlock = some u.heap.size) : ApT w B b q tb tr cr bx e sz v n xs ys sl (a.put (some sl) v') u1 := by
  refine ⟨(h3.block _ hS.box.lt (fun e => hvq e.symm)).trans hS.box, (h3.block _ hS.row.lt (fun e => hvb e.symm)).trans hS.row, grown_trans hS.grow h3, h2, fun z hz => .inr ?_⟩
  rw [put_tmps, Array.getElem?_setIfInBounds] at hz
  simp only [if_true] at hz
  split at hz
  · cases hz
    refine ⟨h1, ?_⟩
    rcases h4 with h4 | h4
    · exact .inl h4
    · exact .inr ⟨_, h4, hS.grow.size⟩
  · cases hz
end
theorem own_setRow {u : World} {base : Nat} {e : TypeId} {sz n b : Nat} {z : Value} {xs : List Value} (h : u.ownsRow base e sz z n xs) (hb : z.ownBlock ≠ some b) (cs : Array Value) : (u.setRow b cs).ownsRow base e sz z n xs := by
  have hs : (u.setRow b cs).heap.size = u.heap.size := by simp [World.setRow]
  obtain ⟨h1, h2⟩ := h
  refine ⟨h1, ?_⟩
  rcases h2 with h2 | ⟨g, cap, cur, hv, hg, hh, r⟩
  · exact .inl h2
  · refine .inr ⟨g, cap, cur, hv, hg, ?_, r⟩
    have hgb : g ≠ b := fun q => hb (by rw [hv, q]; rfl)
    rw [← hh]
    simp [World.setRow, Array.getElem?_modify, Ne.symm hgb]
theorem heap_setRow (u : World) (b : Nat) (cs : Array Value) (k : Nat) (h : k ≠ b) : (u.setRow b cs).heap[k]? = u.heap[k]? := by
  simp [World.setRow, Array.getElem?_modify, Ne.symm h]
theorem keeps_setRow {P : Nat → Prop} {u u' : World} (h : Keeps P u u') (b : Nat) (cs : Array Value) (hp : P b ∨ u.heap.size ≤ b) : Keeps P u (u'.setRow b cs) :=
  ⟨h.os, h.tape, h.output, by simpa [World.setRow] using h.size, fun k hk hn => (heap_setRow u' b cs k (fun e => by rcases hp with q | q; exact hn (e ▸ q); omega)).trans (h.block k hk hn)⟩
/-- A box of another type is written. -/
theorem BS.setRow {B : Nat} {w : World} {bb fb many : Nat} {pv : Value} {l : List Pv} {f : Fol} {b : Nat} {t : TypeId} {cs : Array Value} (h : BS B w bb fb many pv l f) (r : RowA w b t cs) (ht : t ≠ 55 ∧ t ≠ 84 ∧ t ≠ 44 ∧ t ≠ 3) (cs' : Array Value) : BS B (w.setRow b cs') bb fb many pv l f := by
  have n1 : bb ≠ b := fun q => by
    have h1 := h.row
    unfold RowA at h1 r
    rw [q, r] at h1
    injection h1 with h1
    injection h1 with _ h3
    exact ht.1 h3
  have n2 : fb ≠ b := fun q => by
    have h1 := h.fol
    unfold RowF at h1
    unfold RowA at r
    rw [q, r] at h1
    injection h1 with h1
    injection h1 with _ h3
    exact ht.2.1 h3
  exact ⟨(heap_setRow w b cs' bb n1).trans h.row, (heap_setRow w b cs' fb n2).trans h.fol, own_setRow h.places (own_neR h.places r (fun e => ht.2.2.1 e.symm)) cs', fun x hx => own_setRow (h.nexts x hx) (own_neR (h.nexts x hx) r (fun e => ht.2.2.2 e.symm)) cs', h.hb, h.hf, h.few, h.nxt⟩
/-- What a method of the builder tells: a part. -/
def PtR (B β : Nat) (u : World) (bb fb many : Nat) (pv : Value) (ps : List Pn) (f : Fol) (p : Pt) (e : Ending) (u' : World) : Prop :=
  ∃ pv' l' A1 c1 A2 c2, e = .returned (.agg (ptA A1 p.first.length c1 A2 p.last.length c2 p.nul)) ∧ BS B u' bb fb many pv' l' f ∧ l'.map (·.1) = ps ∧ Keeps (Wb bb fb pv) u u' ∧ Lies u pv pv' ∧ PtOk u' β (p, (A1, c1), A2, c2)
set_option linter.unusedVariables false in
def SgGV (w : World) (bb q : Nat) (L : Nat) (A2 : Option Addr) (c2 : Nat) (p : Nat → Bool) (rule : Nat) (t : Nat) : Option Value :=
  match t with
  | 0 => some (.pointer (some ⟨bb, 0, none⟩))
  | 2 => some (.int .i64 (rule : Int))
  | 4 => some (.pointer (some ⟨q, 0, none⟩))
  | 13 => some (.pointer (some ⟨bb, 0, none⟩))
  | 14 => some (.pointer (some ⟨bb, 0, none⟩))
  | 15 => some (.pointer (some ⟨bb, 0, none⟩))
  | 16 => some (.pointer (some ⟨bb, 0, none⟩))
  | 17 => some (.slice A2 L c2)
  | 18 => some (.agg #[.int .u64 (W (p) 0), .int .u64 (W (p) 1), .int .u64 (W (p) 2), .int .u64 (W (p) 3)])
  | 19 => some (.int .i64 (rule : Int))
  | 20 => some (.agg #[.int .u64 (W p 0), .int .u64 (W p 1), .int .u64 (W p 2), .int .u64 (W p 3), .int .i64 1, .int .i64 1, .int .i64 (rule : Int), .bool false, .slice none 0 0])
  | _ => none
set_option linter.unusedVariables false in
def SgGP (w : World) (bb q : Nat) (L : Nat) (A2 : Option Addr) (c2 : Nat) (p : Nat → Bool) (rule : Nat) (t : Nat) : Option (Value → World → Prop) :=
  match t with
  | 21 => some (NewR w (.slice A2 L c2) 44 #[.int .u64 (W p 0), .int .u64 (W p 1), .int .u64 (W p 2), .int .u64 (W p 3), .int .i64 1, .int .i64 1, .int .i64 (rule : Int), .bool false, .slice none 0 0])
  | 22 => some (fun z _ => z ≠ undef)
  | _ => none
def SgG (w : World) (bb q : Nat) (L : Nat) (A2 : Option Addr) (c2 : Nat) (p : Nat → Bool) (rule : Nat) (t : Nat) (v : Value) (u : World) : Prop := (∀ z9, SgGV w bb q L A2 c2 p rule t = some z9 → v = z9) ∧ ∀ R, SgGP w bb q L A2 c2 p rule t = some R → R v u
set_option maxHeartbeats 1000000 in
theorem single_any {B : Nat} {u : World} {bb fb many : Nat} {pv : Value} {l : List Pv} {f : Fol} (hS : BS B u bb fb many pv l f) (p : Nat → Bool) (rule : Nat) (hl : l.length < 512) {β : Nat} (hβ : β ≤ u.heap.size) :
    Calls Try.prog 59 #[.pointer (some ⟨bb, 0, none⟩), .agg #[.int .u64 (W (p) 0), .int .u64 (W (p) 1), .int .u64 (W (p) 2), .int .u64 (W (p) 3)], .int .i64 (rule : Int)] u fun e u' => PtR B β u bb fb many pv (l.map (·.1) ++ [⟨p, 1, 1, rule, false, []⟩]) f ⟨[l.length], [l.length], false⟩ e u' := by
  obtain ⟨i0, hi0, hz0, hz1, hz2⟩ := info_parts pos_info
  obtain ⟨A2, c2, rfl⟩ := own_form hS.places
  obtain ⟨L, hL⟩ : ∃ L, l.length = L := ⟨_, rfl⟩
  have HL := hidd hL
  rw [hL] at hl hS ⊢
  have R1 := RowA.new u 40 #[.int .u64 (W (p) 0), .int .u64 (W (p) 1), .int .u64 (W (p) 2), .int .u64 (W (p) 3)]
  have b1 : Below u.heap.size u (u.alloc (.cells #[.int .u64 (W (p) 0), .int .u64 (W (p) 1), .int .u64 (W (p) 2), .int .u64 (W (p) 3)] 40)) := (Below.refl _ _).alloc (Nat.le_refl _) _
  have hs1 : (u.alloc (.cells #[.int .u64 (W (p) 0), .int .u64 (W (p) 1), .int .u64 (W (p) 2), .int .u64 (W (p) 3)] 40)).heap.size = u.heap.size + 1 := World.size_alloc ..
  have R2 := RowA.new (u.alloc (.cells #[.int .u64 (W (p) 0), .int .u64 (W (p) 1), .int .u64 (W (p) 2), .int .u64 (W (p) 3)] 40)) 57 ptZ
  have b2 : Below u.heap.size u ((u.alloc (.cells #[.int .u64 (W (p) 0), .int .u64 (W (p) 1), .int .u64 (W (p) 2), .int .u64 (W (p) 3)] 40)).alloc (.cells ptZ 57)) := b1.alloc (by rw [hs1]; omega) _
  have R1b := R1.alloc (.cells ptZ 57)
  have S5 := hS.below b2
  rw [hs1] at R2
  obtain ⟨d0, d1⟩ := S5.cells
  have HS := hidd hS
  have HB2 := hidd b2
  clear hS hL b1 hs1 R1 b2
  go_enter Try.func59, Try.ntmps59
  go_upto_region 2 with fail
  generalize (u.alloc (.cells #[.int .u64 (W (p) 0), .int .u64 (W (p) 1), .int .u64 (W (p) 2), .int .u64 (W (p) 3)] 40)).alloc (.cells ptZ 57) = w5 at *
  obtain ⟨q, hq⟩ : ∃ q, u.heap.size = q := ⟨_, rfl⟩
  have HQ := hidd hq
  rw [hq] at R1b R2
  have hBw : B ≤ w5.heap.size := S5.size
  obtain ⟨XS, hXS⟩ : ∃ XS, posC l = XS := ⟨_, rfl⟩
  have hcut : w5.ownsRow B 44 9 (.slice A2 L c2) L XS := by
    have := S5.places
    rw [HL.out, hXS] at this
    exact this
  have HXS := hidd hXS
  rw [hq]
  have hvb : (Value.slice A2 L c2).ownBlock ≠ some bb := own_neR hcut S5.row (by decide)
  have hvq : (Value.slice A2 L c2).ownBlock ≠ some q := own_neR hcut R1b (by decide)
  have hvq2 : (Value.slice A2 L c2).ownBlock ≠ some (q + 1) := own_neR hcut R2 (by decide)
  have hnw : ∀ k, w5.heap.size ≤ k → (Value.slice A2 L c2).ownBlock ≠ some k := fun k hk e => by have := (hcut.lt k e).2; omega
  have HS5 := hidd S5
  have HR2 := hidd R2
  clear hXS hq R2 d0 d1
  refine wp_region_slotsA 10 (by decide) (by kernel_rfl) (by kernel_rfl) (fun _ _ => true) (ApT w5 B bb q 40 55 #[.slice A2 L c2, .slice (some ⟨fb, 0, none⟩) many many] #[.int .u64 (W (p) 0), .int .u64 (W (p) 1), .int .u64 (W (p) 2), .int .u64 (W (p) 3)] 44 9 (.slice A2 L c2) L XS (posL ⟨p, 1, 1, rule, false, []⟩ none 0) 22) (SgG w5 bb q L A2 c2 p rule) (EbS 22 (.slice A2 L c2)) (by kernel_rfl) (by kernel_rfl) (by kernel_rfl) (by kernel_rfl) ?_ ⟨R1b, S5.row, grown_below ⟨rfl, rfl, rfl, Nat.le_refl _, fun _ _ _ => rfl⟩ (bel_drew (Below.refl _ _)), hcut, fun z hz => .inl (Option.some.inj hz).symm⟩ [0, 2, 4] (by kernel_rfl) ?_ ?_ ?_
  · intro t d z u u' _ h hE
    refine ⟨h.1, fun R hR => ?_⟩
    have h2 := h.2 R hR
    unfold SgGP at hR
    split at hR
    · cases hR
      exact NewR.stab h2 hE
    · cases hR
      exact h2
    · cases hR
  · intro a u _
    refine ⟨⟨_, rfl, ?_⟩, ⟨_, rfl, ?_⟩, ⟨_, rfl, ?_⟩, trivial⟩ <;> exact ⟨fun _ h => Option.some.inj h, fun _ h => no_some h⟩
  · refine ⟨?_, ?_, ?_, ?_, ?_, ?_, ?_, ?_, ?_, ?_, trivial⟩
    · intro a u hS hr K hK
      obtain ⟨⟨vl0, e0, g0⟩, -⟩ := hr
      obtain rfl := g0.1 _ rfl
      clear g0
      rw [if_pos (want_none rfl)]
      unfold Oper.wp
      go_simp
      exact hK _ _ ⟨fun _ h => Option.some.inj h, fun _ h => no_some h⟩ (hS.put rfl _) (eby rfl (Below.refl _ _))
    · intro a u hS hr K hK
      obtain ⟨⟨vl0, e0, g0⟩, -⟩ := hr
      obtain rfl := g0.1 _ rfl
      clear g0
      rw [if_pos (want_none rfl)]
      unfold Oper.wp
      go_simp
      exact hK _ _ ⟨fun _ h => Option.some.inj h, fun _ h => no_some h⟩ (hS.put rfl _) (eby rfl (Below.refl _ _))
    · intro a u hS hr K hK
      obtain ⟨⟨vl0, e0, g0⟩, -⟩ := hr
      obtain rfl := g0.1 _ rfl
      clear g0
      rw [if_pos (want_none rfl)]
      unfold Oper.wp
      go_simp
      exact hK _ _ ⟨fun _ h => Option.some.inj h, fun _ h => no_some h⟩ (hS.put rfl _) (eby rfl (Below.refl _ _))
    · intro a u hS hr K hK
      obtain ⟨⟨vl0, e0, g0⟩, -⟩ := hr
      obtain rfl := g0.1 _ rfl
      clear g0
      rw [if_pos (want_none rfl)]
      unfold Oper.wp
      go_simp
      exact hK _ _ ⟨fun _ h => Option.some.inj h, fun _ h => no_some h⟩ (hS.put rfl _) (eby rfl (Below.refl _ _))
    · intro a u hS hr K hK
      obtain ⟨⟨vl0, e0, g0⟩, -⟩ := hr
      obtain rfl := g0.1 _ rfl
      clear g0
      rw [if_pos (want_none rfl)]
      have dN := hS.row.at_ (k := 0) rfl
      unfold Oper.wp
      go_simp
      exact hK _ _ ⟨fun _ h => Option.some.inj h, fun _ h => no_some h⟩ (hS.put rfl _) (eby rfl (Below.refl _ _))
    · intro a u hS hr K hK
      obtain ⟨⟨vl0, e0, g0⟩, -⟩ := hr
      obtain rfl := g0.1 _ rfl
      clear g0
      rw [if_pos (want_none rfl)]
      have z0 := hS.box.at_ (k := 0) rfl
      have z1 := hS.box.at_ (k := 1) rfl
      have z2 := hS.box.at_ (k := 2) rfl
      have z3 := hS.box.at_ (k := 3) rfl
      unfold Oper.wp
      go_simp
      exact hK _ _ ⟨fun _ h => Option.some.inj h, fun _ h => no_some h⟩ (hS.put rfl _) (eby rfl (Below.refl _ _))
    · intro a u hS hr K hK
      obtain ⟨⟨vl0, e0, g0⟩, -⟩ := hr
      obtain rfl := g0.1 _ rfl
      clear g0
      rw [if_pos (want_none rfl)]
      unfold Oper.wp
      go_simp
      exact hK _ _ ⟨fun _ h => Option.some.inj h, fun _ h => no_some h⟩ (hS.put rfl _) (eby rfl (Below.refl _ _))
    · intro a u hS hr K hK
      obtain ⟨⟨vl0, e0, g0⟩, ⟨vl1, e1, g1⟩, -⟩ := hr
      obtain rfl := g0.1 _ rfl
      clear g0
      obtain rfl := g1.1 _ rfl
      clear g1
      rw [if_pos (want_none rfl)]
      unfold Oper.wp
      go_simp
      exact hK _ _ ⟨fun _ h => Option.some.inj h, fun _ h => no_some h⟩ (hS.put rfl _) (eby rfl (Below.refl _ _))
    · intro a u hS hr K hK
      obtain ⟨⟨vl0, e0, g0⟩, -⟩ := hr
      obtain rfl := g0.1 _ rfl
      clear g0
      rw [if_pos (want_none rfl)]
      unfold Oper.wp
      go_simp
      exact hK _ _ ⟨fun _ h => no_some h, fun _ h => spec_ok h (⟨_, rfl, hnw _ hS.grow.size, hS.grow.size, RowA.new _ _ _⟩)⟩ ((hS.below ((Below.refl _ _).alloc (Nat.le_refl _) _)).put rfl _) (eby rfl ((Below.refl _ _).alloc (Nat.le_refl _) _))
    · intro a u hS hr K hK
      obtain ⟨⟨vl0, e0, g0⟩, ⟨vl1, e1, g1⟩, -⟩ := hr
      obtain rfl := g0.1 _ rfl
      clear g0
      replace g1 := g1.2 _ rfl
      rw [if_pos (want_none rfl)]
      obtain ⟨g, rfl, hgv, hg, Rg⟩ := g1
      refine wp_append_both u (.tmp 17) (.tmp 21) 24 rfl B 44 i0 _ 9 88 Try.underlying24 hi0 hz0 hz1 hz2 rfl (by omega) (.slice A2 L c2) L XS (eval_at e0) hS.own ⟨g, 0, none⟩ 1 1 (posL ⟨p, 1, 1, rule, false, []⟩ none 0) (eval_at e1) rfl (World.news_of_block Rg) (by simp [posL, Value.oneCell']) (by simp only [maxLen]; omega) (by omega) (Nat.le_trans hBw hS.grow.size) ?_
      intro v' u1 h1 h2 h3 h4
      exact hK _ _ ⟨fun _ h => no_some h, fun _ h => spec_ok h (own_not h1)⟩ (hS.app_ hvb hvq h1 h2 h3 h4) (ebw rfl h3)
  intro a u6 hS6 hts hd hkn hf
  obtain ⟨v13, e13, g13⟩ := hf 0 _ 13 (by decide) rfl rfl (fun _ => rfl)
  obtain ⟨v14, e14, g14⟩ := hf 1 _ 14 (by decide) rfl rfl (fun _ => rfl)
  obtain ⟨v15, e15, g15⟩ := hf 2 _ 15 (by decide) rfl rfl (fun _ => rfl)
  obtain ⟨v16, e16, g16⟩ := hf 3 _ 16 (by decide) rfl rfl (fun _ => rfl)
  obtain ⟨v17, e17, g17⟩ := hf 4 _ 17 (by decide) rfl rfl (fun _ => rfl)
  obtain ⟨v18, e18, g18⟩ := hf 5 _ 18 (by decide) rfl rfl (fun _ => rfl)
  obtain ⟨v19, e19, g19⟩ := hf 6 _ 19 (by decide) rfl rfl (fun _ => rfl)
  obtain ⟨v20, e20, g20⟩ := hf 7 _ 20 (by decide) rfl rfl (fun _ => rfl)
  obtain ⟨v21, e21, g21⟩ := hf 8 _ 21 (by decide) rfl rfl (fun _ => rfl)
  obtain ⟨v22, e22, g22⟩ := hf 9 _ 22 (by decide) rfl rfl (fun _ => rfl)
  obtain ⟨v23, e23⟩ : ∃ z, a.tmps[23]? = some z := ⟨_, Array.getElem?_eq_getElem (by rw [hts]; simp)⟩
  obtain ⟨v24, e24⟩ : ∃ z, a.tmps[24]? = some z := ⟨_, Array.getElem?_eq_getElem (by rw [hts]; simp)⟩
  have hA := act_puts [(13, v13), (14, v14), (15, v15), (16, v16), (17, v17), (18, v18), (19, v19), (20, v20), (21, v21), (22, v22), (23, v23), (24, v24)] hts hd hkn (by kernel_rfl) (by simp [e13, e14, e15, e16, e17, e18, e19, e20, e21, e22, e23, e24])
  have hown := (hS6.app v22 e22).resolve_left (g22.2 _ rfl)
  have hgrow := hS6.grow
  have R := hS6.row
  clear hS6
  clear hf hts hd hkn e13 e14 e15 e16 e17 e18 e19 e20 e21 e22 e23 e24
  obtain rfl := g13.1 _ rfl
  clear g13
  obtain rfl := g14.1 _ rfl
  clear g14
  obtain rfl := g15.1 _ rfl
  clear g15
  obtain rfl := g16.1 _ rfl
  clear g16
  obtain rfl := g17.1 _ rfl
  clear g17
  obtain rfl := g18.1 _ rfl
  clear g18
  obtain rfl := g19.1 _ rfl
  clear g19
  obtain rfl := g20.1 _ rfl
  clear g20
  replace g21 := g21.2 _ rfl
  replace g22 := g22.2 _ rfl
  subst hA
  simp only [List.foldl, List.setIfInBounds_toArray, List.set_cons_zero, List.set_cons_succ]
  simp only [List.drop_succ_cons, List.drop_zero]
  clear g21 g22 R1b hcut S5
  obtain ⟨hown, hat⟩ := hown
  obtain ⟨A6, c6, rfl⟩ := own_form hown
  have ht := R.thawed
  have dN := R.at_ (k := 0) rfl
  have R2 : RowA u6 (q + 1) 57 ptZ := (hgrow.block (q + 1) HR2.out.lt (fun e => hvq2 e.symm)).trans HR2.out
  have hL1 : L + 1 ≤ 512 := by omega
  have hqb : bb < q := by have := HS.out.row.lt; have := HQ.out; omega
  have R7 : RowA (u6.setCell ⟨bb, 0, none⟩ (.slice A6 (L + 1) c6)) bb 55 #[.slice A6 (L + 1) c6, .slice (some ⟨fb, 0, none⟩) many many] := R.set 0 _
  have O7 : (u6.setCell ⟨bb, 0, none⟩ (.slice A6 (L + 1) c6)).ownsRow B 44 9 (.slice A6 (L + 1) c6) (L + 1) (XS ++ posL ⟨p, 1, 1, rule, false, []⟩ none 0) := own_sb hown (own_neR hown R (by decide)) _
  have F6 : RowF u6 fb 84 (many * 512) (folV f) := HS5.out.fol.grown hgrow (fun e => own_neF HS5.out.places HS5.out.fol (by decide) (by rw [ob_eq A2 _ c2 L c2]; exact e.symm))
  have N6 : ∀ x ∈ l, IR u6 B x.2.1 x.2.2 x.1.next := fun x hx => own_kept (HS5.out.nexts x hx) hgrow (fun k hk e => own_apart (HS5.out.nexts x hx) HS5.out.places (by decide) k e (by rw [ob_eq A2 _ c2 L c2]; exact hk))
  have R27 : RowA (u6.setCell ⟨bb, 0, none⟩ (.slice A6 (L + 1) c6)) (q + 1) 57 ptZ := R2.far (a := ⟨bb, 0, none⟩) (fun e => by have e2 : q + 1 = bb := e; omega) _
  have S7 : BS B (u6.setCell ⟨bb, 0, none⟩ (.slice A6 (L + 1) c6)) bb fb many (.slice A6 (L + 1) c6) (l ++ [(⟨p, 1, 1, rule, false, []⟩, none, 0)]) f := by
    refine ⟨R7, F6.far (a := ⟨bb, 0, none⟩) (fun e => HS5.out.ne e.symm) _, ?_, fun x hx => ?_, HS5.out.hb, HS5.out.hf, HS5.out.few, fun x hx hn => ?_⟩
    · have e : (l ++ [((⟨p, 1, 1, rule, false, []⟩ : Pn), (none : Option Addr), 0)]).length = L + 1 := by rw [List.length_append, HL.out, List.length_singleton]
      rw [e, ← posC_snoc, HXS.out]
      exact O7
    · rcases List.mem_append.1 hx with h | h
      · exact own_sb (N6 x h) (own_neR (N6 x h) R (by decide)) _
      · rw [List.mem_singleton] at h
        subst h
        exact World.ownsRow_nil _ _ _ _
    · rcases List.mem_append.1 hx with h | h
      · exact HS5.out.nxt x h hn
      · rw [List.mem_singleton] at h
        subst h
        rfl
  have K7 : Keeps (Wb bb fb (.slice A2 L c2)) u (u6.setCell ⟨bb, 0, none⟩ (.slice A6 (L + 1) c6)) := keeps_set (keeps_grown (Keeps.of_below HB2.out) hgrow (fun k hk => .inl (.inr (.inr hk)))) _ _ (.inl (.inl rfl))
  have LI : Lies u (.slice A2 L c2) (.slice A6 (L + 1) c6) := by
    rcases hat with h | ⟨k, h, h2⟩
    · exact .inl h
    · exact .inr ⟨k, h, Nat.le_trans HB2.out.size h2⟩
  have HS7 := hidd S7
  have HK7 := hidd K7
  have HLI := hidd LI
  have HR7 := hidd R27
  clear hown hat hgrow R7 O7 F6 N6 R2 S7 K7 LI R27 hvb hvq hvq2 hnw hBw
  go_upto_region 3 with fail
  generalize u6.setCell ⟨bb, 0, none⟩ (.slice A6 (L + 1) c6) = w7 at *
  clear R ht dN
  have h8 : Below w7.heap.size w7 (w7.alloc (.cells #[.int .i64 (L : Int)] 3)) := (Below.refl _ _).alloc (Nat.le_refl _) _
  have hs8 : (w7.alloc (.cells #[.int .i64 (L : Int)] 3)).heap.size = w7.heap.size + 1 := World.size_alloc ..
  have h9 : Below w7.heap.size w7 ((w7.alloc (.cells #[.int .i64 (L : Int)] 3)).alloc (.cells #[.int .i64 (L : Int)] 3)) := h8.alloc (by rw [hs8]; omega) _
  have Z9 := (HR7.out.below h9 HR7.out.lt)
  have hβ7 : β ≤ w7.heap.size := Nat.le_trans hβ (by have := HK7.out.size; exact this)
  have i1 := ir_one w7 L hβ7
  have i1b : IR ((w7.alloc (.cells #[.int .i64 (L : Int)] 3)).alloc (.cells #[.int .i64 (L : Int)] 3)) β (some ⟨w7.heap.size, 0, none⟩) 1 [L] := own_below i1 ((Below.refl _ _).alloc (Nat.le_refl _) _) (Nat.le_refl _)
  have i2 := ir_one (w7.alloc (.cells #[.int .i64 (L : Int)] 3)) L (B := β) (by rw [hs8]; omega)
  rw [hs8] at i2
  have HF : Hid (PtR B β u bb fb many (.slice A2 L c2) (l.map (·.1) ++ [⟨p, 1, 1, rule, false, []⟩]) f ⟨[L], [L], false⟩ (.returned (.agg (ptA (some ⟨w7.heap.size, 0, none⟩) 1 1 (some ⟨w7.heap.size + 1, 0, none⟩) 1 1 false))) ((((w7.alloc (.cells #[.int .i64 (L : Int)] 3)).alloc (.cells #[.int .i64 (L : Int)] 3))).setRow (q + 1) (ptA (some ⟨w7.heap.size, 0, none⟩) 1 1 (some ⟨w7.heap.size + 1, 0, none⟩) 1 1 false))) := by
    have hk9 := keeps_setRow (keepsW_trans HK7.out (Keeps.of_below h9)) (q + 1) (ptA (some ⟨w7.heap.size, 0, none⟩) 1 1 (some ⟨w7.heap.size + 1, 0, none⟩) 1 1 false) (.inr (by have := HQ.out; omega))
    refine ⟨_, _, _, _, _, _, rfl, (HS7.out.below h9).setRow Z9 (by decide) _, by rw [List.map_append]; rfl, hk9, HLI.out, ?_, ?_⟩
    · exact own_setRow i1b (own_neR i1b Z9 (by decide)) _
    · exact own_setRow i2 (own_neR i2 Z9 (by decide)) _
  have R9 := Z9.row (ptA (some ⟨w7.heap.size, 0, none⟩) 1 1 (some ⟨w7.heap.size + 1, 0, none⟩) 1 1 false)
  have HR9 := hidd R9
  clear h8 hs8 h9 i1 i1b i2 R9
  go_wp2_with (refine wpList_store_row rfl 57 (.tmp 6) (.tmp 29) rfl (q + 1) (ptA (some ⟨w7.heap.size, 0, none⟩) 1 1 (some ⟨w7.heap.size + 1, 0, none⟩) 1 1 false) rfl rfl 57 ptZ Z9 (pt_info _ _ _) rfl (pt_ones _ _ _ _ _ _ _) ?_)
  exact ret_part Try.results59 rfl HR9.out rfl HF.out
end Go.Proofs.Ytahhiajliomcfaa.Sy.Gl
