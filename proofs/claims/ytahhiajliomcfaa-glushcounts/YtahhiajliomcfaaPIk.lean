/- The reference's planner in memory; a node is put. -/
import Derived.Test.YtahhiajliomcfaaPG1
import Derived.Test.YtahhiajliomcfaaPJn
namespace Go.Proofs.Ytahhiajliomcfaa.Sy.Pl.Qr
open Go.RowKit Go.Proofs.Ytahhiajliomcfaa.Sy.Ap
set_option maxRecDepth 100000
set_option linter.unusedVariables false

theorem eby {sl : Nat} {v : Value} {d : Option Nat} {u u' : World} (hd : nS sl d = true) (h : Below u.heap.size u u') : EbS sl v d u u' := Ap.eby hd h
abbrev rpC (tv : Value) (most : Int) (nv : Value) (lg : Bool) : Array Value := #[tv, .int .i64 most, nv, .bool lg]
abbrev kidV (x : NR) : Value := .slice x.2.1 x.1.l.length x.2.2
/-- The planner in block b: its nodes, whether there are too many. -/
structure RM (B : Nat) (w : World) (b : Nat) (tv : Value) (most : Int) (nv : Value) (lg : Bool) (l : List NR) : Prop where
  row : RowA w b 109 (rpC tv most nv lg)
  nodes : w.ownsRow B 42 9 nv l.length (nodesC l)
  kids : ∀ x ∈ l, w.ownsRow B 3 1 (kidV x) x.1.l.length (ints x.1.l)
  hb : B ≤ b
section
variable {B : Nat} {w w' u : World} {b : Nat} {tv : Value} {most : Int} {nv z : Value} {lg : Bool} {l : List NR}
theorem RM.cells (h : RM B w b tv most nv lg l) : w.cell? ⟨b, 0, none⟩ = some tv ∧ w.cell? ⟨b, 1, none⟩ = some (.int .i64 most) ∧ w.cell? ⟨b, 2, none⟩ = some nv ∧ w.cell? ⟨b, 3, none⟩ = some (.bool lg) :=
  ⟨h.row.at_ rfl, h.row.at_ rfl, h.row.at_ rfl, h.row.at_ rfl⟩
theorem RM.size (h : RM B w b tv most nv lg l) : B ≤ w.heap.size := Nat.le_trans h.hb (Nat.le_of_lt h.row.lt)
theorem RM.below (h : RM B w b tv most nv lg l) (hb : Below w.heap.size w w') : RM B w' b tv most nv lg l :=
  ⟨h.row.below hb h.row.lt, own_below h.nodes hb (Nat.le_refl _), fun x hx => own_below (h.kids x hx) hb (Nat.le_refl _), h.hb⟩
/-- There are too many. -/
theorem RM.full (h : RM B w b tv most nv lg l) : RM B (w.setCell ⟨b, 3, none⟩ (.bool true)) b tv most nv true l :=
  ⟨h.row.set 3 _, own_sb h.nodes (own_neR h.nodes h.row (by decide)) _, fun x hx => own_sb (h.kids x hx) (own_neR (h.kids x hx) h.row (by decide)) _, h.hb⟩
/-- One more node. -/
theorem RM.add (h : RM B w b tv most nv lg l) (hg : w.grownBy u nv.ownBlock) {x : NR} (hn : u.ownsRow B 42 9 z (l ++ [x]).length (nodesC (l ++ [x]))) (hx : w.ownsRow B 3 1 (kidV x) x.1.l.length (ints x.1.l)) : RM B (u.setCell ⟨b, 2, none⟩ z) b tv most z lg (l ++ [x]) := by
  have R : RowA u b 109 (rpC tv most nv lg) := (hg.block b h.row.lt (fun q => own_neR h.nodes h.row (by decide) q.symm)).trans h.row
  refine ⟨R.set 2 z, own_sb hn (own_neR hn R (by decide)) z, fun y hy => ?_, h.hb⟩
  have hy2 : w.ownsRow B 3 1 (kidV y) y.1.l.length (ints y.1.l) := by
    rcases List.mem_append.1 hy with q | q
    · exact h.kids y q
    · rw [List.mem_singleton] at q
      exact q ▸ hx
  have k3 := own_kept hy2 hg (fun k q => fun r => own_apart h.nodes hy2 (by decide) k q r)
  exact own_sb k3 (own_neR k3 R (by decide)) z
/-- A row of numbers grows that is none of its own. -/
theorem RM.grown {row : Option Nat} (h : RM B w b tv most nv lg l) (hg : w.grownBy u row) (h1 : row ≠ some b) (h3 : ∀ k, row = some k → nv.ownBlock ≠ some k) (h4 : ∀ y ∈ l, ∀ k, row = some k → (kidV y).ownBlock ≠ some k) : RM B u b tv most nv lg l :=
  ⟨(hg.block b h.row.lt (fun q => h1 q.symm)).trans h.row, own_kept h.nodes hg h3, fun y hy => own_kept (h.kids y hy) hg (h4 y hy), h.hb⟩
end
/-- The blocks F lie apart from the planner and from all its rows. -/
def FarR (F : Nat → Prop) (w : World) (b : Nat) (nv : Value) (l : List NR) : Prop := ∀ q, F q → q < w.heap.size ∧ q ≠ b ∧ nv.ownBlock ≠ some q ∧ ∀ x ∈ l, (kidV x).ownBlock ≠ some q
/-- The planner holds the nodes O, or there were too many. -/
def RS (F : Nat → Prop) (B b : Nat) (At : Option Addr) (ct : Nat) (gs : List Gd) (most : Int) (w : World) (O : Option (List Nd)) : Prop :=
  ∃ nv l, RM B w b (.slice At gs.length ct) most nv O.isNone l ∧ (∀ o, O = some o → GN (l.map (·.1)) o) ∧ (O = none → l.length = 1024) ∧ l.length ≤ 1024 ∧ FarR F w b nv l
/-- What a call of the planner tells: a place, or too many. -/
def RR (F : Nat → Prop) (B b : Nat) (At : Option Addr) (ct : Nat) (gs : List Gd) (most : Int) (w : World) (O : Option (List Nd)) (e : Ending) (w' : World) : Prop :=
  BF B F w w' ∧ ∃ z : Int, e = .returned (.int .i64 z) ∧ (∀ o, O = some o → z = ((o.length - 1 : Nat) : Int)) ∧ RS F B b At ct gs most w' O
section
variable {F : Nat → Prop} {B b : Nat} {At : Option Addr} {ct : Nat} {gs : List Gd} {most : Int} {w w' : World} {O : Option (List Nd)}
theorem RS.lens (h : RS F B b At ct gs most w O) : b < w.heap.size ∧ B ≤ b ∧ w.cell? ⟨b, 0, none⟩ = some (.slice At gs.length ct) ∧ w.cell? ⟨b, 1, none⟩ = some (.int .i64 most) ∧ w.cell? ⟨b, 3, none⟩ = some (.bool O.isNone) := by
  obtain ⟨nv, l, p, -, -, -, -⟩ := h
  obtain ⟨d0, d1, d2, d3⟩ := p.cells
  exact ⟨p.row.lt, p.hb, d0, d1, d3⟩
theorem RS.below (h : RS F B b At ct gs most w O) (hb : Below w.heap.size w w') : RS F B b At ct gs most w' O := by
  obtain ⟨nv, l, p, h1, h2, h3, h4⟩ := h
  exact ⟨nv, l, p.below hb, h1, h2, h3, fun q hq => ⟨Nat.lt_of_lt_of_le (h4 q hq).1 hb.size, (h4 q hq).2⟩⟩
/-- Fewer blocks that lie apart. -/
theorem RS.less {F' : Nat → Prop} (h : RS F B b At ct gs most w O) (hF : ∀ q, F' q → F q) : RS F' B b At ct gs most w O := by
  obtain ⟨nv, l, p, h1, h2, h3, h4⟩ := h
  exact ⟨nv, l, p, h1, h2, h3, fun q hq => h4 q (hF q hq)⟩
/-- What is new lies apart. -/
theorem RS.more {F' : Nat → Prop} (h : RS F B b At ct gs most w O) (hb : Below w.heap.size w w') (hF : ∀ q, F' q → F q ∨ (w.heap.size ≤ q ∧ q < w'.heap.size)) : RS F' B b At ct gs most w' O := by
  obtain ⟨nv, l, p, h1, h2, h3, h4⟩ := h
  refine ⟨nv, l, p.below hb, h1, h2, h3, fun q hq => ?_⟩
  rcases hF q hq with q1 | ⟨q1, q2⟩
  · exact ⟨Nat.lt_of_lt_of_le (h4 q q1).1 hb.size, (h4 q q1).2⟩
  · have hbl := p.row.lt
    refine ⟨q2, by omega, fun e => ?_, fun x hx e => ?_⟩
    · have := (p.nodes.lt q e).2
      omega
    · have := ((p.kids x hx).lt q e).2
      omega
/-- A row that lies apart grows. -/
theorem RS.grown {row : Option Nat} (h : RS F B b At ct gs most w O) (hg : w.grownBy w' row) (hr : ∀ k, row = some k → F k) {F' : Nat → Prop} (hF : ∀ q, F' q → F q ∨ (w.heap.size ≤ q ∧ q < w'.heap.size)) : RS F' B b At ct gs most w' O := by
  obtain ⟨nv, l, p, h1, h2, h3, h4⟩ := h
  refine ⟨nv, l, p.grown hg (fun e => (h4 b (hr b e)).2.1 rfl) (fun k hk => (h4 k (hr k hk)).2.2.1) (fun y hy k hk => (h4 k (hr k hk)).2.2.2 y hy), h1, h2, h3, fun q hq => ?_⟩
  rcases hF q hq with q1 | ⟨q1, q2⟩
  · exact ⟨Nat.lt_of_lt_of_le (h4 q q1).1 hg.size, (h4 q q1).2⟩
  · have hbl := p.row.lt
    refine ⟨q2, by omega, fun e => ?_, fun x hx e => ?_⟩
    · have := (p.nodes.lt q e).2
      omega
    · have := ((p.kids x hx).lt q e).2
      omega
theorem RS.bf (h : RS F B b At ct gs most w O) (hb : Below w.heap.size w w') : BF B F w w' := by
  obtain ⟨nv, l, p, h1, h2, h3, h4⟩ := h
  exact ⟨hb.mono p.size, fun q hq => hb.block q (h4 q hq).1⟩
theorem RS.far (h : RS F B b At ct gs most w O) {q : Nat} (hq : F q) : q < w.heap.size := by
  obtain ⟨nv, l, p, h1, h2, h3, h4⟩ := h
  exact (h4 q hq).1
end
/- The row of nodes gets one more. -/
set_option linter.unusedVariables false in
def RpGV (w : World) (b q : Nat) (L : Nat) (A2 : Option Addr) (c2 : Nat) (x : Gd) (A : Option Addr) (c : Nat) (t : Nat) : Option Value :=
  match t with
  | 0 => some (.pointer (some ⟨b, 0, none⟩))
  | 3 => some (.pointer (some ⟨q, 0, none⟩))
  | 14 => some (.pointer (some ⟨b, 0, none⟩))
  | 15 => some (.pointer (some ⟨b, 0, none⟩))
  | 16 => some (.pointer (some ⟨b, 0, none⟩))
  | 17 => some (.pointer (some ⟨b, 2, none⟩))
  | 18 => some (.slice A2 L c2)
  | 19 => some (.agg #[.int .u8 x.op, .int .u64 (W x.s 0), .int .u64 (W x.s 1), .int .u64 (W x.s 2), .int .u64 (W x.s 3), .slice A x.l.length c, .int .i64 x.lo, .int .i64 x.hi, .string x.nm])
  | _ => none
set_option linter.unusedVariables false in
def RpGP (w : World) (b q : Nat) (L : Nat) (A2 : Option Addr) (c2 : Nat) (x : Gd) (A : Option Addr) (c : Nat) (t : Nat) : Option (Value → World → Prop) :=
  match t with
  | 20 => some (NewR w (.slice A2 L c2) 42 (gdL x A c).toArray)
  | 21 => some (fun z _ => z ≠ undef)
  | _ => none
def RpG (w : World) (b q : Nat) (L : Nat) (A2 : Option Addr) (c2 : Nat) (x : Gd) (A : Option Addr) (c : Nat) (t : Nat) (v : Value) (u : World) : Prop := (∀ z9, RpGV w b q L A2 c2 x A c t = some z9 → v = z9) ∧ ∀ R, RpGP w b q L A2 c2 x A c t = some R → R v u
set_option maxHeartbeats 1000000 in
theorem rput_ok {B : Nat} {w : World} {b : Nat} {tv : Value} {most : Int} {nv : Value} {l : List NR} (h : RM B w b tv most nv false l) (x : Gd) (A : Option Addr) (c : Nat) (hx : w.ownsRow B 3 1 (.slice A x.l.length c) x.l.length (ints x.l)) (hl : l.length < 1024) :
    Calls Try.prog 77 #[.pointer (some ⟨b, 0, none⟩), .agg (gdL x A c).toArray] w fun e w' => e = .returned (.int .i64 ((l.length : Nat) : Int)) ∧ Below B w w' ∧
      ∃ nv', (∀ k, k < w.heap.size → k ≠ b → nv.ownBlock ≠ some k → w'.heap[k]? = w.heap[k]?) ∧ (∀ k, nv'.ownBlock = some k → nv.ownBlock = some k ∨ w.heap.size ≤ k) ∧ RM B w' b tv most nv' false (l ++ [(x, A, c)]) := by
  obtain ⟨i0, hi0, hz0, hz1, hz2⟩ := info_parts node_info
  obtain ⟨A2, c2, rfl⟩ := own_form h.nodes
  obtain ⟨d0, d1, d2, d3⟩ := h.cells
  have hb := h.row.lt
  have hq := RowA.new w 42 (gdL x A c).toArray
  have hbq := Below.refl w.heap.size w |>.alloc (Nat.le_refl _) (.cells (gdL x A c).toArray 42)
  have h1 := h.below hbq
  have hx1 := own_below hx hbq (Nat.le_refl _)
  have HH := hidd h
  clear h hx
  generalize hL : l.length = L at *
  have HL := hidd hL
  clear hL
  obtain ⟨e0, e1, e2, e3, e4, e5, e6, e7, e8⟩ := node_cells hq
  unfold gdL at hq h1 hbq hx1 ⊢
  go_enter Try.func77, Try.ntmps77
  go_upto_region 4 with fail
  have R1 : RowA _ w.heap.size 42 (gdL x A c).toArray := hq
  change RowA (w.alloc (.cells #[.int .u8 x.op, .int .u64 (W x.s 0), .int .u64 (W x.s 1), .int .u64 (W x.s 2), .int .u64 (W x.s 3), .slice A x.l.length c, .int .i64 x.lo, .int .i64 x.hi, .string x.nm] 42)) _ _ _ at R1
  have E5 := h1
  have B5 := hbq
  have X5 := hx1
  generalize w.alloc (.cells #[.int .u8 x.op, .int .u64 (W x.s 0), .int .u64 (W x.s 1), .int .u64 (W x.s 2), .int .u64 (W x.s 3), .slice A x.l.length c, .int .i64 x.lo, .int .i64 x.hi, .string x.nm] 42) = w5 at *
  clear e0 e1 e2 e3 e4 e5 e6 e7 e8 d0 d1 d2 d3 hq h1 hbq hx1
  have hqw := R1.lt
  generalize hqe : w.heap.size = q at *
  have HQ := hidd hqe
  clear hqe
  have hBw : B ≤ w5.heap.size := E5.size
  obtain ⟨XS, hXS⟩ : ∃ XS, nodesC l = XS := ⟨_, rfl⟩
  have hcut : w5.ownsRow B 42 9 (.slice A2 L c2) L XS := by
    have := E5.nodes
    rw [HL.out, hXS] at this
    exact this
  have HXS := hidd hXS
  clear hXS
  have hvb : (Value.slice A2 L c2).ownBlock ≠ some b := own_neR hcut E5.row (by decide)
  have hvq : (Value.slice A2 L c2).ownBlock ≠ some q := fun e => by
    have h1 := (HH.out.nodes.lt q e).2
    have h2 := HQ.out
    omega
  have hnw : ∀ k, w5.heap.size ≤ k → (Value.slice A2 L c2).ownBlock ≠ some k := fun k hk e => by have := (hcut.lt k e).2; omega
  have HE5 := hidd E5
  have HB5 := hidd B5
  have HX5 := hidd X5
  clear B5 X5
  refine wp_region_slotsA 8 (by decide) (by kernel_rfl) (by kernel_rfl) (fun _ _ => true) (AppS w5 B b q 109 (rpC tv most (.slice A2 L c2) false) (gdL x A c).toArray 42 9 (.slice A2 L c2) L XS (gdL x A c) 21) (RpG w5 b q L A2 c2 x A c) (EbS 21 (.slice A2 L c2)) (by kernel_rfl) (by kernel_rfl) (by kernel_rfl) (by kernel_rfl) ?_ ⟨R1, E5.row, grown_below ⟨rfl, rfl, rfl, Nat.le_refl _, fun _ _ _ => rfl⟩ (bel_drew (Below.refl _ _)), hcut, fun z hz => .inl (Option.some.inj hz).symm⟩ [0, 3] (by kernel_rfl) ?_ ?_ ?_
  · intro t d z u u' _ h hE
    refine ⟨h.1, fun R hR => ?_⟩
    have h2 := h.2 R hR
    unfold RpGP at hR
    split at hR
    · cases hR
      exact NewR.stab h2 hE
    · cases hR
      exact h2
    · cases hR
  · intro a u _
    refine ⟨⟨_, rfl, ?_⟩, ⟨_, rfl, ?_⟩, trivial⟩
    · exact ⟨fun _ h => Option.some.inj h, fun _ h => no_some h⟩
    · exact ⟨fun _ h => Option.some.inj h, fun _ h => no_some h⟩
  · refine ⟨?_, ?_, ?_, ?_, ?_, ?_, ?_, ?_, trivial⟩
    · intro a u hS hr K hK
      obtain ⟨⟨vl0, e0, g0⟩, -⟩ := hr
      obtain rfl := g0.1 _ rfl
      clear g0
      rw [if_pos (want_none rfl)]
      unfold Oper.wp
      go_simp
      exact hK _ _ ⟨fun _ h => Option.some.inj h, fun _ h => no_some h⟩ (hS.put rfl _) (eby rfl (Below.refl _ _))
    · intro a u hS hr K hK
      obtain ⟨⟨vl0, e0, g0⟩, -⟩ := hr
      obtain rfl := g0.1 _ rfl
      clear g0
      rw [if_pos (want_none rfl)]
      unfold Oper.wp
      go_simp
      exact hK _ _ ⟨fun _ h => Option.some.inj h, fun _ h => no_some h⟩ (hS.put rfl _) (eby rfl (Below.refl _ _))
    · intro a u hS hr K hK
      obtain ⟨⟨vl0, e0, g0⟩, -⟩ := hr
      obtain rfl := g0.1 _ rfl
      clear g0
      rw [if_pos (want_none rfl)]
      unfold Oper.wp
      go_simp
      exact hK _ _ ⟨fun _ h => Option.some.inj h, fun _ h => no_some h⟩ (hS.put rfl _) (eby rfl (Below.refl _ _))
    · intro a u hS hr K hK
      obtain ⟨⟨vl0, e0, g0⟩, -⟩ := hr
      obtain rfl := g0.1 _ rfl
      clear g0
      rw [if_pos (want_none rfl)]
      unfold Oper.wp
      go_simp
      exact hK _ _ ⟨fun _ h => Option.some.inj h, fun _ h => no_some h⟩ (hS.put rfl _) (eby rfl (Below.refl _ _))
    · intro a u hS hr K hK
      obtain ⟨⟨vl0, e0, g0⟩, -⟩ := hr
      obtain rfl := g0.1 _ rfl
      clear g0
      rw [if_pos (want_none rfl)]
      have dN := hS.row.at_ (k := 2) rfl
      unfold Oper.wp
      go_simp
      exact hK _ _ ⟨fun _ h => Option.some.inj h, fun _ h => no_some h⟩ (hS.put rfl _) (eby rfl (Below.refl _ _))
    · intro a u hS hr K hK
      obtain ⟨⟨vl0, e0, g0⟩, -⟩ := hr
      obtain rfl := g0.1 _ rfl
      clear g0
      rw [if_pos (want_none rfl)]
      obtain ⟨c0, c1, c2, c3, c4, c5, c6, c7, c8⟩ := node_cells hS.box
      unfold Oper.wp
      go_simp
      exact hK _ _ ⟨fun _ h => Option.some.inj h, fun _ h => no_some h⟩ (hS.put rfl _) (eby rfl (Below.refl _ _))
    · intro a u hS hr K hK
      obtain ⟨⟨vl0, e0, g0⟩, -⟩ := hr
      obtain rfl := g0.1 _ rfl
      clear g0
      rw [if_pos (want_none rfl)]
      unfold Oper.wp
      go_simp
      exact hK _ _ ⟨fun _ h => no_some h, fun _ h => spec_ok h (⟨_, rfl, hnw _ hS.grow.size, hS.grow.size, RowA.new _ _ _⟩)⟩ ((hS.below ((Below.refl _ _).alloc (Nat.le_refl _) _)).put rfl _) (eby rfl ((Below.refl _ _).alloc (Nat.le_refl _) _))
    · intro a u hS hr K hK
      obtain ⟨⟨vl0, e0, g0⟩, ⟨vl1, e1, g1⟩, -⟩ := hr
      obtain rfl := g0.1 _ rfl
      clear g0
      replace g1 := g1.2 _ rfl
      rw [if_pos (want_none rfl)]
      obtain ⟨g, rfl, hgv, hg, Rg⟩ := g1
      refine wp_append_both u (.tmp 18) (.tmp 20) 36 rfl B 42 i0 _ 9 96 Try.underlying36 hi0 hz0 hz1 hz2 rfl (by omega) (.slice A2 L c2) L XS (eval_at e0) hS.own ⟨g, 0, none⟩ 1 1 (gdL x A c) (eval_at e1) rfl (World.news_of_block Rg) (gdL_ones x A c) (by simp only [maxLen]; omega) (by omega) (Nat.le_trans hBw hS.grow.size) ?_
      intro v' u1 h1 h2 h3 h4
      exact hK _ _ ⟨fun _ h => no_some h, fun _ h => spec_ok h (own_not h1)⟩ (hS.app_ hvb hvq h1 h2 h3 h4) (ebw rfl h3)
  intro a u hS hts hd hkn hf
  obtain ⟨v14, e14, g14⟩ := hf 0 _ 14 (by decide) rfl rfl (fun _ => rfl)
  obtain ⟨v15, e15, g15⟩ := hf 1 _ 15 (by decide) rfl rfl (fun _ => rfl)
  obtain ⟨v16, e16, g16⟩ := hf 2 _ 16 (by decide) rfl rfl (fun _ => rfl)
  obtain ⟨v17, e17, g17⟩ := hf 3 _ 17 (by decide) rfl rfl (fun _ => rfl)
  obtain ⟨v18, e18, g18⟩ := hf 4 _ 18 (by decide) rfl rfl (fun _ => rfl)
  obtain ⟨v19, e19, g19⟩ := hf 5 _ 19 (by decide) rfl rfl (fun _ => rfl)
  obtain ⟨v20, e20, g20⟩ := hf 6 _ 20 (by decide) rfl rfl (fun _ => rfl)
  obtain ⟨v21, e21, g21⟩ := hf 7 _ 21 (by decide) rfl rfl (fun _ => rfl)
  obtain ⟨v22, e22⟩ : ∃ z, a.tmps[22]? = some z := ⟨_, Array.getElem?_eq_getElem (by rw [hts]; simp)⟩
  obtain ⟨v23, e23⟩ : ∃ z, a.tmps[23]? = some z := ⟨_, Array.getElem?_eq_getElem (by rw [hts]; simp)⟩
  have hA := act_puts [(14, v14), (15, v15), (16, v16), (17, v17), (18, v18), (19, v19), (20, v20), (21, v21), (22, v22), (23, v23)] hts hd hkn (by kernel_rfl) (by simp [e14, e15, e16, e17, e18, e19, e20, e21, e22, e23])
  have hown := (hS.app v21 e21).resolve_left (g21.2 _ rfl)
  have hgrow := hS.grow
  have R := hS.row
  clear hS
  clear hf hts hd hkn e14 e15 e16 e17 e18 e19 e20 e21 e22 e23
  obtain rfl := g14.1 _ rfl
  clear g14
  obtain rfl := g15.1 _ rfl
  clear g15
  obtain rfl := g16.1 _ rfl
  clear g16
  obtain rfl := g17.1 _ rfl
  clear g17
  obtain rfl := g18.1 _ rfl
  clear g18
  obtain rfl := g19.1 _ rfl
  clear g19
  replace g20 := g20.2 _ rfl
  replace g21 := g21.2 _ rfl
  subst hA
  simp only [List.foldl, List.setIfInBounds_toArray, List.set_cons_zero, List.set_cons_succ]
  simp only [List.drop_succ_cons, List.drop_zero]
  clear g20 g21 R1 hcut E5
  obtain ⟨hown, hat⟩ := hown
  obtain ⟨A6, c6, rfl⟩ := own_form hown
  have dN := R.at_ (k := 2) rfl
  have ht := R.thawed
  have hown2 : u.ownsRow B 42 9 (.slice A6 (L + 1) c6) (l ++ [(x, A, c)]).length (nodesC (l ++ [(x, A, c)])) := by
    have e : (l ++ [(x, A, c)]).length = L + 1 := by rw [List.length_append, HL.out, List.length_singleton]
    rw [e, ← nodesC_snoc, HXS.out]
    exact hown
  have hqw5 : q ≤ w5.heap.size := by have h1 := HB5.out.size; rw [HQ.out] at h1; exact h1
  have hBq : B ≤ q := by have h1 := HH.out.size; rw [HQ.out] at h1; exact h1
  have HE6 := hidd (HE5.out.add hgrow hown2 HX5.out)
  have HB6 : Hid (Below B w (u.setCell ⟨b, 2, none⟩ (.slice A6 (L + 1) c6))) := bel_set (bel_row (HB5.out.mono hBq) hBw hgrow (fun k hk => (HE5.out.nodes.lt k hk).1)) ⟨b, 2, none⟩ (.slice A6 (L + 1) c6) HE5.out.hb
  have HF6 : Hid (∀ k, k < q → k ≠ b → (Value.slice A2 L c2).ownBlock ≠ some k → (u.setCell ⟨b, 2, none⟩ (.slice A6 (L + 1) c6)).heap[k]? = w.heap[k]?) := fun k hk h1 h2 => (Below.heap_setCell _ _ _ _ h1).trans ((hgrow.block k (Nat.lt_of_lt_of_le hk hqw5) (fun e => h2 e.symm)).trans (HB5.out.block k hk))
  have HN6 : Hid (∀ k, (Value.slice A6 (L + 1) c6).ownBlock = some k → (Value.slice A2 L c2).ownBlock = some k ∨ q ≤ k) := fun k hk => by
    rcases hat with e | ⟨k', e1, e2⟩
    · exact .inl (e ▸ hk)
    · rw [e1] at hk
      cases hk
      exact .inr (Nat.le_trans hqw5 e2)
  have hsub : ((L + 1 : Nat) : Int) - 1 = (L : Int) := by omega
  clear hown hat hgrow hown2 HE5 HB5 hnw hvb hvq hBw hqw5 hBq
  go_wp2
  go_ret
  exact ⟨rfl, HB6.out, .slice A6 (L + 1) c6, by rw [HQ.out]; exact HF6.out, by rw [HQ.out]; exact HN6.out, HE6.out⟩
set_option maxHeartbeats 400000 in
theorem rput_full {B : Nat} {w : World} {b : Nat} {tv : Value} {most : Int} {nv : Value} {lg : Bool} {l : List NR} (h : RM B w b tv most nv lg l) (x : Gd) (A : Option Addr) (c : Nat) (hl : l.length = 1024) :
    Calls Try.prog 77 #[.pointer (some ⟨b, 0, none⟩), .agg (gdL x A c).toArray] w fun e w' => e = .returned (.int .i64 0) ∧ Below B w w' ∧ (∀ k, k < w.heap.size → k ≠ b → w'.heap[k]? = w.heap[k]?) ∧ RM B w' b tv most nv true l := by
  obtain ⟨A2, c2, rfl⟩ := own_form h.nodes
  have hbq : Below w.heap.size w (w.alloc (.cells (gdL x A c).toArray 42)) := (Below.refl w.heap.size w).alloc (Nat.le_refl _) _
  have h1 := h.below hbq
  obtain ⟨d0, d1, d2, d3⟩ := h1.cells
  have ht := h1.row.thawed
  rw [hl] at d2
  have HF := hidd h1.full
  have HB : Hid (Below B w ((w.alloc (.cells (gdL x A c).toArray 42)).setCell ⟨b, 3, none⟩ (.bool true))) := bel_set (hbq.mono h.size) _ _ h.hb
  have HK : Hid (∀ k, k < w.heap.size → k ≠ b → ((w.alloc (.cells (gdL x A c).toArray 42)).setCell ⟨b, 3, none⟩ (.bool true)).heap[k]? = w.heap[k]?) := fun k hk hn => (Below.heap_setCell _ _ _ _ hn).trans (hbq.block k hk)
  clear h hl h1
  unfold gdL at *
  go_enter Try.func77, Try.ntmps77
  go_wp2
  go_ret
  exact ⟨rfl, HB.out, HK.out, HF.out⟩
/-- A node is put, or there is no room. -/
theorem rputC {F : Nat → Prop} {B b : Nat} {At : Option Addr} {ct : Nat} {gs : List Gd} {most : Int} {w : World} {O : Option (List Nd)} (hS : RS F B b At ct gs most w O) (g : Gd) (n : Nd) (hg : ∀ o, O = some o → GN1 g n) (A : Option Addr) (c : Nat) (hx : w.ownsRow B 3 1 (.slice A g.l.length c) g.l.length (ints g.l)) (hF : ∀ q, F q → (Value.slice A g.l.length c).ownBlock ≠ some q) :
    Calls Try.prog 77 #[.pointer (some ⟨b, 0, none⟩), .agg (gdL g A c).toArray] w (RR F B b At ct gs most w (O.bind (putF n))) := by
  obtain ⟨nv, l, p, h1, h2, h3, h4⟩ := hS
  by_cases hl : l.length < 1024
  · cases O with
    | none => exact absurd (h2 rfl) (by omega)
    | some o =>
      have gn := h1 o rfl
      have hlen : l.length = o.length := by rw [← gn.1, List.length_map]
      refine (rput_ok p g A c hx hl).mono ?_
      rintro e w' ⟨rfl, b2, nv', f1, f2, p'⟩
      have hp : putF n o = some (o ++ [n]) := by unfold putF; rw [if_pos (by omega)]
      rw [Option.bind_some, hp]
      refine ⟨⟨b2, fun q hq => f1 q (h4 q hq).1 (h4 q hq).2.1 (h4 q hq).2.2.1⟩, _, rfl, fun o' ho => ?_, nv', _, p', fun o' ho => ?_, (fun q => by cases q), ?_, fun q hq => ?_⟩
      · cases ho
        rw [List.length_append, List.length_singleton, hlen]
        rfl
      · cases ho
        rw [List.map_append]
        exact gn_snoc gn (hg o rfl)
      · rw [List.length_append, List.length_singleton]
        omega
      · obtain ⟨q1, q2, q3, q4⟩ := h4 q hq
        refine ⟨Nat.lt_of_lt_of_le q1 b2.size, q2, fun e => ?_, fun x hx => ?_⟩
        · rcases f2 q e with r | r
          · exact q3 r
          · omega
        · rcases List.mem_append.1 hx with r | r
          · exact q4 x r
          · rw [List.mem_singleton] at r
            subst r
            exact hF q hq
  · have hl2 : l.length = 1024 := by omega
    refine (rput_full p g A c hl2).mono ?_
    rintro e w' ⟨rfl, b2, f1, p'⟩
    have hO : O.bind (putF n) = none := by
      cases O with
      | none => rfl
      | some o =>
        have gn := h1 o rfl
        have hlen : l.length = o.length := by rw [← gn.1, List.length_map]
        rw [Option.bind_some]
        unfold putF
        rw [if_neg (by omega)]
    rw [hO]
    exact ⟨⟨b2, fun q hq => f1 q (h4 q hq).1 (h4 q hq).2.1⟩, 0, rfl, (fun o' ho => by cases ho), nv, l, p', (fun o' ho => by cases ho), fun _ => hl2, h3, fun q hq => ⟨Nat.lt_of_lt_of_le (h4 q hq).1 b2.size, (h4 q hq).2⟩⟩
end Go.Proofs.Ytahhiajliomcfaa.Sy.Pl.Qr
