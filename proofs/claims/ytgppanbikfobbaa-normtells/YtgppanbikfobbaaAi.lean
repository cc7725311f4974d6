/- The landed expander: a walk is left; a node is taken. -/
import Derived.Test.YtgppanbikfobbaaAh
namespace Go.Proofs.Ytgppanbikfobbaa.Sy.Ap
open Go.RowKit
set_option maxRecDepth 100000
set_option linter.unusedVariables false

theorem own_cutS {w : World} {base : Nat} {e : TypeId} {sz n r c : Nat} {A : Option Addr} {xs : List Value} (h : w.ownsRow base e sz (.slice A n c) n xs) (hr : r ≤ n) : w.ownsRow base e sz (.slice A r c) r (xs.take (r * sz)) := by
  obtain ⟨h1, h2⟩ := h
  have hle : r * sz ≤ n * sz := Nat.mul_le_mul_right _ hr
  refine ⟨by rw [List.length_take, h1]; omega, ?_⟩
  rcases h2 with ⟨h2, h3⟩ | ⟨g, cap, cur, hv, hg, hh, h3, h4, h5, h6⟩
  · cases h2
    have : r = 0 := by omega
    subst this
    exact .inl ⟨rfl, rfl⟩
  · cases hv
    refine .inr ⟨g, c, cur, rfl, hg, hh, by omega, h4, h5, ?_⟩
    rw [← h6, List.take_take]
    congr 1
    omega
theorem wksC_take (wl : List WkE) (e : WkE) : (wksC (wl ++ [e])).take (wl.length * 2) = wksC wl := by
  rw [← wksC_snoc, ← wksC_len, List.take_left]
theorem wksC_last (wl : List WkE) (e : WkE) (j : Nat) (hj : j < 2) : (wksC (wl ++ [e]))[wl.length * 2 + j]? = (wkL e)[j]? := by
  rw [← wksC_snoc, List.getElem?_append_right (by rw [wksC_len]; omega), wksC_len]
  congr 1
  omega
/-- The last walk's cells. -/
theorem last_cells {w : World} {B gw cw k : Nat} {wl : List WkE} {e : WkE} (hk : wl.length = k) (h : w.ownsRow B 69 2 (.slice (some ⟨gw, 0, none⟩) (k + 1) cw) (wl ++ [e]).length (wksC (wl ++ [e]))) :
    w.cell? ⟨gw, k * 2, none⟩ = some (.string e.nm) ∧ w.cell? ⟨gw, k * 2 + 1, none⟩ = some (.slice e.A e.rest.length e.c) := by
  subst hk
  have c0 := h.cells (g := gw) rfl (wl.length * 2 + 0) (.string e.nm) (by rw [wksC_last wl e 0 (by omega)]; rfl)
  have c1 := h.cells (g := gw) rfl (wl.length * 2 + 1) (.slice e.A e.rest.length e.c) (by rw [wksC_last wl e 1 (by omega)]; rfl)
  rw [addr_add] at c0 c1
  exact ⟨c0, c1⟩
/-- Memory while a walk is left. -/
structure LvS (B : Nat) (w : World) (b bt bo nt no : Nat) (f g : ByteArray → Option Value) (wv nv rv : Value) (wl : List WkE) (l : List NR) (rt : List Nat) (u : World) : Prop where
  es : ES B u b bt bo nt no f g wv nv rv wl l rt
  bel : Below w.heap.size w u
theorem LvS.below {B : Nat} {w : World} {b bt bo nt no : Nat} {f g : ByteArray → Option Value} {wv nv rv : Value} {wl : List WkE} {l : List NR} {rt : List Nat} {u u' : World} (h : LvS B w b bt bo nt no f g wv nv rv wl l rt u) (hb : Below u.heap.size u u') : LvS B w b bt bo nt no f g wv nv rv wl l rt u' :=
  ⟨h.es.below hb, h.bel.trans (hb.mono h.bel.size)⟩
namespace Lv
def Eb (_ : Option Nat) (u u' : World) : Prop := Below u.heap.size u u'
theorem eby {d : Option Nat} {u u' : World} (_ : true = true) (h : Below u.heap.size u u') : Eb d u u' := h
set_option linter.unusedVariables false in
def LvGV (b bo k gw cw : Nat) (nm : ByteArray) (t : Nat) : Option Value :=
  match t with
  | 0 => some (.pointer (some ⟨b, 0, none⟩))
  | 2 => some (.int .i64 (k : Int))
  | 9 => some (.pointer (some ⟨b, 0, none⟩))
  | 10 => some (.pointer (some ⟨b, 0, none⟩))
  | 11 => some (.pointer (some ⟨b, 1, none⟩))
  | 12 => some (.map (some bo))
  | 13 => some (.pointer (some ⟨b, 0, none⟩))
  | 14 => some (.pointer (some ⟨b, 0, none⟩))
  | 15 => some (.pointer (some ⟨b, 2, none⟩))
  | 16 => some (.slice (some ⟨gw, 0, none⟩) (k + 1) cw)
  | 17 => some (.int .i64 (k : Int))
  | 18 => some (.pointer (some ⟨gw, k * 2, none⟩))
  | 19 => some (.pointer (some ⟨gw, k * 2, none⟩))
  | 20 => some (.string nm)
  | _ => none
set_option linter.unusedVariables false in
def LvGP (b bo k gw cw : Nat) (nm : ByteArray) (t : Nat) : Option (Value → World → Prop) :=
  match t with
  | _ => none
def LvG (b bo k gw cw : Nat) (nm : ByteArray) (t : Nat) (v : Value) (u : World) : Prop := (∀ z9, LvGV b bo k gw cw nm t = some z9 → v = z9) ∧ ∀ R, LvGP b bo k gw cw nm t = some R → R v u
set_option maxHeartbeats 1000000 in
theorem leave_any {B : Nat} {w : World} {b bt bo nt no : Nat} {f g : ByteArray → Option Value} {wv nv rv : Value} {wl : List WkE} {e : WkE} {l : List NR} {rt : List Nat} (h : ES B w b bt bo nt no f g wv nv rv (wl ++ [e]) l rt) (hs : e.nm.size ≤ maxLen) (hwl : wl.length ≤ 100000) :
    Calls Try.prog 35 #[.pointer (some ⟨b, 0, none⟩)] w fun en w' => en = .returned (.tuple #[]) ∧ Below B w w' ∧
      ∃ wv', ES B w' b bt bo nt (no - cntO (g e.nm)) f (fun k => if k = e.nm then none else g k) wv' nv rv wl l rt := by
  have hw0 := h.walks
  rw [List.length_append, List.length_singleton] at hw0
  obtain ⟨gw, cw, rfl, hgB, hgl⟩ := own_pos hw0 (by omega)
  obtain ⟨d0, d1, d2, d3, d4⟩ := h.cells
  have hcap := own_cap hw0
  have hbl := h.row.lt
  generalize hk : wl.length = k at *
  have HK := hidd hk
  have HH := hidd h
  clear hk hw0
  have hki : (k : Int) < (k : Int) + 1 := by omega
  have hkc : (k : Int) ≤ (cw : Int) := by omega
  have e1 : ((k + 1 : Nat) : Int) - 1 = (k : Int) := by omega
  go_enter Try.func35, Try.ntmps35
  go_upto_region 1 with fail
  clear d0 d1 d2 d3 d4
  refine wp_region_slotsT 12 (by decide) (by kernel_rfl) (by kernel_rfl) (fun _ _ => true) (LvS B w b bt bo nt no f g (.slice (some ⟨gw, 0, none⟩) (k + 1) cw) nv rv (wl ++ [e]) l rt) (LvG b bo k gw cw e.nm) Eb (by kernel_rfl) (by kernel_rfl) (by kernel_rfl) (by kernel_rfl) ?_ ⟨h.below (bel_drew (Below.refl _ _)), bel_drew (Below.refl _ _)⟩ [0, 2] (by kernel_rfl) ?_ ?_ ?_
  · intro t d v u u' _ _ h hE
    exact ⟨h.1, fun R hR => by unfold LvGP at hR; cases hR⟩
  · intro u _
    refine ⟨⟨_, rfl, ?_⟩, ⟨_, rfl, ?_⟩, trivial⟩
    · exact ⟨fun _ h => Option.some.inj h, fun _ h => no_some h⟩
    · exact ⟨fun _ h => Option.some.inj h, fun _ h => no_some h⟩
  · refine ⟨?_, ?_, ?_, ?_, ?_, ?_, ?_, ?_, ?_, ?_, ?_, ?_, trivial⟩
    · intro a u hS hr K hK
      obtain ⟨⟨vl0, e0, g0⟩, -⟩ := hr
      obtain rfl := g0.1 _ rfl
      clear g0
      rw [if_pos (want_none rfl)]
      unfold Oper.wp
      go_simp
      exact hK _ _ ⟨fun _ h => Option.some.inj h, fun _ h => no_some h⟩ hS (eby rfl (Below.refl _ _))
    · intro a u hS hr K hK
      obtain ⟨⟨vl0, e0, g0⟩, -⟩ := hr
      obtain rfl := g0.1 _ rfl
      clear g0
      rw [if_pos (want_none rfl)]
      unfold Oper.wp
      go_simp
      exact hK _ _ ⟨fun _ h => Option.some.inj h, fun _ h => no_some h⟩ hS (eby rfl (Below.refl _ _))
    · intro a u hS hr K hK
      obtain ⟨⟨vl0, e0, g0⟩, -⟩ := hr
      obtain rfl := g0.1 _ rfl
      clear g0
      rw [if_pos (want_none rfl)]
      unfold Oper.wp
      go_simp
      exact hK _ _ ⟨fun _ h => Option.some.inj h, fun _ h => no_some h⟩ hS (eby rfl (Below.refl _ _))
    · intro a u hS hr K hK
      obtain ⟨⟨vl0, e0, g0⟩, -⟩ := hr
      obtain rfl := g0.1 _ rfl
      clear g0
      rw [if_pos (want_none rfl)]
      have d1 := hS.es.row.at_ (k := 1) rfl
      unfold Oper.wp
      go_simp
      exact hK _ _ ⟨fun _ h => Option.some.inj h, fun _ h => no_some h⟩ hS (eby rfl (Below.refl _ _))
    · intro a u hS hr K hK
      obtain ⟨⟨vl0, e0, g0⟩, -⟩ := hr
      obtain rfl := g0.1 _ rfl
      clear g0
      rw [if_pos (want_none rfl)]
      unfold Oper.wp
      go_simp
      exact hK _ _ ⟨fun _ h => Option.some.inj h, fun _ h => no_some h⟩ hS (eby rfl (Below.refl _ _))
    · intro a u hS hr K hK
      obtain ⟨⟨vl0, e0, g0⟩, -⟩ := hr
      obtain rfl := g0.1 _ rfl
      clear g0
      rw [if_pos (want_none rfl)]
      unfold Oper.wp
      go_simp
      exact hK _ _ ⟨fun _ h => Option.some.inj h, fun _ h => no_some h⟩ hS (eby rfl (Below.refl _ _))
    · intro a u hS hr K hK
      obtain ⟨⟨vl0, e0, g0⟩, -⟩ := hr
      obtain rfl := g0.1 _ rfl
      clear g0
      rw [if_pos (want_none rfl)]
      unfold Oper.wp
      go_simp
      exact hK _ _ ⟨fun _ h => Option.some.inj h, fun _ h => no_some h⟩ hS (eby rfl (Below.refl _ _))
    · intro a u hS hr K hK
      obtain ⟨⟨vl0, e0, g0⟩, -⟩ := hr
      obtain rfl := g0.1 _ rfl
      clear g0
      rw [if_pos (want_none rfl)]
      have d2 := hS.es.row.at_ (k := 2) rfl
      unfold Oper.wp
      go_simp
      exact hK _ _ ⟨fun _ h => Option.some.inj h, fun _ h => no_some h⟩ hS (eby rfl (Below.refl _ _))
    · intro a u hS hr K hK
      obtain ⟨⟨vl0, e0, g0⟩, -⟩ := hr
      obtain rfl := g0.1 _ rfl
      clear g0
      rw [if_pos (want_none rfl)]
      unfold Oper.wp
      go_simp
      exact hK _ _ ⟨fun _ h => Option.some.inj h, fun _ h => no_some h⟩ hS (eby rfl (Below.refl _ _))
    · intro a u hS hr K hK
      obtain ⟨⟨vl0, e0, g0⟩, ⟨vl1, e1, g1⟩, -⟩ := hr
      obtain rfl := g0.1 _ rfl
      clear g0
      obtain rfl := g1.1 _ rfl
      clear g1
      rw [if_pos (want_none rfl)]
      unfold Oper.wp
      go_simp
      exact hK _ _ ⟨fun _ h => Option.some.inj h, fun _ h => no_some h⟩ hS (eby rfl (Below.refl _ _))
    · intro a u hS hr K hK
      obtain ⟨⟨vl0, e0, g0⟩, -⟩ := hr
      obtain rfl := g0.1 _ rfl
      clear g0
      rw [if_pos (want_none rfl)]
      unfold Oper.wp
      go_simp
      exact hK _ _ ⟨fun _ h => Option.some.inj h, fun _ h => no_some h⟩ hS (eby rfl (Below.refl _ _))
    · intro a u hS hr K hK
      obtain ⟨⟨vl0, e0, g0⟩, -⟩ := hr
      obtain rfl := g0.1 _ rfl
      clear g0
      rw [if_pos (want_none rfl)]
      have d9 := (last_cells HK.out hS.es.walks).1
      unfold Oper.wp
      go_simp
      exact hK _ _ ⟨fun _ h => Option.some.inj h, fun _ h => no_some h⟩ hS (eby rfl (Below.refl _ _))
  intro a u hS hts hd hkn hf
  obtain ⟨v9, e9, g9⟩ := hf 0 _ 9 (by decide) rfl rfl (fun _ => rfl)
  obtain ⟨v10, e10, g10⟩ := hf 1 _ 10 (by decide) rfl rfl (fun _ => rfl)
  obtain ⟨v11, e11, g11⟩ := hf 2 _ 11 (by decide) rfl rfl (fun _ => rfl)
  obtain ⟨v12, e12, g12⟩ := hf 3 _ 12 (by decide) rfl rfl (fun _ => rfl)
  obtain ⟨v13, e13, g13⟩ := hf 4 _ 13 (by decide) rfl rfl (fun _ => rfl)
  obtain ⟨v14, e14, g14⟩ := hf 5 _ 14 (by decide) rfl rfl (fun _ => rfl)
  obtain ⟨v15, e15, g15⟩ := hf 6 _ 15 (by decide) rfl rfl (fun _ => rfl)
  obtain ⟨v16, e16, g16⟩ := hf 7 _ 16 (by decide) rfl rfl (fun _ => rfl)
  obtain ⟨v17, e17, g17⟩ := hf 8 _ 17 (by decide) rfl rfl (fun _ => rfl)
  obtain ⟨v18, e18, g18⟩ := hf 9 _ 18 (by decide) rfl rfl (fun _ => rfl)
  obtain ⟨v19, e19, g19⟩ := hf 10 _ 19 (by decide) rfl rfl (fun _ => rfl)
  obtain ⟨v20, e20, g20⟩ := hf 11 _ 20 (by decide) rfl rfl (fun _ => rfl)
  have hA := act_puts [(9, v9), (10, v10), (11, v11), (12, v12), (13, v13), (14, v14), (15, v15), (16, v16), (17, v17), (18, v18), (19, v19), (20, v20)] hts hd hkn (by kernel_rfl) (by simp [e9, e10, e11, e12, e13, e14, e15, e16, e17, e18, e19, e20])
  clear hf hts hd hkn e9 e10 e11 e12 e13 e14 e15 e16 e17 e18 e19 e20
  obtain rfl := g9.1 _ rfl
  clear g9
  obtain rfl := g10.1 _ rfl
  clear g10
  obtain rfl := g11.1 _ rfl
  clear g11
  obtain rfl := g12.1 _ rfl
  clear g12
  obtain rfl := g13.1 _ rfl
  clear g13
  obtain rfl := g14.1 _ rfl
  clear g14
  obtain rfl := g15.1 _ rfl
  clear g15
  obtain rfl := g16.1 _ rfl
  clear g16
  obtain rfl := g17.1 _ rfl
  clear g17
  obtain rfl := g18.1 _ rfl
  clear g18
  obtain rfl := g19.1 _ rfl
  clear g19
  obtain rfl := g20.1 _ rfl
  clear g20
  subst hA
  simp only [List.foldl, List.setIfInBounds_toArray, List.set_cons_zero, List.set_cons_succ]
  simp only [List.drop_succ_cons, List.drop_zero]
  have MO := hS.es.opn
  go_upto_region 2 with (at_delete; refine wp_mdel 45 93 rfl rfl Try.underlying45 bo no g rfl MO e.nm rfl hs ?_; intro w2 M2 T2; have h2 := hS.es.setOpen T2 M2; have b2 := (hS.bel.mono HH.out.size).trans (turned_below T2 HH.out.ho))
  obtain ⟨d0, d1, d2, d3, d4⟩ := h2.cells
  have ht := h2.row.thawed
  have hcut : w2.ownsRow B 69 2 (.slice (some ⟨gw, 0, none⟩) k cw) wl.length (wksC wl) := by
    have h3 := h2.walks
    rw [List.length_append, List.length_singleton, HK.out] at h3
    have h4 := own_cutS h3 (Nat.le_succ k)
    rw [← HK.out] at h4 ⊢
    rw [wksC_take] at h4
    exact h4
  have HE := hidd (h2.setWalks (u := w2) ⟨rfl, rfl, rfl, Nat.le_refl _, fun _ _ _ => rfl⟩ hcut)
  have HB := hidd (bel_set b2 ⟨b, 2, none⟩ (.slice (some ⟨gw, 0, none⟩) k cw) h2.hb)
  clear hcut h2 b2 M2 T2 MO hS h HH
  go_wp2
  go_end0
  exact ⟨rfl, HB.out, _, HE.out⟩
end Lv

/-- What becomes of a node. -/
def TakeR (B : Nat) (w : World) (b bt bo nt : Nat) (f : ByteArray → Option Value) (wv nv rv : Value) (wl : List WkE) (l : List NR) (rt : List Nat) (er : Int) (e : Ending) (w' : World) : Prop := e = .returned (.int .i64 er) ∧ Below B w w'
section
variable {B : Nat} {w : World} {b bt bo nt no : Nat} {f g : ByteArray → Option Value} {wv nv rv : Value} {wl : List WkE} {l : List NR} {rt : List Nat}
set_option maxHeartbeats 400000 in
/-- A name: as enter tells. -/
theorem take_ref (h : ES B w b bt bo nt no f g wv nv rv wl l rt) (x : Gd) (A : Option Addr) (c : Nat) (h6 : x.op = 6) {R : Ending → World → Prop}
    (hE : ∀ u, Below w.heap.size w u → Calls Try.prog 55 #[.pointer (some ⟨b, 0, none⟩), .string x.nm] u fun e w' => ∃ er : Int, e = .returned (.int .i64 er) ∧ R (.returned (.int .i64 er)) w') :
    Calls Try.prog 36 #[.pointer (some ⟨b, 0, none⟩), .agg (gdL x A c).toArray] w R := by
  obtain ⟨d0, d1, d2, d3, d4⟩ := h.cells
  have hq := RowA.new w 41 (gdL x A c).toArray
  have hbq : Below w.heap.size w (w.alloc (.cells (gdL x A c).toArray 41)) := (Below.refl w.heap.size w).alloc (Nat.le_refl _) _
  have h1 := h.below hbq
  have hBw := h.size
  obtain ⟨e0, e1, e2, e3, e4, e5, e6, e7, e8⟩ := node_cells hq
  have hE1 := hE _ hbq
  clear h hE h1 hq hbq
  unfold gdL at hE1 e0 e1 e2 e3 e4 e5 e6 e7 e8 ⊢
  rw [h6] at hE1 e0 e1 e2 e3 e4 e5 e6 e7 e8 ⊢
  go_enter Try.func36, Try.ntmps36
  go_wp2_with fail
  refine hE1.mono ?_
  rintro e w2 ⟨er, rfl, hR⟩
  have HR := hidd hR
  clear hR hE1
  go_wp2
  exact HR.out
set_option maxHeartbeats 400000 in
/-- Any other node: as put tells. -/
theorem take_put (h : ES B w b bt bo nt no f g wv nv rv wl l rt) (x : Gd) (A : Option Addr) (c : Nat) (h6 : x.op ≠ 6) {R : Ending → World → Prop}
    (hE : ∀ u, Below w.heap.size w u → Calls Try.prog 56 #[.pointer (some ⟨b, 0, none⟩), .agg (gdL x A c).toArray] u fun e w' => ∃ er : Int, e = .returned (.int .i64 er) ∧ R (.returned (.int .i64 er)) w') :
    Calls Try.prog 36 #[.pointer (some ⟨b, 0, none⟩), .agg (gdL x A c).toArray] w R := by
  obtain ⟨d0, d1, d2, d3, d4⟩ := h.cells
  have hq := RowA.new w 41 (gdL x A c).toArray
  have hbq : Below w.heap.size w (w.alloc (.cells (gdL x A c).toArray 41)) := (Below.refl w.heap.size w).alloc (Nat.le_refl _) _
  have h1 := h.below hbq
  have hBw := h.size
  obtain ⟨e0, e1, e2, e3, e4, e5, e6, e7, e8⟩ := node_cells hq
  have hE1 := hE _ hbq
  have h6i : (x.op == 6) = false := beq_eq_false_iff_ne.2 h6
  clear h hE h1 hq hbq h6
  unfold gdL at hE1 e0 e1 e2 e3 e4 e5 e6 e7 e8 ⊢
  go_enter Try.func36, Try.ntmps36
  go_wp2_with fail
  refine hE1.mono ?_
  rintro e w2 ⟨er, rfl, hR⟩
  have HR := hidd hR
  clear hR hE1
  go_wp2
  exact HR.out
end
end Go.Proofs.Ytgppanbikfobbaa.Sy.Ap
