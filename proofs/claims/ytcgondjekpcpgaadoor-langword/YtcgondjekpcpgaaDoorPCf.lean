/- Places that grow: put, only. -/
import Derived.Test.YtcgondjekpcpgaaDoorPCd
namespace Go.Proofs.YtcgondjekpcpgaaDoor.Sy.Lg.Pt
open Go.RowKit Go.Proofs.YtcgondjekpcpgaaDoor.Sy.Ap Go.Proofs.YtcgondjekpcpgaaDoor.Sy.Ap.Wk
set_option maxRecDepth 100000
set_option linter.unusedVariables false

structure PuS (w : World) (q g c : Nat) (x : Int) (u : World) : Prop where
  box : RowA u q 58 #[.int .i64 0, .slice (some ⟨g, 0, none⟩) 1 c]
  wd : u.cell? ⟨g, 0, none⟩ = some (.int .u64 x)
  lt : g < u.heap.size
  bel : Below w.heap.size w u
theorem PuS.below {w : World} {q g c : Nat} {x : Int} {u u' : World} (h : PuS w q g c x u) (hb : Below u.heap.size u u') : PuS w q g c x u' := ⟨h.box.below hb h.box.lt, by rw [hb.cell (by exact h.lt)]; exact h.wd, Nat.lt_of_lt_of_le h.lt hb.size, h.bel.trans (hb.mono h.bel.size)⟩
theorem eby {d : Option Nat} {u u' : World} (_ : true = true) (h : Below u.heap.size u u') : EbL d u u' := h
set_option linter.unusedVariables false in
def PuGV (q g c pl : Nat) (x y z : Int) (t : Nat) : Option Value :=
  match t with
  | 0 => some (.pointer (some ⟨q, 0, none⟩))
  | 1 => some (.int .i64 (pl : Int))
  | 4 => some (.int .i64 0)
  | 12 => some (.pointer (some ⟨q, 0, none⟩))
  | 13 => some (.pointer (some ⟨q, 0, none⟩))
  | 14 => some (.pointer (some ⟨q, 1, none⟩))
  | 15 => some (.slice (some ⟨g, 0, none⟩) 1 c)
  | 16 => some (.int .i64 0)
  | 17 => some (.pointer (some ⟨q, 0, none⟩))
  | 18 => some (.pointer (some ⟨q, 0, none⟩))
  | 19 => some (.pointer (some ⟨q, 0, none⟩))
  | 20 => some (.int .i64 0)
  | 21 => some (.int .i64 0)
  | 22 => some (.pointer (some ⟨g, 0, none⟩))
  | 23 => some (.int .u64 x)
  | 24 => some (.int .i64 (pl : Int))
  | 25 => some (.int .i64 (pl : Int))
  | 26 => some (.int .u64 y)
  | 27 => some (.int .u64 z)
  | 28 => some (.pointer (some ⟨g, 0, none⟩))
  | _ => none
set_option linter.unusedVariables false in
def PuGP (q g c pl : Nat) (x y z : Int) (t : Nat) : Option (Value → World → Prop) :=
  match t with
  | _ => none
def PuG (q g c pl : Nat) (x y z : Int) (t : Nat) (v : Value) (u : World) : Prop := (∀ z9, PuGV q g c pl x y z t = some z9 → v = z9) ∧ ∀ R, PuGP q g c pl x y z t = some R → R v u
theorem own_thawed {u : World} {base n : Nat} {e : TypeId} {sz : Nat} {v : Value} {xs : List Value} {g k : Nat} (h : u.ownsRow base e sz v n xs) (hv : v.ownBlock = some g) : u.frozen? ⟨g, k, none⟩ = false := by
  obtain ⟨cur, hc⟩ := own_blk h hv
  simp [World.frozen?, hc]
theorem own_put1 {u : World} {base : Nat} {e : TypeId} {g c : Nat} {x : Value} (h : u.ownsRow base e 1 (.slice (some ⟨g, 0, none⟩) 1 c) 1 [x]) (y : Value) : (u.setCell ⟨g, 0, none⟩ y).ownsRow base e 1 (.slice (some ⟨g, 0, none⟩) 1 c) 1 [y] := by
  obtain ⟨h1, h2⟩ := h
  refine ⟨rfl, ?_⟩
  rcases h2 with ⟨hv, _⟩ | ⟨g1, cap, cur, hv, hb, hh, hc1, hc2, hsz, ht⟩
  · cases hv
  · cases hv
    refine .inr ⟨g, c, cur.setIfInBounds 0 y, rfl, hb, RowA.set hh 0 y, hc1, hc2, by simp [hsz], ?_⟩
    rw [Array.toList_setIfInBounds]
    cases hl : cur.toList with
    | nil =>
      have := congrArg List.length hl
      simp at this
      rw [this] at hsz
      simp at hsz
      omega
    | cons a l => rfl
def PutR (base : Nat) (u : World) (q : Nat) (sv : Value) (p : Nat → Bool) (e : Ending) (u' : World) : Prop :=
  e = .returned (.tuple #[]) ∧ ∃ sv', PB base u' q sv' p ∧ Keeps (Pw q sv) u u' ∧ Lies u sv sv'
set_option maxHeartbeats 2000000 in
theorem put_any (base : Nat) (u : World) (q : Nat) (sv : Value) (p : Nat → Bool) (pl : Nat) (hpl : pl < 64) (h : PB base u q sv p) (hbs : base ≤ u.heap.size) :
    Calls Tryd.prog 50 #[.pointer (some ⟨q, 0, none⟩), .int .i64 (pl : Int)] u fun e u' => PutR base u q sv (addB p pl) e u' := by
  have hst := stretch_any base u q sv p h hbs
  have hdv : Int.tdiv (pl : Int) 64 = 0 := by rw [Int.tdiv_eq_ediv_of_nonneg (by omega)]; omega
  have hmd : Int.tmod (pl : Int) 64 = (pl : Int) := by rw [Int.tmod_eq_emod_of_nonneg (by omega)]; omega
  have HH := hidd h
  clear h
  go_enter Tryd.func50, Tryd.ntmps50
  go_wp2_with fail
  refine hst.mono ?_
  rintro e u1 ⟨rfl, sv', R, O, K, Ls⟩
  obtain ⟨g, c, rfl, hg1, hg2⟩ := own_pos O (by omega)
  have hcell : u1.cell? ⟨g, 0, none⟩ = some (.int .u64 (W p 0)) := by
    have := O.cells (g := g) rfl 0 _ rfl
    rw [addr_addO] at this
    exact this
  have S1 : PuS u1 q g c (W p 0) u1 := ⟨R, hcell, hg2, Below.refl _ _⟩
  have hW := set_W p pl
  rw [show pl / 64 = 0 from by omega, show pl % 64 = pl from by omega] at hW
  have hqg : q ≠ g := fun e => own_neR O R (by decide) (by rw [e]; rfl)
  clear hst
  go_upto_region 2 with fail
  refine wp_region_slotsH 17 (by decide) (by kernel_rfl) (by kernel_rfl) (fun _ _ => true) (PuS u1 q g c (W p 0)) (PuG q g c pl (W p 0) (IntKind.u64.wrap (2 ^ pl)) (W (addB p pl) 0)) EbL (by kernel_rfl) (by kernel_rfl) (by kernel_rfl) (by kernel_rfl) ?_ (S1.below (bel_drew (Below.refl _ _))) [0, 1, 4] (by kernel_rfl) ?_ ?_ ?_
  · intro t dd v u u' _ _ h hE
    refine ⟨h.1, fun R hR => ?_⟩
    unfold PuGP at hR
    cases hR
  · intro u _
    refine ⟨⟨_, rfl, ?_⟩, ⟨_, rfl, ?_⟩, ⟨_, rfl, ?_⟩, trivial⟩ <;> exact ⟨fun _ h => Option.some.inj h, fun _ h => no_some h⟩
  · refine ⟨?_, ?_, ?_, ?_, ?_, ?_, ?_, ?_, ?_, ?_, ?_, ?_, ?_, ?_, ?_, ?_, ?_, trivial⟩
    · intro a u hS hr K hK
      obtain ⟨⟨vl0, e0, g0⟩, -⟩ := hr
      obtain rfl := g0.1 _ rfl
      clear g0
      rw [if_pos (want_none rfl)]
      unfold Oper.wp
      go_simp
      exact hK _ _ ⟨fun _ h => Option.some.inj h, fun _ h => no_some h⟩ hS (eby rfl (Below.refl _ _))
    · intro a u hS hr K hK
      obtain ⟨⟨vl0, e0, g0⟩, -⟩ := hr
      obtain rfl := g0.1 _ rfl
      clear g0
      rw [if_pos (want_none rfl)]
      unfold Oper.wp
      go_simp
      exact hK _ _ ⟨fun _ h => Option.some.inj h, fun _ h => no_some h⟩ hS (eby rfl (Below.refl _ _))
    · intro a u hS hr K hK
      obtain ⟨⟨vl0, e0, g0⟩, -⟩ := hr
      obtain rfl := g0.1 _ rfl
      clear g0
      rw [if_pos (want_none rfl)]
      unfold Oper.wp
      go_simp
      exact hK _ _ ⟨fun _ h => Option.some.inj h, fun _ h => no_some h⟩ hS (eby rfl (Below.refl _ _))
    · intro a u hS hr K hK
      obtain ⟨⟨vl0, e0, g0⟩, -⟩ := hr
      obtain rfl := g0.1 _ rfl
      clear g0
      rw [if_pos (want_none rfl)]
      have d1 := hS.box.at_ (k := 1) rfl
      unfold Oper.wp
      go_simp
      exact hK _ _ ⟨fun _ h => Option.some.inj h, fun _ h => no_some h⟩ hS (eby rfl (Below.refl _ _))
    · intro a u hS hr K hK
      obtain ⟨⟨vl0, e0, g0⟩, -⟩ := hr
      obtain rfl := g0.1 _ rfl
      clear g0
      rw [if_pos (want_none rfl)]
      unfold Oper.wp
      go_simp
      exact hK _ _ ⟨fun _ h => Option.some.inj h, fun _ h => no_some h⟩ hS (eby rfl (Below.refl _ _))
    · intro a u hS hr K hK
      obtain ⟨⟨vl0, e0, g0⟩, -⟩ := hr
      obtain rfl := g0.1 _ rfl
      clear g0
      rw [if_pos (want_none rfl)]
      unfold Oper.wp
      go_simp
      exact hK _ _ ⟨fun _ h => Option.some.inj h, fun _ h => no_some h⟩ hS (eby rfl (Below.refl _ _))
    · intro a u hS hr K hK
      obtain ⟨⟨vl0, e0, g0⟩, -⟩ := hr
      obtain rfl := g0.1 _ rfl
      clear g0
      rw [if_pos (want_none rfl)]
      unfold Oper.wp
      go_simp
      exact hK _ _ ⟨fun _ h => Option.some.inj h, fun _ h => no_some h⟩ hS (eby rfl (Below.refl _ _))
    · intro a u hS hr K hK
      obtain ⟨⟨vl0, e0, g0⟩, -⟩ := hr
      obtain rfl := g0.1 _ rfl
      clear g0
      rw [if_pos (want_none rfl)]
      unfold Oper.wp
      go_simp
      exact hK _ _ ⟨fun _ h => Option.some.inj h, fun _ h => no_some h⟩ hS (eby rfl (Below.refl _ _))
    · intro a u hS hr K hK
      obtain ⟨⟨vl0, e0, g0⟩, -⟩ := hr
      obtain rfl := g0.1 _ rfl
      clear g0
      rw [if_pos (want_none rfl)]
      have d0 := hS.box.at_ (k := 0) rfl
      unfold Oper.wp
      go_simp
      exact hK _ _ ⟨fun _ h => Option.some.inj h, fun _ h => no_some h⟩ hS (eby rfl (Below.refl _ _))
    · intro a u hS hr K hK
      obtain ⟨⟨vl0, e0, g0⟩, ⟨vl1, e1, g1⟩, -⟩ := hr
      obtain rfl := g0.1 _ rfl
      clear g0
      obtain rfl := g1.1 _ rfl
      clear g1
      rw [if_pos (want_none rfl)]
      unfold Oper.wp
      go_simp
      exact hK _ _ ⟨fun _ h => Option.some.inj h, fun _ h => no_some h⟩ hS (eby rfl (Below.refl _ _))
    · intro a u hS hr K hK
      obtain ⟨⟨vl0, e0, g0⟩, ⟨vl1, e1, g1⟩, -⟩ := hr
      obtain rfl := g0.1 _ rfl
      clear g0
      obtain rfl := g1.1 _ rfl
      clear g1
      rw [if_pos (want_none rfl)]
      unfold Oper.wp
      go_simp
      exact hK _ _ ⟨fun _ h => Option.some.inj h, fun _ h => no_some h⟩ hS (eby rfl (Below.refl _ _))
    · intro a u hS hr K hK
      obtain ⟨⟨vl0, e0, g0⟩, -⟩ := hr
      obtain rfl := g0.1 _ rfl
      clear g0
      rw [if_pos (want_none rfl)]
      have d2 := hS.wd
      unfold Oper.wp
      go_simp
      exact hK _ _ ⟨fun _ h => Option.some.inj h, fun _ h => no_some h⟩ hS (eby rfl (Below.refl _ _))
    · intro a u hS hr K hK
      obtain ⟨⟨vl0, e0, g0⟩, -⟩ := hr
      obtain rfl := g0.1 _ rfl
      clear g0
      rw [if_pos (want_none rfl)]
      unfold Oper.wp
      go_simp
      exact hK _ _ ⟨fun _ h => Option.some.inj h, fun _ h => no_some h⟩ hS (eby rfl (Below.refl _ _))
    · intro a u hS hr K hK
      obtain ⟨⟨vl0, e0, g0⟩, -⟩ := hr
      obtain rfl := g0.1 _ rfl
      clear g0
      rw [if_pos (want_none rfl)]
      unfold Oper.wp
      go_simp
      exact hK _ _ ⟨fun _ h => Option.some.inj h, fun _ h => no_some h⟩ hS (eby rfl (Below.refl _ _))
    · intro a u hS hr K hK
      obtain ⟨⟨vl0, e0, g0⟩, -⟩ := hr
      obtain rfl := g0.1 _ rfl
      clear g0
      rw [if_pos (want_none rfl)]
      unfold Oper.wp
      go_simp
      exact hK _ _ ⟨fun _ h => Option.some.inj h, fun _ h => no_some h⟩ hS (eby rfl (Below.refl _ _))
    · intro a u hS hr K hK
      obtain ⟨⟨vl0, e0, g0⟩, ⟨vl1, e1, g1⟩, -⟩ := hr
      obtain rfl := g0.1 _ rfl
      clear g0
      obtain rfl := g1.1 _ rfl
      clear g1
      rw [if_pos (want_none rfl)]
      unfold Oper.wp
      go_simp
      exact hK _ _ ⟨fun _ h => Option.some.inj h, fun _ h => no_some h⟩ hS (eby rfl (Below.refl _ _))
    · intro a u hS hr K hK
      obtain ⟨⟨vl0, e0, g0⟩, ⟨vl1, e1, g1⟩, -⟩ := hr
      obtain rfl := g0.1 _ rfl
      clear g0
      obtain rfl := g1.1 _ rfl
      clear g1
      rw [if_pos (want_none rfl)]
      unfold Oper.wp
      go_simp
      exact hK _ _ ⟨fun _ h => Option.some.inj h, fun _ h => no_some h⟩ hS (eby rfl (Below.refl _ _))
  intro a u2 hS2 hts hd hkn hf
  obtain ⟨v12, e12, g12⟩ := hf 0 _ 12 (by decide) rfl rfl (fun _ => rfl)
  obtain ⟨v13, e13, g13⟩ := hf 1 _ 13 (by decide) rfl rfl (fun _ => rfl)
  obtain ⟨v14, e14, g14⟩ := hf 2 _ 14 (by decide) rfl rfl (fun _ => rfl)
  obtain ⟨v15, e15, g15⟩ := hf 3 _ 15 (by decide) rfl rfl (fun _ => rfl)
  obtain ⟨v16, e16, g16⟩ := hf 4 _ 16 (by decide) rfl rfl (fun _ => rfl)
  obtain ⟨v17, e17, g17⟩ := hf 5 _ 17 (by decide) rfl rfl (fun _ => rfl)
  obtain ⟨v18, e18, g18⟩ := hf 6 _ 18 (by decide) rfl rfl (fun _ => rfl)
  obtain ⟨v19, e19, g19⟩ := hf 7 _ 19 (by decide) rfl rfl (fun _ => rfl)
  obtain ⟨v20, e20, g20⟩ := hf 8 _ 20 (by decide) rfl rfl (fun _ => rfl)
  obtain ⟨v21, e21, g21⟩ := hf 9 _ 21 (by decide) rfl rfl (fun _ => rfl)
  obtain ⟨v22, e22, g22⟩ := hf 10 _ 22 (by decide) rfl rfl (fun _ => rfl)
  obtain ⟨v23, e23, g23⟩ := hf 11 _ 23 (by decide) rfl rfl (fun _ => rfl)
  obtain ⟨v24, e24, g24⟩ := hf 12 _ 24 (by decide) rfl rfl (fun _ => rfl)
  obtain ⟨v25, e25, g25⟩ := hf 13 _ 25 (by decide) rfl rfl (fun _ => rfl)
  obtain ⟨v26, e26, g26⟩ := hf 14 _ 26 (by decide) rfl rfl (fun _ => rfl)
  obtain ⟨v27, e27, g27⟩ := hf 15 _ 27 (by decide) rfl rfl (fun _ => rfl)
  obtain ⟨v28, e28, g28⟩ := hf 16 _ 28 (by decide) rfl rfl (fun _ => rfl)
  have hA := act_putsH [(12, v12), (13, v13), (14, v14), (15, v15), (16, v16), (17, v17), (18, v18), (19, v19), (20, v20), (21, v21), (22, v22), (23, v23), (24, v24), (25, v25), (26, v26), (27, v27), (28, v28)] hts hd hkn (by kernel_rfl) (by simp [e12, e13, e14, e15, e16, e17, e18, e19, e20, e21, e22, e23, e24, e25, e26, e27, e28])
  clear hf hts hd hkn e12 e13 e14 e15 e16 e17 e18 e19 e20 e21 e22 e23 e24 e25 e26 e27 e28
  obtain rfl := g12.1 _ rfl
  clear g12
  obtain rfl := g13.1 _ rfl
  clear g13
  obtain rfl := g14.1 _ rfl
  clear g14
  obtain rfl := g15.1 _ rfl
  clear g15
  obtain rfl := g16.1 _ rfl
  clear g16
  obtain rfl := g17.1 _ rfl
  clear g17
  obtain rfl := g18.1 _ rfl
  clear g18
  obtain rfl := g19.1 _ rfl
  clear g19
  obtain rfl := g20.1 _ rfl
  clear g20
  obtain rfl := g21.1 _ rfl
  clear g21
  obtain rfl := g22.1 _ rfl
  clear g22
  obtain rfl := g23.1 _ rfl
  clear g23
  obtain rfl := g24.1 _ rfl
  clear g24
  obtain rfl := g25.1 _ rfl
  clear g25
  obtain rfl := g26.1 _ rfl
  clear g26
  obtain rfl := g27.1 _ rfl
  clear g27
  obtain rfl := g28.1 _ rfl
  clear g28
  subst hA
  simp only [List.foldl, List.setIfInBounds_toArray, List.set_cons_zero, List.set_cons_succ]
  simp only [List.drop_succ_cons, List.drop_zero]
  have O2 := own_below O hS2.bel (Nat.le_refl _)
  have w2 := hS2.wd
  have tg : u2.frozen? ⟨g, 0, none⟩ = false := own_thawed O2 rfl
  have R2 := hS2.box
  have HFIN : Hid (PutR base u q sv (addB p pl) (.returned (.tuple #[])) (u2.setCell ⟨g, 0, none⟩ (.int .u64 (W (addB p pl) 0)))) := by
    refine ⟨rfl, .slice (some ⟨g, 0, none⟩) 1 c, ⟨R2.far (a := ⟨g, 0, none⟩) hqg _, fun i hi => ?_, .inr ⟨⟨pl, by simp [addB]⟩, own_put1 O2 _⟩⟩, ?_, Ls⟩
    · unfold addB at hi
      rw [Bool.or_eq_true] at hi
      rcases hi with hi | hi
      · exact HH.out.2.1 i hi
      · have : i = pl := by simpa using hi
        omega
    · refine keeps_set (K.trans (Keeps.of_below (P := Pw q sv) hS2.bel) (fun k _ h => h)) _ _ ?_
      rcases Ls with h | ⟨k, h, h2⟩
      · exact .inl (.inr h.symm)
      · have e : g = k := Option.some.inj h
        subst e
        exact .inr h2
  clear O2 R2 hS2 S1 K Ls O R
  go_wp2
  go_end0
  exact HFIN.out
end Go.Proofs.YtcgondjekpcpgaaDoor.Sy.Lg.Pt

namespace Go.Proofs.YtcgondjekpcpgaaDoor.Sy.Lg
open Go.RowKit Go.Proofs.YtcgondjekpcpgaaDoor.Sy.Ap Go.Proofs.YtcgondjekpcpgaaDoor.Sy.Ap.Wk
set_option maxRecDepth 100000
set_option linter.unusedVariables false

theorem pl_info (x y : Value) : (Tryd.prog.info? 58).map (·.size) = some (#[x, y] : Array Value).size := by
  show _ = some 2
  kernel_rfl
theorem pl_range {w : World} {g : Nat} {x y : Value} (r : RowA w g 58 #[x, y]) : w.rangeAt g 0 [x, y] := range_row r
theorem ret_places {fn : Func} {R : Ending → World → Prop} {a : Act} {w : World} {t b : Nat} {x y : Value} (hr : fn.results = #[.cell t 58]) (ht : a.tmps.getD t undef = .pointer (some ⟨b, 0, none⟩))
    (h : RowA w b 58 #[x, y]) (hd : a.defers = []) (hR : R (.returned (.agg #[x, y])) w) : bodyPost Tryd.prog fn R .ret a w :=
  bodyPost_ret (v := .agg #[x, y]) (results_cell_row hr a.tmps w b 58 #[x, y] (0, 0) _ ht h Tryd.underlying58 rfl (pl_info x y)) hd hR
theorem plB_own {x sv : Value} {b : Nat} (h : plB (.agg #[x, sv]) = some b) : sv.ownBlock = some b := h
theorem ones2 {x sv : Value} (hx : x.oneCell' = true) (h : sv.oneCell' = true) : (#[x, sv] : Array Value).all (·.oneCell') = true := by
  rw [← Array.all_toList]
  show (x.oneCell' && (sv.oneCell' && true)) = true
  rw [hx, h]
  rfl
/-- What only and its like tell: new places. -/
def NewP (u : World) (p : Nat → Bool) (e : Ending) (u' : World) : Prop := Below u.heap.size u u' ∧ ∃ v, e = .returned v ∧ Pl u' v p ∧ ∀ b, plB v = some b → u.heap.size ≤ b
set_option maxHeartbeats 1000000 in
theorem only_any (pl : Nat) (hpl : pl < 64) (u : World) : Calls Tryd.prog 32 #[.int .i64 (pl : Int)] u fun e u' => NewP u (oneB pl) e u' := by
  have R2 := RowA.new u 58 #[.int .i64 0, .slice none 0 0]
  have hs : (u.alloc (.cells #[.int .i64 0, .slice none 0 0] 58)).heap.size = u.heap.size + 1 := World.size_alloc ..
  have R3 := RowA.new (u.alloc (.cells #[.int .i64 0, .slice none 0 0] 58)) 58 #[.int .i64 0, .slice none 0 0]
  rw [hs] at R3
  have R2' := R2.alloc (.cells #[.int .i64 0, .slice none 0 0] 58)
  have B2 : Below u.heap.size u ((u.alloc (.cells #[.int .i64 0, .slice none 0 0] 58)).alloc (.cells #[.int .i64 0, .slice none 0 0] 58)) := ((Below.refl _ _).alloc (Nat.le_refl _) _).alloc (by omega) _
  have hpb : PB u.heap.size ((u.alloc (.cells #[.int .i64 0, .slice none 0 0] 58)).alloc (.cells #[.int .i64 0, .slice none 0 0] 58)) (u.heap.size + 1) (.slice none 0 0) noB := ⟨R3, (fun i h => by cases h), .inl ⟨rfl, fun i => rfl⟩⟩
  have hput := Pt.put_any u.heap.size _ _ _ _ pl hpl hpb (by simp; omega)
  have HB2 := hidd B2
  have HR2 := hidd R2'
  clear R2 R3 R2' B2 hpb hs
  go_enter Tryd.func32, Tryd.ntmps32
  go_wp2_with fail
  refine hput.mono ?_
  rintro e u3 ⟨rfl, sv, P3, K3, L3⟩
  have R3 := P3.1
  have Rr : RowA u3 u.heap.size 58 #[.int .i64 0, .slice none 0 0] := row_keeps HR2.out K3 (by
    rintro (e | e)
    · omega
    · cases e)
  have hone : sv.oneCell' = true := by
    rcases P3.2.2 with ⟨h, _⟩ | ⟨_, h⟩
    · rw [h]; rfl
    · obtain ⟨A, c, h2⟩ := own_form h
      rw [h2]; rfl
  have rr := pl_range R3
  have hpl2 := P3.pl
  have hfar : ∀ b, plB (.agg #[.int .i64 0, sv]) = some b → u.heap.size + 2 ≤ b := fun b hb => by
    rcases L3 with h | ⟨k, h, hk⟩
    · rw [plB_own hb] at h
      cases h
    · rw [plB_own hb] at h
      cases h
      simp at hk
      omega
  have K3b := K3.below (B := u.heap.size) (by simp; omega) (fun k hk => by
    rcases hk with e | e
    · omega
    · cases e)
  have HFIN : Hid (NewP u (oneB pl) (.returned (.agg #[.int .i64 0, sv])) (u3.setRow u.heap.size #[.int .i64 0, sv])) := by
    refine ⟨bel_setRow (HB2.out.trans K3b) _ _ (Nat.le_refl _), _, rfl, ?_, fun b hb => by have := hfar b hb; omega⟩
    rw [show oneB pl = addB noB pl from by funext x; simp [oneB, addB, noB]]
    refine hpl2.keep (by simp [World.setRow]) fun b hb => setRow_other u3 u.heap.size b _ (by have := hfar b hb; omega)
  have HRF := hidd (Rr.row #[.int .i64 0, sv])
  clear hput P3 K3 L3 hpl2 hfar K3b
  go_wp2_with (first
    | refine wpList_load_mid rfl 58 (.tmp 3) rfl (u.heap.size + 1) 0 rfl [.int .i64 0, sv] _ rr Tryd.underlying58 rfl (pl_info _ _) ?_
    | refine wpList_store_row rfl 58 (.tmp 2) (.tmp 6) rfl u.heap.size #[.int .i64 0, sv] rfl rfl 58 #[.int .i64 0, .slice none 0 0] Rr (pl_info _ _) rfl (ones2 rfl hone) ?_)
  exact ret_places Tryd.results32 rfl HRF.out rfl HFIN.out
end Go.Proofs.YtcgondjekpcpgaaDoor.Sy.Lg
