/- Texts laid as one: Ce Cf Cg Ch Ci Cj Ck. -/
import Derived.Test.YtcidimjjclanmaaDoorCd
import Derived.Lib.SliceRun

/- Places that grow: put, only. -/
namespace Go.Proofs.YtcidimjjclanmaaDoor.Sy.Lg.Pt
open Go.RowKit Go.Proofs.YtcidimjjclanmaaDoor.Sy.Ap Go.Proofs.YtcidimjjclanmaaDoor.Sy.Ap.Wk
set_option maxRecDepth 100000
set_option linter.unusedVariables false

structure PuS (w : World) (q g c : Nat) (x : Int) (u : World) : Prop where
  box : RowA u q 58 #[.int .i64 0, .slice (some ⟨g, 0, none⟩) 1 c]
  wd : u.cell? ⟨g, 0, none⟩ = some (.int .u64 x)
  lt : g < u.heap.size
  bel : Below w.heap.size w u
theorem PuS.below {w : World} {q g c : Nat} {x : Int} {u u' : World} (h : PuS w q g c x u) (hb : Below u.heap.size u u') : PuS w q g c x u' := ⟨h.box.below hb h.box.lt, by rw [hb.cell (by exact h.lt)]; exact h.wd, Nat.lt_of_lt_of_le h.lt hb.size, h.bel.trans (hb.mono h.bel.size)⟩
theorem eby {d : Option Nat} {u u' : World} (_ : true = true) (h : Below u.heap.size u u') : EbL d u u' := h
set_option linter.unusedVariables false in
def PuGV (q g c pl : Nat) (x y z : Int) (t : Nat) : Option Value :=
  match t with
  | 0 => some (.pointer (some ⟨q, 0, none⟩))
  | 1 => some (.int .i64 (pl : Int))
  | 4 => some (.int .i64 0)
  | 12 => some (.pointer (some ⟨q, 0, none⟩))
  | 13 => some (.pointer (some ⟨q, 0, none⟩))
  | 14 => some (.pointer (some ⟨q, 1, none⟩))
  | 15 => some (.slice (some ⟨g, 0, none⟩) 1 c)
  | 16 => some (.int .i64 0)
  | 17 => some (.pointer (some ⟨q, 0, none⟩))
  | 18 => some (.pointer (some ⟨q, 0, none⟩))
  | 19 => some (.pointer (some ⟨q, 0, none⟩))
  | 20 => some (.int .i64 0)
  | 21 => some (.int .i64 0)
  | 22 => some (.pointer (some ⟨g, 0, none⟩))
  | 23 => some (.int .u64 x)
  | 24 => some (.int .i64 (pl : Int))
  | 25 => some (.int .i64 (pl : Int))
  | 26 => some (.int .u64 y)
  | 27 => some (.int .u64 z)
  | 28 => some (.pointer (some ⟨g, 0, none⟩))
  | _ => none
set_option linter.unusedVariables false in
def PuGP (q g c pl : Nat) (x y z : Int) (t : Nat) : Option (Value → World → Prop) :=
  match t with
  | _ => none
def PuG (q g c pl : Nat) (x y z : Int) (t : Nat) (v : Value) (u : World) : Prop := (∀ z9, PuGV q g c pl x y z t = some z9 → v = z9) ∧ ∀ R, PuGP q g c pl x y z t = some R → R v u
theorem own_thawed {u : World} {base n : Nat} {e : TypeId} {sz : Nat} {v : Value} {xs : List Value} {g k : Nat} (h : u.ownsRow base e sz v n xs) (hv : v.ownBlock = some g) : u.frozen? ⟨g, k, none⟩ = false := by
  obtain ⟨cur, hc⟩ := own_blk h hv
  simp [World.frozen?, hc]
theorem own_put1 {u : World} {base : Nat} {e : TypeId} {g c : Nat} {x : Value} (h : u.ownsRow base e 1 (.slice (some ⟨g, 0, none⟩) 1 c) 1 [x]) (y : Value) : (u.setCell ⟨g, 0, none⟩ y).ownsRow base e 1 (.slice (some ⟨g, 0, none⟩) 1 c) 1 [y] := by
  obtain ⟨h1, h2⟩ := h
  refine ⟨rfl, ?_⟩
  rcases h2 with ⟨hv, _⟩ | ⟨g1, cap, cur, hv, hb, hh, hc1, hc2, hsz, ht⟩
  · cases hv
  · cases hv
    refine .inr ⟨g, c, cur.setIfInBounds 0 y, rfl, hb, RowA.set hh 0 y, hc1, hc2, by simp [hsz], ?_⟩
    rw [Array.toList_setIfInBounds]
    cases hl : cur.toList with
    | nil =>
      have := congrArg List.length hl
      simp at this
      rw [this] at hsz
      simp at hsz
      omega
    | cons a l => rfl
def PutR (base : Nat) (u : World) (q : Nat) (sv : Value) (p : Nat → Bool) (e : Ending) (u' : World) : Prop :=
  e = .returned (.tuple #[]) ∧ ∃ sv', PB base u' q sv' p ∧ Keeps (Pw q sv) u u' ∧ Lies u sv sv'
set_option maxHeartbeats 2000000 in
theorem put_any (base : Nat) (u : World) (q : Nat) (sv : Value) (p : Nat → Bool) (pl : Nat) (hpl : pl < 64) (h : PB base u q sv p) (hbs : base ≤ u.heap.size) :
    Calls Tryd.prog 50 #[.pointer (some ⟨q, 0, none⟩), .int .i64 (pl : Int)] u fun e u' => PutR base u q sv (addB p pl) e u' := by
  have hst := stretch_any base u q sv p h hbs
  have hdv : Int.tdiv (pl : Int) 64 = 0 := by rw [Int.tdiv_eq_ediv_of_nonneg (by omega)]; omega
  have hmd : Int.tmod (pl : Int) 64 = (pl : Int) := by rw [Int.tmod_eq_emod_of_nonneg (by omega)]; omega
  have HH := hidd h
  clear h
  go_enter Tryd.func50, Tryd.ntmps50
  go_wp2_with fail
  refine hst.mono ?_
  rintro e u1 ⟨rfl, sv', R, O, K, Ls⟩
  obtain ⟨g, c, rfl, hg1, hg2⟩ := own_pos O (by omega)
  have hcell : u1.cell? ⟨g, 0, none⟩ = some (.int .u64 (W p 0)) := by
    have := O.cells (g := g) rfl 0 _ rfl
    rw [addr_addO] at this
    exact this
  have S1 : PuS u1 q g c (W p 0) u1 := ⟨R, hcell, hg2, Below.refl _ _⟩
  have hW := set_W p pl
  rw [show pl / 64 = 0 from by omega, show pl % 64 = pl from by omega] at hW
  have hqg : q ≠ g := fun e => own_neR O R (by decide) (by rw [e]; rfl)
  clear hst
  go_upto_region 2 with fail
  refine wp_region_slotsH 17 (by decide) (by kernel_rfl) (by kernel_rfl) (fun _ _ => true) (PuS u1 q g c (W p 0)) (PuG q g c pl (W p 0) (IntKind.u64.wrap (2 ^ pl)) (W (addB p pl) 0)) EbL (by kernel_rfl) (by kernel_rfl) (by kernel_rfl) (by kernel_rfl) ?_ (S1.below (bel_drew (Below.refl _ _))) [0, 1, 4] (by kernel_rfl) ?_ ?_ ?_
  · intro t dd v u u' _ _ h hE
    refine ⟨h.1, fun R hR => ?_⟩
    unfold PuGP at hR
    cases hR
  · intro u _
    refine ⟨⟨_, rfl, ?_⟩, ⟨_, rfl, ?_⟩, ⟨_, rfl, ?_⟩, trivial⟩ <;> exact ⟨fun _ h => Option.some.inj h, fun _ h => no_some h⟩
  · refine ⟨?_, ?_, ?_, ?_, ?_, ?_, ?_, ?_, ?_, ?_, ?_, ?_, ?_, ?_, ?_, ?_, ?_, trivial⟩
    · intro a u hS hr K hK
      obtain ⟨⟨vl0, e0, g0⟩, -⟩ := hr
      obtain rfl := g0.1 _ rfl
      clear g0
      rw [if_pos (want_none rfl)]
      unfold Oper.wp
      go_simp
      exact hK _ _ ⟨fun _ h => Option.some.inj h, fun _ h => no_some h⟩ hS (eby rfl (Below.refl _ _))
    · intro a u hS hr K hK
      obtain ⟨⟨vl0, e0, g0⟩, -⟩ := hr
      obtain rfl := g0.1 _ rfl
      clear g0
      rw [if_pos (want_none rfl)]
      unfold Oper.wp
      go_simp
      exact hK _ _ ⟨fun _ h => Option.some.inj h, fun _ h => no_some h⟩ hS (eby rfl (Below.refl _ _))
    · intro a u hS hr K hK
      obtain ⟨⟨vl0, e0, g0⟩, -⟩ := hr
      obtain rfl := g0.1 _ rfl
      clear g0
      rw [if_pos (want_none rfl)]
      unfold Oper.wp
      go_simp
      exact hK _ _ ⟨fun _ h => Option.some.inj h, fun _ h => no_some h⟩ hS (eby rfl (Below.refl _ _))
    · intro a u hS hr K hK
      obtain ⟨⟨vl0, e0, g0⟩, -⟩ := hr
      obtain rfl := g0.1 _ rfl
      clear g0
      rw [if_pos (want_none rfl)]
      have d1 := hS.box.at_ (k := 1) rfl
      unfold Oper.wp
      go_simp
      exact hK _ _ ⟨fun _ h => Option.some.inj h, fun _ h => no_some h⟩ hS (eby rfl (Below.refl _ _))
    · intro a u hS hr K hK
      obtain ⟨⟨vl0, e0, g0⟩, -⟩ := hr
      obtain rfl := g0.1 _ rfl
      clear g0
      rw [if_pos (want_none rfl)]
      unfold Oper.wp
      go_simp
      exact hK _ _ ⟨fun _ h => Option.some.inj h, fun _ h => no_some h⟩ hS (eby rfl (Below.refl _ _))
    · intro a u hS hr K hK
      obtain ⟨⟨vl0, e0, g0⟩, -⟩ := hr
      obtain rfl := g0.1 _ rfl
      clear g0
      rw [if_pos (want_none rfl)]
      unfold Oper.wp
      go_simp
      exact hK _ _ ⟨fun _ h => Option.some.inj h, fun _ h => no_some h⟩ hS (eby rfl (Below.refl _ _))
    · intro a u hS hr K hK
      obtain ⟨⟨vl0, e0, g0⟩, -⟩ := hr
      obtain rfl := g0.1 _ rfl
      clear g0
      rw [if_pos (want_none rfl)]
      unfold Oper.wp
      go_simp
      exact hK _ _ ⟨fun _ h => Option.some.inj h, fun _ h => no_some h⟩ hS (eby rfl (Below.refl _ _))
    · intro a u hS hr K hK
      obtain ⟨⟨vl0, e0, g0⟩, -⟩ := hr
      obtain rfl := g0.1 _ rfl
      clear g0
      rw [if_pos (want_none rfl)]
      unfold Oper.wp
      go_simp
      exact hK _ _ ⟨fun _ h => Option.some.inj h, fun _ h => no_some h⟩ hS (eby rfl (Below.refl _ _))
    · intro a u hS hr K hK
      obtain ⟨⟨vl0, e0, g0⟩, -⟩ := hr
      obtain rfl := g0.1 _ rfl
      clear g0
      rw [if_pos (want_none rfl)]
      have d0 := hS.box.at_ (k := 0) rfl
      unfold Oper.wp
      go_simp
      exact hK _ _ ⟨fun _ h => Option.some.inj h, fun _ h => no_some h⟩ hS (eby rfl (Below.refl _ _))
    · intro a u hS hr K hK
      obtain ⟨⟨vl0, e0, g0⟩, ⟨vl1, e1, g1⟩, -⟩ := hr
      obtain rfl := g0.1 _ rfl
      clear g0
      obtain rfl := g1.1 _ rfl
      clear g1
      rw [if_pos (want_none rfl)]
      unfold Oper.wp
      go_simp
      exact hK _ _ ⟨fun _ h => Option.some.inj h, fun _ h => no_some h⟩ hS (eby rfl (Below.refl _ _))
    · intro a u hS hr K hK
      obtain ⟨⟨vl0, e0, g0⟩, ⟨vl1, e1, g1⟩, -⟩ := hr
      obtain rfl := g0.1 _ rfl
      clear g0
      obtain rfl := g1.1 _ rfl
      clear g1
      rw [if_pos (want_none rfl)]
      unfold Oper.wp
      go_simp
      exact hK _ _ ⟨fun _ h => Option.some.inj h, fun _ h => no_some h⟩ hS (eby rfl (Below.refl _ _))
    · intro a u hS hr K hK
      obtain ⟨⟨vl0, e0, g0⟩, -⟩ := hr
      obtain rfl := g0.1 _ rfl
      clear g0
      rw [if_pos (want_none rfl)]
      have d2 := hS.wd
      unfold Oper.wp
      go_simp
      exact hK _ _ ⟨fun _ h => Option.some.inj h, fun _ h => no_some h⟩ hS (eby rfl (Below.refl _ _))
    · intro a u hS hr K hK
      obtain ⟨⟨vl0, e0, g0⟩, -⟩ := hr
      obtain rfl := g0.1 _ rfl
      clear g0
      rw [if_pos (want_none rfl)]
      unfold Oper.wp
      go_simp
      exact hK _ _ ⟨fun _ h => Option.some.inj h, fun _ h => no_some h⟩ hS (eby rfl (Below.refl _ _))
    · intro a u hS hr K hK
      obtain ⟨⟨vl0, e0, g0⟩, -⟩ := hr
      obtain rfl := g0.1 _ rfl
      clear g0
      rw [if_pos (want_none rfl)]
      unfold Oper.wp
      go_simp
      exact hK _ _ ⟨fun _ h => Option.some.inj h, fun _ h => no_some h⟩ hS (eby rfl (Below.refl _ _))
    · intro a u hS hr K hK
      obtain ⟨⟨vl0, e0, g0⟩, -⟩ := hr
      obtain rfl := g0.1 _ rfl
      clear g0
      rw [if_pos (want_none rfl)]
      unfold Oper.wp
      go_simp
      exact hK _ _ ⟨fun _ h => Option.some.inj h, fun _ h => no_some h⟩ hS (eby rfl (Below.refl _ _))
    · intro a u hS hr K hK
      obtain ⟨⟨vl0, e0, g0⟩, ⟨vl1, e1, g1⟩, -⟩ := hr
      obtain rfl := g0.1 _ rfl
      clear g0
      obtain rfl := g1.1 _ rfl
      clear g1
      rw [if_pos (want_none rfl)]
      unfold Oper.wp
      go_simp
      exact hK _ _ ⟨fun _ h => Option.some.inj h, fun _ h => no_some h⟩ hS (eby rfl (Below.refl _ _))
    · intro a u hS hr K hK
      obtain ⟨⟨vl0, e0, g0⟩, ⟨vl1, e1, g1⟩, -⟩ := hr
      obtain rfl := g0.1 _ rfl
      clear g0
      obtain rfl := g1.1 _ rfl
      clear g1
      rw [if_pos (want_none rfl)]
      unfold Oper.wp
      go_simp
      exact hK _ _ ⟨fun _ h => Option.some.inj h, fun _ h => no_some h⟩ hS (eby rfl (Below.refl _ _))
  intro a u2 hS2 hts hd hkn hf
  obtain ⟨v12, e12, g12⟩ := hf 0 _ 12 (by decide) rfl rfl (fun _ => rfl)
  obtain ⟨v13, e13, g13⟩ := hf 1 _ 13 (by decide) rfl rfl (fun _ => rfl)
  obtain ⟨v14, e14, g14⟩ := hf 2 _ 14 (by decide) rfl rfl (fun _ => rfl)
  obtain ⟨v15, e15, g15⟩ := hf 3 _ 15 (by decide) rfl rfl (fun _ => rfl)
  obtain ⟨v16, e16, g16⟩ := hf 4 _ 16 (by decide) rfl rfl (fun _ => rfl)
  obtain ⟨v17, e17, g17⟩ := hf 5 _ 17 (by decide) rfl rfl (fun _ => rfl)
  obtain ⟨v18, e18, g18⟩ := hf 6 _ 18 (by decide) rfl rfl (fun _ => rfl)
  obtain ⟨v19, e19, g19⟩ := hf 7 _ 19 (by decide) rfl rfl (fun _ => rfl)
  obtain ⟨v20, e20, g20⟩ := hf 8 _ 20 (by decide) rfl rfl (fun _ => rfl)
  obtain ⟨v21, e21, g21⟩ := hf 9 _ 21 (by decide) rfl rfl (fun _ => rfl)
  obtain ⟨v22, e22, g22⟩ := hf 10 _ 22 (by decide) rfl rfl (fun _ => rfl)
  obtain ⟨v23, e23, g23⟩ := hf 11 _ 23 (by decide) rfl rfl (fun _ => rfl)
  obtain ⟨v24, e24, g24⟩ := hf 12 _ 24 (by decide) rfl rfl (fun _ => rfl)
  obtain ⟨v25, e25, g25⟩ := hf 13 _ 25 (by decide) rfl rfl (fun _ => rfl)
  obtain ⟨v26, e26, g26⟩ := hf 14 _ 26 (by decide) rfl rfl (fun _ => rfl)
  obtain ⟨v27, e27, g27⟩ := hf 15 _ 27 (by decide) rfl rfl (fun _ => rfl)
  obtain ⟨v28, e28, g28⟩ := hf 16 _ 28 (by decide) rfl rfl (fun _ => rfl)
  have hA := act_putsH [(12, v12), (13, v13), (14, v14), (15, v15), (16, v16), (17, v17), (18, v18), (19, v19), (20, v20), (21, v21), (22, v22), (23, v23), (24, v24), (25, v25), (26, v26), (27, v27), (28, v28)] hts hd hkn (by kernel_rfl) (by simp [e12, e13, e14, e15, e16, e17, e18, e19, e20, e21, e22, e23, e24, e25, e26, e27, e28])
  clear hf hts hd hkn e12 e13 e14 e15 e16 e17 e18 e19 e20 e21 e22 e23 e24 e25 e26 e27 e28
  obtain rfl := g12.1 _ rfl
  clear g12
  obtain rfl := g13.1 _ rfl
  clear g13
  obtain rfl := g14.1 _ rfl
  clear g14
  obtain rfl := g15.1 _ rfl
  clear g15
  obtain rfl := g16.1 _ rfl
  clear g16
  obtain rfl := g17.1 _ rfl
  clear g17
  obtain rfl := g18.1 _ rfl
  clear g18
  obtain rfl := g19.1 _ rfl
  clear g19
  obtain rfl := g20.1 _ rfl
  clear g20
  obtain rfl := g21.1 _ rfl
  clear g21
  obtain rfl := g22.1 _ rfl
  clear g22
  obtain rfl := g23.1 _ rfl
  clear g23
  obtain rfl := g24.1 _ rfl
  clear g24
  obtain rfl := g25.1 _ rfl
  clear g25
  obtain rfl := g26.1 _ rfl
  clear g26
  obtain rfl := g27.1 _ rfl
  clear g27
  obtain rfl := g28.1 _ rfl
  clear g28
  subst hA
  simp only [List.foldl, List.setIfInBounds_toArray, List.set_cons_zero, List.set_cons_succ]
  simp only [List.drop_succ_cons, List.drop_zero]
  have O2 := own_below O hS2.bel (Nat.le_refl _)
  have w2 := hS2.wd
  have tg : u2.frozen? ⟨g, 0, none⟩ = false := own_thawed O2 rfl
  have R2 := hS2.box
  have HFIN : Hid (PutR base u q sv (addB p pl) (.returned (.tuple #[])) (u2.setCell ⟨g, 0, none⟩ (.int .u64 (W (addB p pl) 0)))) := by
    refine ⟨rfl, .slice (some ⟨g, 0, none⟩) 1 c, ⟨R2.far (a := ⟨g, 0, none⟩) hqg _, fun i hi => ?_, .inr ⟨⟨pl, by simp [addB]⟩, own_put1 O2 _⟩⟩, ?_, Ls⟩
    · unfold addB at hi
      rw [Bool.or_eq_true] at hi
      rcases hi with hi | hi
      · exact HH.out.2.1 i hi
      · have : i = pl := by simpa using hi
        omega
    · refine keeps_set (K.trans (Keeps.of_below (P := Pw q sv) hS2.bel) (fun k _ h => h)) _ _ ?_
      rcases Ls with h | ⟨k, h, h2⟩
      · exact .inl (.inr h.symm)
      · have e : g = k := Option.some.inj h
        subst e
        exact .inr h2
  clear O2 R2 hS2 S1 K Ls O R
  go_wp2
  go_end0
  exact HFIN.out
end Go.Proofs.YtcidimjjclanmaaDoor.Sy.Lg.Pt

/- Places: only, copied. -/
namespace Go.Proofs.YtcidimjjclanmaaDoor.Sy.Lg
open Go.RowKit Go.Proofs.YtcidimjjclanmaaDoor.Sy.Ap Go.Proofs.YtcidimjjclanmaaDoor.Sy.Ap.Wk
set_option maxRecDepth 100000
set_option linter.unusedVariables false

theorem pl_info (x y : Value) : (Tryd.prog.info? 58).map (·.size) = some (#[x, y] : Array Value).size := by
  show _ = some 2
  kernel_rfl
theorem pl_range {w : World} {g : Nat} {x y : Value} (r : RowA w g 58 #[x, y]) : w.rangeAt g 0 [x, y] := range_row r
theorem ret_places {fn : Func} {R : Ending → World → Prop} {a : Act} {w : World} {t b : Nat} {x y : Value} (hr : fn.results = #[.cell t 58]) (ht : a.tmps.getD t undef = .pointer (some ⟨b, 0, none⟩))
    (h : RowA w b 58 #[x, y]) (hd : a.defers = []) (hR : R (.returned (.agg #[x, y])) w) : bodyPost Tryd.prog fn R .ret a w :=
  bodyPost_ret (v := .agg #[x, y]) (results_cell_row hr a.tmps w b 58 #[x, y] (0, 0) _ ht h Tryd.underlying58 rfl (pl_info x y)) hd hR
theorem plB_own {x sv : Value} {b : Nat} (h : plB (.agg #[x, sv]) = some b) : sv.ownBlock = some b := h
theorem ones2 {x sv : Value} (hx : x.oneCell' = true) (h : sv.oneCell' = true) : (#[x, sv] : Array Value).all (·.oneCell') = true := by
  rw [← Array.all_toList]
  show (x.oneCell' && (sv.oneCell' && true)) = true
  rw [hx, h]
  rfl
/-- What only and its like tell: new places. -/
def NewP (u : World) (p : Nat → Bool) (e : Ending) (u' : World) : Prop := Below u.heap.size u u' ∧ ∃ v, e = .returned v ∧ Pl u' v p ∧ ∀ b, plB v = some b → u.heap.size ≤ b
set_option maxHeartbeats 1000000 in
theorem only_any (pl : Nat) (hpl : pl < 64) (u : World) : Calls Tryd.prog 32 #[.int .i64 (pl : Int)] u fun e u' => NewP u (oneB pl) e u' := by
  have R2 := RowA.new u 58 #[.int .i64 0, .slice none 0 0]
  have hs : (u.alloc (.cells #[.int .i64 0, .slice none 0 0] 58)).heap.size = u.heap.size + 1 := World.size_alloc ..
  have R3 := RowA.new (u.alloc (.cells #[.int .i64 0, .slice none 0 0] 58)) 58 #[.int .i64 0, .slice none 0 0]
  rw [hs] at R3
  have R2' := R2.alloc (.cells #[.int .i64 0, .slice none 0 0] 58)
  have B2 : Below u.heap.size u ((u.alloc (.cells #[.int .i64 0, .slice none 0 0] 58)).alloc (.cells #[.int .i64 0, .slice none 0 0] 58)) := ((Below.refl _ _).alloc (Nat.le_refl _) _).alloc (by omega) _
  have hpb : PB u.heap.size ((u.alloc (.cells #[.int .i64 0, .slice none 0 0] 58)).alloc (.cells #[.int .i64 0, .slice none 0 0] 58)) (u.heap.size + 1) (.slice none 0 0) noB := ⟨R3, (fun i h => by cases h), .inl ⟨rfl, fun i => rfl⟩⟩
  have hput := Pt.put_any u.heap.size _ _ _ _ pl hpl hpb (by simp; omega)
  have HB2 := hidd B2
  have HR2 := hidd R2'
  clear R2 R3 R2' B2 hpb hs
  go_enter Tryd.func32, Tryd.ntmps32
  go_wp2_with fail
  refine hput.mono ?_
  rintro e u3 ⟨rfl, sv, P3, K3, L3⟩
  have R3 := P3.1
  have Rr : RowA u3 u.heap.size 58 #[.int .i64 0, .slice none 0 0] := row_keeps HR2.out K3 (by
    rintro (e | e)
    · omega
    · cases e)
  have hone : sv.oneCell' = true := by
    rcases P3.2.2 with ⟨h, _⟩ | ⟨_, h⟩
    · rw [h]; rfl
    · obtain ⟨A, c, h2⟩ := own_form h
      rw [h2]; rfl
  have rr := pl_range R3
  have hpl2 := P3.pl
  have hfar : ∀ b, plB (.agg #[.int .i64 0, sv]) = some b → u.heap.size + 2 ≤ b := fun b hb => by
    rcases L3 with h | ⟨k, h, hk⟩
    · rw [plB_own hb] at h
      cases h
    · rw [plB_own hb] at h
      cases h
      simp at hk
      omega
  have K3b := K3.below (B := u.heap.size) (by simp; omega) (fun k hk => by
    rcases hk with e | e
    · omega
    · cases e)
  have HFIN : Hid (NewP u (oneB pl) (.returned (.agg #[.int .i64 0, sv])) (u3.setRow u.heap.size #[.int .i64 0, sv])) := by
    refine ⟨bel_setRow (HB2.out.trans K3b) _ _ (Nat.le_refl _), _, rfl, ?_, fun b hb => by have := hfar b hb; omega⟩
    rw [show oneB pl = addB noB pl from by funext x; simp [oneB, addB, noB]]
    refine hpl2.keep (by simp [World.setRow]) fun b hb => setRow_other u3 u.heap.size b _ (by have := hfar b hb; omega)
  have HRF := hidd (Rr.row #[.int .i64 0, sv])
  clear hput P3 K3 L3 hpl2 hfar K3b
  go_wp2_with (first
    | refine wpList_load_mid rfl 58 (.tmp 3) rfl (u.heap.size + 1) 0 rfl [.int .i64 0, sv] _ rr Tryd.underlying58 rfl (pl_info _ _) ?_
    | refine wpList_store_row rfl 58 (.tmp 2) (.tmp 6) rfl u.heap.size #[.int .i64 0, sv] rfl rfl 58 #[.int .i64 0, .slice none 0 0] Rr (pl_info _ _) rfl (ones2 rfl hone) ?_)
  exact ret_places Tryd.results32 rfl HRF.out rfl HFIN.out
end Go.Proofs.YtcidimjjclanmaaDoor.Sy.Lg

/- Places: join. -/
namespace Go.Proofs.YtcidimjjclanmaaDoor.Sy.Lg.Jo
open Go.RowKit Go.Proofs.YtcidimjjclanmaaDoor.Sy.Ap Go.Proofs.YtcidimjjclanmaaDoor.Sy.Ap.Wk Go.Proofs.YtcidimjjclanmaaDoor.Sy.Lg.Pt
set_option maxRecDepth 100000
set_option linter.unusedVariables false

structure JoS (w : World) (q g c : Nat) (x : Int) (tq : Nat) (tv : Value) (u : World) : Prop where
  pu : PuS w q g c x u
  tb : RowA u tq 58 #[.int .i64 0, tv]
theorem JoS.below {w : World} {q g c : Nat} {x : Int} {tq : Nat} {tv : Value} {u u' : World} (h : JoS w q g c x tq tv u) (hb : Below u.heap.size u u') : JoS w q g c x tq tv u' := ⟨h.pu.below hb, h.tb.below hb h.tb.lt⟩
theorem eby {d : Option Nat} {u u' : World} (_ : true = true) (h : Below u.heap.size u u') : EbL d u u' := h
set_option linter.unusedVariables false in
def JoGV (q g c tq : Nat) (x y z : Int) (t : Nat) : Option Value :=
  match t with
  | 0 => some (.pointer (some ⟨q, 0, none⟩))
  | 3 => some (.pointer (some ⟨tq, 0, none⟩))
  | 4 => some (.int .i64 0)
  | 5 => some (.int .u64 y)
  | 26 => some (.pointer (some ⟨q, 0, none⟩))
  | 27 => some (.pointer (some ⟨q, 0, none⟩))
  | 28 => some (.pointer (some ⟨q, 1, none⟩))
  | 29 => some (.slice (some ⟨g, 0, none⟩) 1 c)
  | 30 => some (.pointer (some ⟨tq, 0, none⟩))
  | 31 => some (.int .i64 0)
  | 32 => some (.int .i64 0)
  | 33 => some (.int .i64 0)
  | 34 => some (.pointer (some ⟨q, 0, none⟩))
  | 35 => some (.pointer (some ⟨q, 0, none⟩))
  | 36 => some (.pointer (some ⟨q, 0, none⟩))
  | 37 => some (.int .i64 0)
  | 38 => some (.int .i64 0)
  | 39 => some (.pointer (some ⟨g, 0, none⟩))
  | 40 => some (.int .u64 x)
  | 41 => some (.int .u64 y)
  | 42 => some (.int .u64 z)
  | 43 => some (.pointer (some ⟨g, 0, none⟩))
  | _ => none
set_option linter.unusedVariables false in
def JoGP (q g c tq : Nat) (x y z : Int) (t : Nat) : Option (Value → World → Prop) :=
  match t with
  | _ => none
def JoG (q g c tq : Nat) (x y z : Int) (t : Nat) (v : Value) (u : World) : Prop := (∀ z9, JoGV q g c tq x y z t = some z9 → v = z9) ∧ ∀ R, JoGP q g c tq x y z t = some R → R v u
theorem or_none {p r : Nat → Bool} (h : noneB r) : orB p r = p := by
  funext x
  unfold orB
  rw [h x, Bool.or_false]
set_option maxHeartbeats 2000000 in
theorem join_any (base : Nat) (u : World) (q : Nat) (sv : Value) (p r : Nat → Bool) (tv : Value) (h : PB base u q sv p) (hbs : base ≤ u.heap.size) (ht : Pl u tv r) (hne : ∀ b, plB tv = some b → b ≠ q ∧ sv.ownBlock ≠ some b) :
    Calls Tryd.prog 48 #[.pointer (some ⟨q, 0, none⟩), tv] u fun e u' => PutR base u q sv (orB p r) e u' := by
  obtain ⟨ts, hts⟩ : ∃ ts, tv = .agg #[.int .i64 0, ts] := by
    rcases ht.2 with ⟨h1, _⟩ | ⟨b, c, i, h1, _⟩
    · exact ⟨_, h1⟩
    · exact ⟨_, h1⟩
  subst hts
  have B1 : Below u.heap.size u (u.alloc (.cells #[.int .i64 0, ts] 58)) := (Below.refl _ _).alloc (Nat.le_refl _) _
  have RT := RowA.new u 58 #[.int .i64 0, ts]
  have hno := none_any _ r _ (ht.below B1)
  have rt := pl_range RT
  have HT := hidd RT
  have HB1 := hidd B1
  have HH := hidd h
  have HP := hidd ht
  clear B1 RT h ht
  go_enter Tryd.func48, Tryd.ntmps48
  go_wp2_with (refine wpList_load_mid rfl 58 (.tmp 3) rfl u.heap.size 0 rfl [.int .i64 0, ts] _ rt Tryd.underlying58 rfl (pl_info _ _) ?_)
  refine hno.mono ?_
  rintro e u1 ⟨z, rfl, hz, b1⟩
  have B2 := HB1.out.trans (b1.mono HB1.out.size)
  have R2 := HT.out.below b1 HT.out.lt
  clear hno rt b1
  rcases HP.out.2 with ⟨h1, hnone⟩ | ⟨g2, c2, i2, h1, hc2, hg2, hcell, hi2⟩
  · have hzt : z = true := hz.2 hnone
    subst hzt
    have HFIN : Hid (PutR base u q sv (orB p r) (.returned (.tuple #[])) u1) := by
      refine ⟨rfl, sv, ?_, Keeps.of_below B2, lies_refl _ _⟩
      rw [or_none hnone]
      exact HH.out.below B2
    clear hz R2 B2
    go_wp2
    first
      | go_end0
      | (refine bodyPost_ret (results_none rfl _ _ _) rfl ?_)
    exact HFIN.out
  · have hzf : z = false := by
      cases z with
      | false => rfl
      | true =>
        have := (hz.1 rfl) i2
        rw [hi2] at this
        cases this
    subst hzf
    have e1 : ts = .slice (some ⟨g2, 0, none⟩) 1 c2 := by
      injection h1 with h1
      injection h1 with h1
      injection h1 with _ h1
      injection h1 with h1 _
    subst e1
    have hst := stretch_any base u1 q sv p (HH.out.below B2) (Nat.le_trans hbs B2.size)
    have t0 : u1.cell? ⟨u.heap.size, 0, none⟩ = some (.int .i64 0) := R2.at_ rfl
    have t1 : u1.cell? ⟨u.heap.size, 1, none⟩ = some (.slice (some ⟨g2, 0, none⟩) 1 c2) := R2.at_ rfl
    have HR2 := hidd R2
    have HB2 := hidd B2
    clear hz R2 B2
    go_wp2_with fail
    refine hst.mono ?_
    rintro e u3 ⟨rfl, sv', R3, O3, K3, L3⟩
    obtain ⟨g, c, rfl, hg1, hg3⟩ := own_pos O3 (by omega)
    obtain ⟨hb2, hb3⟩ := hne g2 rfl
    have hqlt := HH.out.1.lt
    have hsvl : ∀ k, sv.ownBlock = some k → k < u.heap.size := fun k hk => by
      rcases HH.out.2.2 with ⟨e, _⟩ | ⟨_, o⟩
      · rw [e] at hk; cases hk
      · exact (o.lt k hk).2
    have T3 : RowA u3 u.heap.size 58 #[.int .i64 0, .slice (some ⟨g2, 0, none⟩) 1 c2] := row_keeps HR2.out K3 (by
      rintro (e | e)
      · omega
      · have := hsvl _ e; omega)
    have hc1 : u1.cell? ⟨g2, 0, none⟩ = some (.int .u64 (W r 0)) := by rw [HB2.out.cell (by exact hg2)]; exact hcell
    have hc3 : u3.cell? ⟨g2, 0, none⟩ = some (.int .u64 (W r 0)) := by
      have hh := K3.block g2 (Nat.lt_of_lt_of_le hg2 HB2.out.size) (by
        rintro (e | e)
        · exact hb2 e
        · exact hb3 e)
      rw [← hc1]
      simp [World.cell?, hh]
    have hcw : u3.cell? ⟨g, 0, none⟩ = some (.int .u64 (W p 0)) := by
      have := O3.cells (g := g) rfl 0 _ rfl
      rw [addr_addO] at this
      exact this
    have S3 : JoS u3 q g c (W p 0) u.heap.size (.slice (some ⟨g2, 0, none⟩) 1 c2) u3 := ⟨⟨R3, hcw, hg3, Below.refl _ _⟩, T3⟩
    have hW := W_or p r 0
    have KK : Keeps (Pw q sv) u u3 := (Keeps.of_below HB2.out).trans K3 (fun k _ h => h)
    have LL : Lies u sv (.slice (some ⟨g, 0, none⟩) 1 c) := lies_trans HB2.out.size (lies_refl _ _) L3
    have hqg : q ≠ g := fun e => own_neR O3 R3 (by decide) (by rw [e]; rfl)
    have z1 : u3.cell? ⟨u.heap.size, 1, none⟩ = some (.slice (some ⟨g2, 0, none⟩) 1 c2) := T3.at_ rfl
    have HKK := hidd KK
    have HLL := hidd LL
    have HO3 := hidd O3
    clear hst t0 t1 T3 hc1 hcw KK LL K3 L3 O3 R3
    go_wp2
    go_loopw [21] (fun s21 wr => (s21 = .int .i64 0 ∧ u3 = wr) ∨ (s21 = .int .i64 1 ∧ PutR base u q sv (orB p r) (.returned (.tuple #[])) wr)) (fun s21 _ => 1 - (intOf s21).toNat)
    case atStart => exact .inl ⟨rfl, rfl⟩
    case round =>
      rcases hrel with ⟨rfl, rfl⟩ | ⟨rfl, hfin⟩
      · go_upto_region 6 with fail
        refine wp_region_slotsH 18 (by decide) (by kernel_rfl) (by kernel_rfl) (fun _ _ => true) (JoS u3 q g c (W p 0) u.heap.size (.slice (some ⟨g2, 0, none⟩) 1 c2)) (JoG q g c u.heap.size (W p 0) (W r 0) (W (orB p r) 0)) EbL (by kernel_rfl) (by kernel_rfl) (by kernel_rfl) (by kernel_rfl) ?_ (S3.below (bel_drew (Below.refl _ _))) [0, 3, 4, 5] (by kernel_rfl) ?_ ?_ ?_
        · intro t dd v u u' _ _ h hE
          refine ⟨h.1, fun R hR => ?_⟩
          unfold JoGP at hR
          cases hR
        · intro u _
          refine ⟨⟨_, rfl, ?_⟩, ⟨_, rfl, ?_⟩, ⟨_, rfl, ?_⟩, ⟨_, rfl, ?_⟩, trivial⟩ <;> exact ⟨fun _ h => Option.some.inj h, fun _ h => no_some h⟩
        · refine ⟨?_, ?_, ?_, ?_, ?_, ?_, ?_, ?_, ?_, ?_, ?_, ?_, ?_, ?_, ?_, ?_, ?_, ?_, trivial⟩
          · intro a u hS hr K hK
            obtain ⟨⟨vl0, e0, g0⟩, -⟩ := hr
            obtain rfl := g0.1 _ rfl
            clear g0
            rw [if_pos (want_none rfl)]
            unfold Oper.wp
            go_simp
            exact hK _ _ ⟨fun _ h => Option.some.inj h, fun _ h => no_some h⟩ hS (eby rfl (Below.refl _ _))
          · intro a u hS hr K hK
            obtain ⟨⟨vl0, e0, g0⟩, -⟩ := hr
            obtain rfl := g0.1 _ rfl
            clear g0
            rw [if_pos (want_none rfl)]
            unfold Oper.wp
            go_simp
            exact hK _ _ ⟨fun _ h => Option.some.inj h, fun _ h => no_some h⟩ hS (eby rfl (Below.refl _ _))
          · intro a u hS hr K hK
            obtain ⟨⟨vl0, e0, g0⟩, -⟩ := hr
            obtain rfl := g0.1 _ rfl
            clear g0
            rw [if_pos (want_none rfl)]
            unfold Oper.wp
            go_simp
            exact hK _ _ ⟨fun _ h => Option.some.inj h, fun _ h => no_some h⟩ hS (eby rfl (Below.refl _ _))
          · intro a u hS hr K hK
            obtain ⟨⟨vl0, e0, g0⟩, -⟩ := hr
            obtain rfl := g0.1 _ rfl
            clear g0
            rw [if_pos (want_none rfl)]
            have d1 := hS.pu.box.at_ (k := 1) rfl
            unfold Oper.wp
            go_simp
            exact hK _ _ ⟨fun _ h => Option.some.inj h, fun _ h => no_some h⟩ hS (eby rfl (Below.refl _ _))
          · intro a u hS hr K hK
            obtain ⟨⟨vl0, e0, g0⟩, -⟩ := hr
            obtain rfl := g0.1 _ rfl
            clear g0
            rw [if_pos (want_none rfl)]
            unfold Oper.wp
            go_simp
            exact hK _ _ ⟨fun _ h => Option.some.inj h, fun _ h => no_some h⟩ hS (eby rfl (Below.refl _ _))
          · intro a u hS hr K hK
            obtain ⟨⟨vl0, e0, g0⟩, -⟩ := hr
            obtain rfl := g0.1 _ rfl
            clear g0
            rw [if_pos (want_none rfl)]
            have d0 := hS.tb.at_ (k := 0) rfl
            unfold Oper.wp
            go_simp
            exact hK _ _ ⟨fun _ h => Option.some.inj h, fun _ h => no_some h⟩ hS (eby rfl (Below.refl _ _))
          · intro a u hS hr K hK
            obtain ⟨⟨vl0, e0, g0⟩, -⟩ := hr
            obtain rfl := g0.1 _ rfl
            clear g0
            rw [if_pos (want_none rfl)]
            unfold Oper.wp
            go_simp
            exact hK _ _ ⟨fun _ h => Option.some.inj h, fun _ h => no_some h⟩ hS (eby rfl (Below.refl _ _))
          · intro a u hS hr K hK
            obtain ⟨⟨vl0, e0, g0⟩, ⟨vl1, e1, g1⟩, -⟩ := hr
            obtain rfl := g0.1 _ rfl
            clear g0
            obtain rfl := g1.1 _ rfl
            clear g1
            rw [if_pos (want_none rfl)]
            unfold Oper.wp
            go_simp
            exact hK _ _ ⟨fun _ h => Option.some.inj h, fun _ h => no_some h⟩ hS (eby rfl (Below.refl _ _))
          · intro a u hS hr K hK
            obtain ⟨⟨vl0, e0, g0⟩, -⟩ := hr
            obtain rfl := g0.1 _ rfl
            clear g0
            rw [if_pos (want_none rfl)]
            unfold Oper.wp
            go_simp
            exact hK _ _ ⟨fun _ h => Option.some.inj h, fun _ h => no_some h⟩ hS (eby rfl (Below.refl _ _))
          · intro a u hS hr K hK
            obtain ⟨⟨vl0, e0, g0⟩, -⟩ := hr
            obtain rfl := g0.1 _ rfl
            clear g0
            rw [if_pos (want_none rfl)]
            unfold Oper.wp
            go_simp
            exact hK _ _ ⟨fun _ h => Option.some.inj h, fun _ h => no_some h⟩ hS (eby rfl (Below.refl _ _))
          · intro a u hS hr K hK
            obtain ⟨⟨vl0, e0, g0⟩, -⟩ := hr
            obtain rfl := g0.1 _ rfl
            clear g0
            rw [if_pos (want_none rfl)]
            unfold Oper.wp
            go_simp
            exact hK _ _ ⟨fun _ h => Option.some.inj h, fun _ h => no_some h⟩ hS (eby rfl (Below.refl _ _))
          · intro a u hS hr K hK
            obtain ⟨⟨vl0, e0, g0⟩, -⟩ := hr
            obtain rfl := g0.1 _ rfl
            clear g0
            rw [if_pos (want_none rfl)]
            have d0 := hS.pu.box.at_ (k := 0) rfl
            unfold Oper.wp
            go_simp
            exact hK _ _ ⟨fun _ h => Option.some.inj h, fun _ h => no_some h⟩ hS (eby rfl (Below.refl _ _))
          · intro a u hS hr K hK
            obtain ⟨⟨vl0, e0, g0⟩, ⟨vl1, e1, g1⟩, -⟩ := hr
            obtain rfl := g0.1 _ rfl
            clear g0
            obtain rfl := g1.1 _ rfl
            clear g1
            rw [if_pos (want_none rfl)]
            unfold Oper.wp
            go_simp
            exact hK _ _ ⟨fun _ h => Option.some.inj h, fun _ h => no_some h⟩ hS (eby rfl (Below.refl _ _))
          · intro a u hS hr K hK
            obtain ⟨⟨vl0, e0, g0⟩, ⟨vl1, e1, g1⟩, -⟩ := hr
            obtain rfl := g0.1 _ rfl
            clear g0
            obtain rfl := g1.1 _ rfl
            clear g1
            rw [if_pos (want_none rfl)]
            unfold Oper.wp
            go_simp
            exact hK _ _ ⟨fun _ h => Option.some.inj h, fun _ h => no_some h⟩ hS (eby rfl (Below.refl _ _))
          · intro a u hS hr K hK
            obtain ⟨⟨vl0, e0, g0⟩, -⟩ := hr
            obtain rfl := g0.1 _ rfl
            clear g0
            rw [if_pos (want_none rfl)]
            have d2 := hS.pu.wd
            unfold Oper.wp
            go_simp
            exact hK _ _ ⟨fun _ h => Option.some.inj h, fun _ h => no_some h⟩ hS (eby rfl (Below.refl _ _))
          · intro a u hS hr K hK
            obtain ⟨⟨vl0, e0, g0⟩, -⟩ := hr
            obtain rfl := g0.1 _ rfl
            clear g0
            rw [if_pos (want_none rfl)]
            unfold Oper.wp
            go_simp
            exact hK _ _ ⟨fun _ h => Option.some.inj h, fun _ h => no_some h⟩ hS (eby rfl (Below.refl _ _))
          · intro a u hS hr K hK
            obtain ⟨⟨vl0, e0, g0⟩, ⟨vl1, e1, g1⟩, -⟩ := hr
            obtain rfl := g0.1 _ rfl
            clear g0
            obtain rfl := g1.1 _ rfl
            clear g1
            rw [if_pos (want_none rfl)]
            unfold Oper.wp
            go_simp
            exact hK _ _ ⟨fun _ h => Option.some.inj h, fun _ h => no_some h⟩ hS (eby rfl (Below.refl _ _))
          · intro a u hS hr K hK
            obtain ⟨⟨vl0, e0, g0⟩, ⟨vl1, e1, g1⟩, -⟩ := hr
            obtain rfl := g0.1 _ rfl
            clear g0
            obtain rfl := g1.1 _ rfl
            clear g1
            rw [if_pos (want_none rfl)]
            unfold Oper.wp
            go_simp
            exact hK _ _ ⟨fun _ h => Option.some.inj h, fun _ h => no_some h⟩ hS (eby rfl (Below.refl _ _))
        intro a u4 hS4 hts hd hkn hf
        obtain ⟨v26, e26, g26⟩ := hf 0 _ 26 (by decide) rfl rfl (fun _ => rfl)
        obtain ⟨v27, e27, g27⟩ := hf 1 _ 27 (by decide) rfl rfl (fun _ => rfl)
        obtain ⟨v28, e28, g28⟩ := hf 2 _ 28 (by decide) rfl rfl (fun _ => rfl)
        obtain ⟨v29, e29, g29⟩ := hf 3 _ 29 (by decide) rfl rfl (fun _ => rfl)
        obtain ⟨v30, e30, g30⟩ := hf 4 _ 30 (by decide) rfl rfl (fun _ => rfl)
        obtain ⟨v31, e31, g31⟩ := hf 5 _ 31 (by decide) rfl rfl (fun _ => rfl)
        obtain ⟨v32, e32, g32⟩ := hf 6 _ 32 (by decide) rfl rfl (fun _ => rfl)
        obtain ⟨v33, e33, g33⟩ := hf 7 _ 33 (by decide) rfl rfl (fun _ => rfl)
        obtain ⟨v34, e34, g34⟩ := hf 8 _ 34 (by decide) rfl rfl (fun _ => rfl)
        obtain ⟨v35, e35, g35⟩ := hf 9 _ 35 (by decide) rfl rfl (fun _ => rfl)
        obtain ⟨v36, e36, g36⟩ := hf 10 _ 36 (by decide) rfl rfl (fun _ => rfl)
        obtain ⟨v37, e37, g37⟩ := hf 11 _ 37 (by decide) rfl rfl (fun _ => rfl)
        obtain ⟨v38, e38, g38⟩ := hf 12 _ 38 (by decide) rfl rfl (fun _ => rfl)
        obtain ⟨v39, e39, g39⟩ := hf 13 _ 39 (by decide) rfl rfl (fun _ => rfl)
        obtain ⟨v40, e40, g40⟩ := hf 14 _ 40 (by decide) rfl rfl (fun _ => rfl)
        obtain ⟨v41, e41, g41⟩ := hf 15 _ 41 (by decide) rfl rfl (fun _ => rfl)
        obtain ⟨v42, e42, g42⟩ := hf 16 _ 42 (by decide) rfl rfl (fun _ => rfl)
        obtain ⟨v43, e43, g43⟩ := hf 17 _ 43 (by decide) rfl rfl (fun _ => rfl)
        have hA := act_putsH [(26, v26), (27, v27), (28, v28), (29, v29), (30, v30), (31, v31), (32, v32), (33, v33), (34, v34), (35, v35), (36, v36), (37, v37), (38, v38), (39, v39), (40, v40), (41, v41), (42, v42), (43, v43)] hts hd hkn (by kernel_rfl) (by simp [e26, e27, e28, e29, e30, e31, e32, e33, e34, e35, e36, e37, e38, e39, e40, e41, e42, e43])
        clear hf hts hd hkn e26 e27 e28 e29 e30 e31 e32 e33 e34 e35 e36 e37 e38 e39 e40 e41 e42 e43
        obtain rfl := g26.1 _ rfl
        clear g26
        obtain rfl := g27.1 _ rfl
        clear g27
        obtain rfl := g28.1 _ rfl
        clear g28
        obtain rfl := g29.1 _ rfl
        clear g29
        obtain rfl := g30.1 _ rfl
        clear g30
        obtain rfl := g31.1 _ rfl
        clear g31
        obtain rfl := g32.1 _ rfl
        clear g32
        obtain rfl := g33.1 _ rfl
        clear g33
        obtain rfl := g34.1 _ rfl
        clear g34
        obtain rfl := g35.1 _ rfl
        clear g35
        obtain rfl := g36.1 _ rfl
        clear g36
        obtain rfl := g37.1 _ rfl
        clear g37
        obtain rfl := g38.1 _ rfl
        clear g38
        obtain rfl := g39.1 _ rfl
        clear g39
        obtain rfl := g40.1 _ rfl
        clear g40
        obtain rfl := g41.1 _ rfl
        clear g41
        obtain rfl := g42.1 _ rfl
        clear g42
        obtain rfl := g43.1 _ rfl
        clear g43
        subst hA
        simp only [List.foldl, List.setIfInBounds_toArray, List.set_cons_zero, List.set_cons_succ]
        simp only [List.drop_succ_cons, List.drop_zero]
        have O4 := own_below HO3.out hS4.pu.bel (Nat.le_refl _)
        have w4 := hS4.pu.wd
        have tg : u4.frozen? ⟨g, 0, none⟩ = false := own_thawed O4 rfl
        have HFIN : Hid (PutR base u q sv (orB p r) (.returned (.tuple #[])) (u4.setCell ⟨g, 0, none⟩ (.int .u64 (W (orB p r) 0)))) := by
          refine ⟨rfl, .slice (some ⟨g, 0, none⟩) 1 c, ⟨hS4.pu.box.far (a := ⟨g, 0, none⟩) hqg _, fun i hi => ?_, .inr ⟨⟨i2, by simp [orB, hi2]⟩, own_put1 O4 _⟩⟩, ?_, HLL.out⟩
          · unfold orB at hi
            rw [Bool.or_eq_true] at hi
            rcases hi with hi | hi
            · exact HH.out.2.1 i hi
            · exact HP.out.1 i hi
          · refine keeps_set (HKK.out.trans (Keeps.of_below (P := Pw q sv) hS4.pu.bel) (fun k _ h => h)) _ _ ?_
            rcases HLL.out with h | ⟨k, h, h2⟩
            · exact .inl (.inr h.symm)
            · have e : g = k := Option.some.inj h
              subst e
              exact .inr h2
        clear O4 hS4 S3
        go_wp2
        exact ⟨.inr ⟨rfl, HFIN.out⟩, by simp [intOf]⟩
      · have HFIN := hidd hfin
        clear hfin
        go_wp2
        go_end0
        exact HFIN.out
end Go.Proofs.YtcidimjjclanmaaDoor.Sy.Lg.Jo

/- Places: copied. -/
namespace Go.Proofs.YtcidimjjclanmaaDoor.Sy.Lg.Cp
open Go.RowKit Go.Proofs.YtcidimjjclanmaaDoor.Sy.Ap Go.Proofs.YtcidimjjclanmaaDoor.Sy.Ap.Wk Go.Proofs.YtcidimjjclanmaaDoor.Sy.Lg.Pt
set_option maxRecDepth 100000
set_option linter.unusedVariables false

/-- The words of places, copied. -/
def ClR (u : World) (p : Nat → Bool) (v : Value) (u' : World) : Prop := (v = .slice none 0 0 ∧ noneB p) ∨ ((∃ i, p i = true) ∧ u'.ownsRow u.heap.size 39 1 v 1 [.int .u64 (W p 0)])
theorem ClR.below {u : World} {p : Nat → Bool} {v : Value} {u1 u2 : World} (h : ClR u p v u1) (hb : Below u1.heap.size u1 u2) : ClR u p v u2 := by
  rcases h with h | ⟨h1, h2⟩
  · exact .inl h
  · exact .inr ⟨h1, own_below h2 hb (Nat.le_refl _)⟩
theorem ClR.form {u : World} {p : Nat → Bool} {v : Value} {u1 : World} (h : ClR u p v u1) : ∃ A n c, v = .slice A n c := by
  rcases h with ⟨h, _⟩ | ⟨_, h⟩
  · exact ⟨_, _, _, h⟩
  · obtain ⟨A, c, h2⟩ := own_form h
    exact ⟨_, _, _, h2⟩
set_option maxHeartbeats 1000000 in
theorem clone_any (ts : Value) (p : Nat → Bool) (u : World) (h : Pl u (.agg #[.int .i64 0, ts]) p) :
    Calls Tryd.prog 84 #[ts] u fun e u' => Below u.heap.size u u' ∧ ∃ v, e = .returned v ∧ ClR u p v u' := by
  obtain ⟨j0, hj0i, hy0, hy1, hy2⟩ := info_parts u64_info
  have q22 : ∀ (w : World) (a : Option Addr) (n c n' c' : Nat), (binOp .eql 56 (.slice a n c) (.slice none n' c')).run Tryd.prog w = .ok (.bool a.isNone) w := fun w a n c n' c' => Lib.run_eql_slice_nil w _ _ a n c n' c' Tryd.underlying56
  rcases h.2 with ⟨h1, hnone⟩ | ⟨g2, c2, i2, h1, hc2, hg2, hcell, hi2⟩
  · have e1 : ts = .slice none 0 0 := by
      injection h1 with h1
      injection h1 with h1
      injection h1 with _ h1
      injection h1 with h1 _
    subst e1
    go_enter Tryd.func84, Tryd.ntmps84
    go_wp2
    go_ret
    exact ⟨Below.refl _ _, _, rfl, .inl ⟨rfl, hnone⟩⟩
  · have e1 : ts = .slice (some ⟨g2, 0, none⟩) 1 c2 := by
      injection h1 with h1
      injection h1 with h1
      injection h1 with _ h1
      injection h1 with h1 _
    subst e1
    have hown := World.ownsRow_lit (e := 39) (size := 1) u #[] 0 (Nat.le_refl _) (by unfold maxLen; omega) rfl
    have hbA : Below u.heap.size u (u.alloc (.cells #[] 39)) := (Below.refl _ _).alloc (Nat.le_refl _) _
    have hH : (u.alloc (.cells #[] 39)).heap.size = u.heap.size + 1 := World.size_alloc ..
    have hbase : u.heap.size ≤ (u.alloc (.cells #[] 39)).heap.size := by rw [hH]; omega
    have hnews : ∀ j v, ([.int .u64 (W p 0)] : List Value)[j]? = some v → (u.alloc (.cells #[] 39)).cell? ((⟨g2, 0, none⟩ : Addr).add j) = some v := fun j v hv => by
      cases j with
      | zero =>
        cases hv
        rw [addr_addO, hbA.cell (by exact hg2)]
        exact hcell
      | succ j => cases hv
    have HI : Hid (∃ i, p i = true) := ⟨i2, hi2⟩
    clear hcell hi2 h h1
    go_enter Tryd.func84, Tryd.ntmps84
    go_wp2_with (at_builtin; refine wpList_append_lies _ rfl _ _ _ rfl u.heap.size 39 j0 (.int .u64 0) 1 8 Tryd.underlying56 hj0i hy0 hy1 hy2 rfl (by omega) _ 0 [] rfl hown ⟨g2, 0, none⟩ 1 c2 [.int .u64 (W p 0)] rfl rfl hnews (by simp [Value.oneCell']) (by omega) (by simp only [maxLen]; omega) (by omega) hbase (u.heap.size + 1) hH ?_; intro g8 cap8 w8 hown8 hgrow hat hlt8; refine Hid.out ?_)
    have HFIN : Hid (Below u.heap.size u w8 ∧ w8.ownsRow u.heap.size 39 1 (.slice (some ⟨g8, 0, none⟩) 1 cap8) 1 [.int .u64 (W p 0)]) := ⟨bel_row hbA hbase hgrow (fun k hk => (hown.lt k hk).1), hown8⟩
    clear hown hbA hH hbase hnews hown8 hgrow hat hlt8
    refine Lib.hid ?_
    go_wp2
    go_ret
    exact ⟨HFIN.out.1, _, rfl, .inr ⟨HI.out, HFIN.out.2⟩⟩
structure CpS (w : World) (q : Nat) (ts : Value) (p : Nat → Bool) (u : World) : Prop where
  box : RowA u q 58 #[.int .i64 0, ts]
  pl : Pl u (.agg #[.int .i64 0, ts]) p
  bel : Below w.heap.size w u
  res : RowA u (q + 1) 58 #[.int .i64 0, .slice none 0 0]
theorem CpS.below {w : World} {q : Nat} {ts : Value} {p : Nat → Bool} {u u' : World} (h : CpS w q ts p u) (hb : Below u.heap.size u u') : CpS w q ts p u' := ⟨h.box.below hb h.box.lt, h.pl.below hb, h.bel.trans (hb.mono h.bel.size), h.res.below hb h.res.lt⟩
def CpA (w : World) (p : Nat → Bool) (v : Value) (u : World) : Prop := ∃ sv, v = .agg #[.int .i64 0, sv] ∧ ClR w p sv u
theorem CpA.below {w : World} {p : Nat → Bool} {v : Value} {u1 u2 : World} (h : CpA w p v u1) (hb : Below u1.heap.size u1 u2) : CpA w p v u2 := by
  obtain ⟨sv, h1, h2⟩ := h
  exact ⟨sv, h1, h2.below hb⟩
theorem ClR.less {w u : World} {p : Nat → Bool} {v : Value} {u1 : World} (h : ClR u p v u1) (hs : w.heap.size ≤ u.heap.size) : ClR w p v u1 := by
  rcases h with h | ⟨h1, h2⟩
  · exact .inl h
  · exact .inr ⟨h1, own_less h2 hs⟩
theorem eby {d : Option Nat} {u u' : World} (_ : true = true) (h : Below u.heap.size u u') : EbL d u u' := h
set_option linter.unusedVariables false in
def CpGV (w : World) (q : Nat) (ts : Value) (p : Nat → Bool) (t : Nat) : Option Value :=
  match t with
  | 1 => some (.pointer (some ⟨q, 0, none⟩))
  | 3 => some (.pointer (some ⟨q, 0, none⟩))
  | 4 => some (.int .i64 0)
  | 5 => some (.pointer (some ⟨q, 1, none⟩))
  | 6 => some (ts)
  | _ => none
set_option linter.unusedVariables false in
def CpGP (w : World) (q : Nat) (ts : Value) (p : Nat → Bool) (t : Nat) : Option (Value → World → Prop) :=
  match t with
  | 7 => some (ClR w p)
  | 8 => some (CpA w p)
  | _ => none
def CpG (w : World) (q : Nat) (ts : Value) (p : Nat → Bool) (t : Nat) (v : Value) (u : World) : Prop := (∀ z9, CpGV w q ts p t = some z9 → v = z9) ∧ ∀ R, CpGP w q ts p t = some R → R v u
theorem own_setRow {u : World} {base : Nat} {e : TypeId} {sz n b : Nat} {z : Value} {xs : List Value} (h : u.ownsRow base e sz z n xs) (hb : z.ownBlock ≠ some b) (cs : Array Value) : (u.setRow b cs).ownsRow base e sz z n xs := by
  obtain ⟨h1, h2⟩ := h
  refine ⟨h1, ?_⟩
  rcases h2 with h2 | ⟨g, cap, cur, hv, hg, hh, r⟩
  · exact .inl h2
  · exact .inr ⟨g, cap, cur, hv, hg, (setRow_other u b g cs (fun q => hb (by rw [hv, ← q]; rfl))).trans hh, r⟩
set_option maxHeartbeats 1000000 in
theorem copied_any (v : Value) (p : Nat → Bool) (u : World) (h : Pl u v p) : Calls Tryd.prog 74 #[v] u fun e u' => Below u.heap.size u u' ∧ ∃ sv, e = .returned (.agg #[.int .i64 0, sv]) ∧ ClR u p sv u' := by
  obtain ⟨ts, hts⟩ : ∃ ts, v = .agg #[.int .i64 0, ts] := by
    rcases h.2 with ⟨h1, _⟩ | ⟨b, c, i, h1, _⟩
    · exact ⟨_, h1⟩
    · exact ⟨_, h1⟩
  subst hts
  have R1 := RowA.new u 58 #[.int .i64 0, ts]
  have hs : (u.alloc (.cells #[.int .i64 0, ts] 58)).heap.size = u.heap.size + 1 := World.size_alloc ..
  have R2 := RowA.new (u.alloc (.cells #[.int .i64 0, ts] 58)) 58 #[.int .i64 0, .slice none 0 0]
  rw [hs] at R2
  have R1' := R1.alloc (.cells #[.int .i64 0, .slice none 0 0] 58)
  have B2 : Below u.heap.size u ((u.alloc (.cells #[.int .i64 0, ts] 58)).alloc (.cells #[.int .i64 0, .slice none 0 0] 58)) := ((Below.refl _ _).alloc (Nat.le_refl _) _).alloc (by omega) _
  have P2 := h.below B2
  clear R1 h
  go_enter Tryd.func74, Tryd.ntmps74
  go_upto_region 1 with fail
  obtain ⟨u2, hu2⟩ : ∃ u2, u2 = (u.alloc (.cells #[.int .i64 0, ts] 58)).alloc (.cells #[.int .i64 0, .slice none 0 0] 58) := ⟨_, rfl⟩
  rw [← hu2] at R2 R1' B2 P2
  rw [← hu2]
  clear hu2 hs
  have S2 : CpS u u.heap.size ts p u2 := ⟨R1', P2, B2, R2⟩
  refine wp_region_slotsH 6 (by decide) (by kernel_rfl) (by kernel_rfl) (fun _ _ => true) (CpS u u.heap.size ts p) (CpG u u.heap.size ts p) EbL (by kernel_rfl) (by kernel_rfl) (by kernel_rfl) (by kernel_rfl) ?_ (S2.below (bel_drew (Below.refl _ _))) [1] (by kernel_rfl) ?_ ?_ ?_
  · intro t dd v u u' _ _ h hE
    refine ⟨h.1, fun R hR => ?_⟩
    have hh := h.2 R hR
    unfold CpGP at hR
    split at hR
    · cases hR; exact hh.below hE
    · cases hR; exact hh.below hE
    · cases hR
  · intro u _
    refine ⟨⟨_, rfl, ?_⟩, trivial⟩
    exact ⟨fun _ h => Option.some.inj h, fun _ h => no_some h⟩
  · refine ⟨?_, ?_, ?_, ?_, ?_, ?_, trivial⟩
    · intro a u hS hr K hK
      obtain ⟨⟨vl0, e0, g0⟩, -⟩ := hr
      obtain rfl := g0.1 _ rfl
      clear g0
      rw [if_pos (want_none rfl)]
      unfold Oper.wp
      go_simp
      exact hK _ _ ⟨fun _ h => Option.some.inj h, fun _ h => no_some h⟩ hS (eby rfl (Below.refl _ _))
    · intro a u hS hr K hK
      obtain ⟨⟨vl0, e0, g0⟩, -⟩ := hr
      obtain rfl := g0.1 _ rfl
      clear g0
      rw [if_pos (want_none rfl)]
      have d0 := hS.box.at_ (k := 0) rfl
      unfold Oper.wp
      go_simp
      exact hK _ _ ⟨fun _ h => Option.some.inj h, fun _ h => no_some h⟩ hS (eby rfl (Below.refl _ _))
    · intro a u hS hr K hK
      obtain ⟨⟨vl0, e0, g0⟩, -⟩ := hr
      obtain rfl := g0.1 _ rfl
      clear g0
      rw [if_pos (want_none rfl)]
      unfold Oper.wp
      go_simp
      exact hK _ _ ⟨fun _ h => Option.some.inj h, fun _ h => no_some h⟩ hS (eby rfl (Below.refl _ _))
    · intro a u hS hr K hK
      obtain ⟨⟨vl0, e0, g0⟩, -⟩ := hr
      obtain rfl := g0.1 _ rfl
      clear g0
      rw [if_pos (want_none rfl)]
      have d1 := hS.box.at_ (k := 1) rfl
      unfold Oper.wp
      go_simp
      exact hK _ _ ⟨fun _ h => Option.some.inj h, fun _ h => no_some h⟩ hS (eby rfl (Below.refl _ _))
    · intro a u hS hr K hK
      obtain ⟨⟨vl0, e0, g0⟩, -⟩ := hr
      obtain rfl := g0.1 _ rfl
      clear g0
      rw [if_pos (want_none rfl)]
      unfold Oper.wp
      go_simp
      refine (clone_any _ p u hS.pl).mono ?_
      rintro e u1 ⟨hb, v1, rfl, hv1⟩
      exact hK _ _ ⟨fun _ h => no_some h, fun _ h => spec_ok h (hv1.less hS.bel.size)⟩ (hS.below hb) (eby rfl hb)
    · intro a u hS hr K hK
      obtain ⟨⟨vl0, e0, g0⟩, ⟨vl1, e1, g1⟩, -⟩ := hr
      obtain rfl := g0.1 _ rfl
      clear g0
      replace g1 := g1.2 _ rfl
      rw [if_pos (want_none rfl)]
      obtain ⟨A9, n9, c9, rfl⟩ := g1.form
      unfold Oper.wp
      go_simp
      exact hK _ _ ⟨fun _ h => no_some h, fun _ h => spec_ok h ⟨_, rfl, g1⟩⟩ hS (eby rfl (Below.refl _ _))
  intro a u4 hS4 hts hd hkn hf
  obtain ⟨v3, e3, g3⟩ := hf 0 _ 3 (by decide) rfl rfl (fun _ => rfl)
  obtain ⟨v4, e4, g4⟩ := hf 1 _ 4 (by decide) rfl rfl (fun _ => rfl)
  obtain ⟨v5, e5, g5⟩ := hf 2 _ 5 (by decide) rfl rfl (fun _ => rfl)
  obtain ⟨v6, e6, g6⟩ := hf 3 _ 6 (by decide) rfl rfl (fun _ => rfl)
  obtain ⟨v7, e7, g7⟩ := hf 4 _ 7 (by decide) rfl rfl (fun _ => rfl)
  obtain ⟨v8, e8, g8⟩ := hf 5 _ 8 (by decide) rfl rfl (fun _ => rfl)
  have hA := act_putsH [(3, v3), (4, v4), (5, v5), (6, v6), (7, v7), (8, v8)] hts hd hkn (by kernel_rfl) (by simp [e3, e4, e5, e6, e7, e8])
  clear hf hts hd hkn e3 e4 e5 e6 e7 e8
  obtain rfl := g3.1 _ rfl
  clear g3
  obtain rfl := g4.1 _ rfl
  clear g4
  obtain rfl := g5.1 _ rfl
  clear g5
  obtain rfl := g6.1 _ rfl
  clear g6
  replace g7 := g7.2 _ rfl
  replace g8 := g8.2 _ rfl
  subst hA
  simp only [List.foldl, List.setIfInBounds_toArray, List.set_cons_zero, List.set_cons_succ]
  simp only [List.drop_succ_cons, List.drop_zero]
  obtain ⟨sv, rfl, hcl⟩ := g8
  have hone : sv.oneCell' = true := by
    rcases hcl with ⟨h, _⟩ | ⟨_, h⟩
    · rw [h]; rfl
    · obtain ⟨A, c, h2⟩ := own_form h
      rw [h2]; rfl
  have Rr := hS4.res
  have HRF := hidd (Rr.row #[.int .i64 0, sv])
  have HFIN : Hid (Below u.heap.size u (u4.setRow (u.heap.size + 1) #[.int .i64 0, sv]) ∧ ClR u p sv (u4.setRow (u.heap.size + 1) #[.int .i64 0, sv])) := by
    refine ⟨bel_setRow hS4.bel _ _ (by omega), ?_⟩
    rcases hcl with h | ⟨h1, h2⟩
    · exact .inl h
    · exact .inr ⟨h1, own_setRow h2 (own_neR h2 Rr (by decide)) _⟩
  clear hS4 S2 hcl g7
  go_wp2_with (refine wpList_store_row rfl 58 (.tmp 2) (.tmp 8) rfl (u.heap.size + 1) #[.int .i64 0, sv] rfl rfl 58 #[.int .i64 0, .slice none 0 0] Rr (pl_info _ _) rfl (ones2 rfl hone) ?_)
  exact ret_places Tryd.results74 rfl HRF.out rfl ⟨HFIN.out.1, sv, rfl, HFIN.out.2⟩
end Go.Proofs.YtcidimjjclanmaaDoor.Sy.Lg.Cp

/- Places: same. -/
namespace Go.Proofs.YtcidimjjclanmaaDoor.Sy.Lg
open Go.RowKit Go.Proofs.YtcidimjjclanmaaDoor.Sy.Ap Go.Proofs.YtcidimjjclanmaaDoor.Sy.Ap.Wk
set_option maxRecDepth 100000
set_option linter.unusedVariables false

theorem agg2_inj {x y : Value} (h : Value.agg #[.int .i64 0, x] = Value.agg #[.int .i64 0, y]) : x = y := by
  injection h with h
  injection h with h
  injection h with _ h
  injection h with h _
def SamR (p r : Nat → Bool) (w : World) (e : Ending) (w' : World) : Prop := ∃ z, e = .returned (.bool z) ∧ (z = true ↔ ∀ i, p i = r i) ∧ Below w.heap.size w w'
theorem W_all {p r : Nat → Bool} (hp : ∀ i, p i = true → i < 64) (hr : ∀ i, r i = true → i < 64) (h : W p 0 = W r 0) : ∀ i, p i = r i := by
  intro i
  rcases Nat.lt_or_ge i 64 with q | q
  · have := W_inj h i q
    simpa using this
  · have h1 : p i = false := by
      cases e : p i with
      | false => rfl
      | true => have := hp i e; omega
    have h2 : r i = false := by
      cases e : r i with
      | false => rfl
      | true => have := hr i e; omega
    rw [h1, h2]
set_option maxHeartbeats 1000000 in
theorem equal_any (ts ss : Value) (p r : Nat → Bool) (u : World) (hp : Pl u (.agg #[.int .i64 0, ts]) p) (hr : Pl u (.agg #[.int .i64 0, ss]) r) :
    Calls Tryd.prog 86 #[ts, ss] u fun e u' => SamR p r u e u' := by
  rcases hp.2 with ⟨h1, hn1⟩ | ⟨g1, c1, i1, h1, hc1, hg1, hw1, hi1⟩
  · have e1 := agg2_inj h1
    subst e1
    rcases hr.2 with ⟨h2, hn2⟩ | ⟨g2, c2, i2, h2, hc2, hg2, hw2, hi2⟩
    · have e2 := agg2_inj h2
      subst e2
      go_enter Tryd.func86, Tryd.ntmps86
      go_wp2
      go_loopw [13] (fun s13 wr => s13 = .int .i64 0 ∧ u = wr) (fun _ _ => 0)
      case atStart => exact ⟨rfl, rfl⟩
      case round =>
        obtain ⟨rfl, rfl⟩ := hrel
        go_wp2
        go_ret
        exact ⟨true, rfl, ⟨fun _ i => by rw [hn1 i, hn2 i], fun _ => rfl⟩, Below.refl _ _⟩
    · have e2 := agg2_inj h2
      subst e2
      go_enter Tryd.func86, Tryd.ntmps86
      go_wp2
      go_ret
      exact ⟨false, rfl, ⟨(fun q => by cases q), fun q => by have := q i2; rw [hn1 i2, hi2] at this; cases this⟩, Below.refl _ _⟩
  · have e1 := agg2_inj h1
    subst e1
    rcases hr.2 with ⟨h2, hn2⟩ | ⟨g2, c2, i2, h2, hc2, hg2, hw2, hi2⟩
    · have e2 := agg2_inj h2
      subst e2
      go_enter Tryd.func86, Tryd.ntmps86
      go_wp2
      go_ret
      exact ⟨false, rfl, ⟨(fun q => by cases q), fun q => by have := q i1; rw [hn2 i1, hi1] at this; cases this⟩, Below.refl _ _⟩
    · have e2 := agg2_inj h2
      subst e2
      have HP := hidd hp.1
      have HR := hidd hr.1
      clear hp hr h1 h2
      go_enter Tryd.func86, Tryd.ntmps86
      go_wp2
      go_loopw [13] (fun s13 wr => ∃ m, wr = u.drewN m ∧ (s13 = .int .i64 0 ∨ (s13 = .int .i64 1 ∧ W p 0 = W r 0))) (fun s13 _ => 1 - (intOf s13).toNat)
      case atStart => exact ⟨0, rfl, .inl rfl⟩
      case round =>
        obtain ⟨m, rfl, h | ⟨h, he⟩⟩ := hrel
        · subst h
          have y1 : (u.drewN m).cell? ⟨g1, 0, none⟩ = some (.int .u64 (W p 0)) := hw1
          have y2 : (u.drewN m).cell? ⟨g2, 0, none⟩ = some (.int .u64 (W r 0)) := hw2
          by_cases he : W p 0 = W r 0
          · have hb1 : (W p 0 != W r 0) = false := by simp [he]
            have HE := hidd he
            clear he
            go_wp2
            go_quiet (fail)
            go_wp2
            refine ⟨⟨m + nq, ?_, .inr ⟨rfl, HE.out⟩⟩, by simp [intOf]⟩
            simp [World.drewN]
          · have hb1 : (W p 0 != W r 0) = true := by simp [he]
            have HE := hidd he
            clear he
            go_wp2
            go_quiet (fail)
            go_wp2
            go_ret
            refine ⟨false, rfl, ⟨(fun q => by cases q), fun q => absurd (W_congr fun j _ => q _) HE.out⟩, bel_drewN (bel_drewN (Below.refl _ _) m) nq⟩
        · subst h
          have HE := hidd he
          clear he
          go_wp2
          go_ret
          exact ⟨true, rfl, ⟨fun _ => W_all HP.out HR.out HE.out, fun _ => rfl⟩, bel_drewN (Below.refl _ _) m⟩
theorem pl_form {u : World} {v : Value} {p : Nat → Bool} (h : Pl u v p) : ∃ A n c, v = .agg #[.int .i64 0, .slice A n c] := by
  rcases h.2 with ⟨h1, _⟩ | ⟨b, c, i, h1, _⟩
  · exact ⟨_, _, _, h1⟩
  · exact ⟨_, _, _, h1⟩
set_option maxHeartbeats 1000000 in
theorem same_any (v v' : Value) (p r : Nat → Bool) (u : World) (hp : Pl u v p) (hr : Pl u v' r) : Calls Tryd.prog 76 #[v, v'] u fun e u' => SamR p r u e u' := by
  obtain ⟨A, n, c, rfl⟩ := pl_form hp
  obtain ⟨A', n', c', rfl⟩ := pl_form hr
  have R1 := RowA.new u 58 #[.int .i64 0, .slice A n c]
  have hs : (u.alloc (.cells #[.int .i64 0, .slice A n c] 58)).heap.size = u.heap.size + 1 := World.size_alloc ..
  have R2 := RowA.new (u.alloc (.cells #[.int .i64 0, .slice A n c] 58)) 58 #[.int .i64 0, .slice A' n' c']
  rw [hs] at R2
  have R1' := R1.alloc (.cells #[.int .i64 0, .slice A' n' c'] 58)
  have B2 : Below u.heap.size u ((u.alloc (.cells #[.int .i64 0, .slice A n c] 58)).alloc (.cells #[.int .i64 0, .slice A' n' c'] 58)) := ((Below.refl _ _).alloc (Nat.le_refl _) _).alloc (by omega) _
  have he := equal_any _ _ p r _ (hp.below B2) (hr.below B2)
  have HB2 := hidd B2
  have x0 : ((u.alloc (.cells #[.int .i64 0, .slice A n c] 58)).alloc (.cells #[.int .i64 0, .slice A' n' c'] 58)).cell? ⟨u.heap.size, 0, none⟩ = some (.int .i64 0) := R1'.at_ rfl
  have x1 : ((u.alloc (.cells #[.int .i64 0, .slice A n c] 58)).alloc (.cells #[.int .i64 0, .slice A' n' c'] 58)).cell? ⟨u.heap.size, 1, none⟩ = some (.slice A n c) := R1'.at_ rfl
  have y0 : ((u.alloc (.cells #[.int .i64 0, .slice A n c] 58)).alloc (.cells #[.int .i64 0, .slice A' n' c'] 58)).cell? ⟨u.heap.size + 1, 0, none⟩ = some (.int .i64 0) := R2.at_ rfl
  have y1 : ((u.alloc (.cells #[.int .i64 0, .slice A n c] 58)).alloc (.cells #[.int .i64 0, .slice A' n' c'] 58)).cell? ⟨u.heap.size + 1, 1, none⟩ = some (.slice A' n' c') := R2.at_ rfl
  clear R1 R2 R1' B2 hs hp hr
  go_enter Tryd.func76, Tryd.ntmps76
  go_wp2_with fail
  refine he.mono ?_
  rintro e u3 ⟨z, rfl, hz, b3⟩
  have HFIN : Hid (Below u.heap.size u u3) := HB2.out.trans (b3.mono HB2.out.size)
  have HZ := hidd hz
  clear he x0 x1 y0 y1 b3 hz
  go_wp2
  go_ret
  exact ⟨z, rfl, HZ.out, HFIN.out⟩
end Go.Proofs.YtcidimjjclanmaaDoor.Sy.Lg

/- Places: trimmed. -/
namespace Go.Proofs.YtcidimjjclanmaaDoor.Sy.Lg
open Go.RowKit Go.Proofs.YtcidimjjclanmaaDoor.Sy.Ap Go.Proofs.YtcidimjjclanmaaDoor.Sy.Ap.Wk
set_option maxRecDepth 100000
set_option linter.unusedVariables false

/-- As Pl, but the word may be 0. -/
def Pz (w : World) (v : Value) (p : Nat → Bool) : Prop :=
  (∀ i, p i = true → i < 64) ∧ ((v = .agg #[.int .i64 0, .slice none 0 0] ∧ ∀ i, p i = false) ∨
    ∃ b c, v = .agg #[.int .i64 0, .slice (some ⟨b, 0, none⟩) 1 c] ∧ 1 ≤ c ∧ b < w.heap.size ∧ w.cell? ⟨b, 0, none⟩ = some (.int .u64 (W p 0)))
def TrmR (w : World) (v : Value) (p : Nat → Bool) (e : Ending) (w' : World) : Prop := Below w.heap.size w w' ∧ ∃ v', e = .returned v' ∧ Pl w' v' p ∧ (v' = v ∨ plB v' = none)
set_option maxHeartbeats 1000000 in
theorem trimmed_any (v : Value) (p : Nat → Bool) (u : World) (h : Pz u v p) : Calls Tryd.prog 85 #[v] u fun e u' => TrmR u v p e u' := by
  rcases h.2 with ⟨rfl, hno⟩ | ⟨b, c, rfl, hc, hb, hcell⟩
  · have HN := hidd hno
    have HZ := hidd h.1
    clear hno h
    have R1 := RowA.new u 58 #[.int .i64 0, .slice none 0 0]
    have hs : (u.alloc (.cells #[.int .i64 0, .slice none 0 0] 58)).heap.size = u.heap.size + 1 := World.size_alloc ..
    have R2 := RowA.new (u.alloc (.cells #[.int .i64 0, .slice none 0 0] 58)) 58 #[.int .i64 0, .slice none 0 0]
    rw [hs] at R2
    have R1' := R1.alloc (.cells #[.int .i64 0, .slice none 0 0] 58)
    have B2 : Below u.heap.size u ((u.alloc (.cells #[.int .i64 0, .slice none 0 0] 58)).alloc (.cells #[.int .i64 0, .slice none 0 0] 58)) := ((Below.refl _ _).alloc (Nat.le_refl _) _).alloc (by omega) _
    clear R1 hs
    go_enter Tryd.func85, Tryd.ntmps85
    go_upto_region 1 with fail
    generalize (u.alloc (.cells #[.int .i64 0, .slice none 0 0] 58)).alloc (.cells #[.int .i64 0, .slice none 0 0] 58) = u2 at *
    have x0 : u2.cell? ⟨u.heap.size, 0, none⟩ = some (.int .i64 0) := R1'.at_ rfl
    have x1 : u2.cell? ⟨u.heap.size, 1, none⟩ = some (.slice none 0 0) := R1'.at_ rfl
    go_wp2
    go_quiet (fail)
    have R3 : RowA (u2.drewN nq) (u.heap.size + 1) 58 #[.int .i64 0, .slice none 0 0] := R2.drewN nq
    have B3 : Below u.heap.size u (u2.drewN nq) := bel_drewN B2 nq
    clear x0 x1 R1' R2 B2
    generalize u2.drewN nq = u3 at *
    have HRF := hidd (R3.row #[.int .i64 0, .slice none 0 0])
    have HB3 := hidd (bel_setRow B3 (u.heap.size + 1) #[.int .i64 0, .slice none 0 0] (by omega))
    go_wp2
    go_loopw [3, 4] (fun s3 s4 wr => s3 = .slice none 0 0 ∧ s4 = .int .i64 0 ∧ u3 = wr) (fun _ _ _ => 0)
    case atStart => exact ⟨rfl, rfl, rfl⟩
    case round =>
      obtain ⟨rfl, rfl, rfl⟩ := hrel
      go_wp2
      go_loopw [3] (fun s3 wr => s3 = .slice none 0 0 ∧ u3 = wr) (fun _ _ => 0)
      case atStart => exact ⟨rfl, rfl⟩
      case round =>
        obtain ⟨rfl, rfl⟩ := hrel
        go_wp2_with (refine wpList_store_row rfl 58 (.tmp 2) (.tmp 42) rfl (u.heap.size + 1) #[.int .i64 0, .slice none 0 0] rfl rfl 58 #[.int .i64 0, .slice none 0 0] R3 (pl_info _ _) rfl (ones2 rfl rfl) ?_)
        exact ret_places Tryd.results85 rfl HRF.out rfl ⟨HB3.out, _, rfl, ⟨HZ.out, .inl ⟨rfl, HN.out⟩⟩, .inl rfl⟩
  · by_cases hz : W p 0 = 0
    · have HNO : Hid (∀ i, p i = false) := fun i => by
        cases e : p i with
        | false => rfl
        | true => exact absurd hz (W_ne (h.1 i e) e)
      have HZ := hidd h.1
      rw [hz] at hcell
      clear h hz
      have R1 := RowA.new u 58 #[.int .i64 0, .slice (some ⟨b, 0, none⟩) 1 c]
      have hs : (u.alloc (.cells #[.int .i64 0, .slice (some ⟨b, 0, none⟩) 1 c] 58)).heap.size = u.heap.size + 1 := World.size_alloc ..
      have R2 := RowA.new (u.alloc (.cells #[.int .i64 0, .slice (some ⟨b, 0, none⟩) 1 c] 58)) 58 #[.int .i64 0, .slice none 0 0]
      rw [hs] at R2
      have R1' := R1.alloc (.cells #[.int .i64 0, .slice none 0 0] 58)
      have B2 : Below u.heap.size u ((u.alloc (.cells #[.int .i64 0, .slice (some ⟨b, 0, none⟩) 1 c] 58)).alloc (.cells #[.int .i64 0, .slice none 0 0] 58)) := ((Below.refl _ _).alloc (Nat.le_refl _) _).alloc (by omega) _
      clear R1 hs
      go_enter Tryd.func85, Tryd.ntmps85
      go_upto_region 1 with fail
      generalize (u.alloc (.cells #[.int .i64 0, .slice (some ⟨b, 0, none⟩) 1 c] 58)).alloc (.cells #[.int .i64 0, .slice none 0 0] 58) = u2 at *
      have x0 : u2.cell? ⟨u.heap.size, 0, none⟩ = some (.int .i64 0) := R1'.at_ rfl
      have x1 : u2.cell? ⟨u.heap.size, 1, none⟩ = some (.slice (some ⟨b, 0, none⟩) 1 c) := R1'.at_ rfl
      go_wp2
      go_quiet (fail)
      have R3 : RowA (u2.drewN nq) (u.heap.size + 1) 58 #[.int .i64 0, .slice none 0 0] := R2.drewN nq
      have B3 : Below u.heap.size u (u2.drewN nq) := bel_drewN B2 nq
      clear x0 x1 R1' R2 B2
      generalize u2.drewN nq = u3 at *
      have HRF := hidd (R3.row #[.int .i64 0, .slice none 0 0])
      have HB3 := hidd (bel_setRow B3 (u.heap.size + 1) #[.int .i64 0, .slice none 0 0] (by omega))
      have hc3 : u3.cell? ⟨b, 0, none⟩ = some (.int .u64 0) := by rw [B3.cell (by exact hb)]; exact hcell
      have hci : (1 : Int) ≤ (c : Int) := by omega
      go_wp2
      go_loopw [3, 4] (fun s3 s4 wr => u3 = wr ∧ ((s3 = .slice (some ⟨b, 0, none⟩) 1 c ∧ s4 = .int .i64 0) ∨ ∃ A c', s3 = .slice A 0 c' ∧ s4 = .int .i64 1)) (fun _ s4 _ => 1 - (intOf s4).toNat)
      case atStart => exact ⟨rfl, .inl ⟨rfl, rfl⟩⟩
      case round =>
        obtain ⟨rfl, ⟨rfl, rfl⟩ | ⟨A, c', rfl, rfl⟩⟩ := hrel
        · go_wp2
          exact ⟨⟨trivial, .inr ⟨_, _, rfl, rfl⟩⟩, by simp [intOf]⟩
        · go_wp2
          go_loopw [3] (fun s3 wr => s3 = .slice A 0 c' ∧ u3 = wr) (fun _ _ => 0)
          case atStart => exact ⟨rfl, rfl⟩
          case round =>
            obtain ⟨rfl, rfl⟩ := hrel
            go_wp2_with (refine wpList_store_row rfl 58 (.tmp 2) (.tmp 42) rfl (u.heap.size + 1) #[.int .i64 0, .slice none 0 0] rfl rfl 58 #[.int .i64 0, .slice none 0 0] R3 (pl_info _ _) rfl (ones2 rfl rfl) ?_)
            exact ret_places Tryd.results85 rfl HRF.out rfl ⟨HB3.out, _, rfl, ⟨HZ.out, .inl ⟨rfl, HNO.out⟩⟩, .inr rfl⟩
    · obtain ⟨k, hF⟩ := fst_some hz
      have HZ := hidd h.1
      have HK := hidd hF.2.1
      have hzb : (W p 0 == 0) = false := by simp [hz]
      have hzd : decide (W p 0 = 0) = false := by simp [hz]
      clear h hF
      have R1 := RowA.new u 58 #[.int .i64 0, .slice (some ⟨b, 0, none⟩) 1 c]
      have hs : (u.alloc (.cells #[.int .i64 0, .slice (some ⟨b, 0, none⟩) 1 c] 58)).heap.size = u.heap.size + 1 := World.size_alloc ..
      have R2 := RowA.new (u.alloc (.cells #[.int .i64 0, .slice (some ⟨b, 0, none⟩) 1 c] 58)) 58 #[.int .i64 0, .slice none 0 0]
      rw [hs] at R2
      have R1' := R1.alloc (.cells #[.int .i64 0, .slice none 0 0] 58)
      have B2 : Below u.heap.size u ((u.alloc (.cells #[.int .i64 0, .slice (some ⟨b, 0, none⟩) 1 c] 58)).alloc (.cells #[.int .i64 0, .slice none 0 0] 58)) := ((Below.refl _ _).alloc (Nat.le_refl _) _).alloc (by omega) _
      clear R1 hs
      go_enter Tryd.func85, Tryd.ntmps85
      go_upto_region 1 with fail
      generalize (u.alloc (.cells #[.int .i64 0, .slice (some ⟨b, 0, none⟩) 1 c] 58)).alloc (.cells #[.int .i64 0, .slice none 0 0] 58) = u2 at *
      have x0 : u2.cell? ⟨u.heap.size, 0, none⟩ = some (.int .i64 0) := R1'.at_ rfl
      have x1 : u2.cell? ⟨u.heap.size, 1, none⟩ = some (.slice (some ⟨b, 0, none⟩) 1 c) := R1'.at_ rfl
      go_wp2
      go_quiet (fail)
      have R3 : RowA (u2.drewN nq) (u.heap.size + 1) 58 #[.int .i64 0, .slice none 0 0] := R2.drewN nq
      have B3 : Below u.heap.size u (u2.drewN nq) := bel_drewN B2 nq
      clear x0 x1 R1' R2 B2
      generalize u2.drewN nq = u3 at *
      have HRF := hidd (R3.row #[.int .i64 0, .slice (some ⟨b, 0, none⟩) 1 c])
      have HB3 := hidd (bel_setRow B3 (u.heap.size + 1) #[.int .i64 0, .slice (some ⟨b, 0, none⟩) 1 c] (by omega))
      have hc3 : u3.cell? ⟨b, 0, none⟩ = some (.int .u64 (W p 0)) := by rw [B3.cell (by exact hb)]; exact hcell
      have hb3 : b < u3.heap.size := Nat.lt_of_lt_of_le hb B3.size
      have HCF : Hid ((u3.setRow (u.heap.size + 1) #[.int .i64 0, .slice (some ⟨b, 0, none⟩) 1 c]).cell? ⟨b, 0, none⟩ = some (.int .u64 (W p 0)) ∧ b < (u3.setRow (u.heap.size + 1) #[.int .i64 0, .slice (some ⟨b, 0, none⟩) 1 c]).heap.size) := by
        refine ⟨?_, Nat.lt_of_lt_of_le hb HB3.out.size⟩
        rw [HB3.out.cell (by exact hb)]
        exact hcell
      go_wp2
      go_loopw [3, 4] (fun s3 s4 wr => s3 = .slice (some ⟨b, 0, none⟩) 1 c ∧ s4 = .int .i64 0 ∧ u3 = wr) (fun _ _ _ => 0)
      case atStart => exact ⟨rfl, rfl, rfl⟩
      case round =>
        obtain ⟨rfl, rfl, rfl⟩ := hrel
        go_wp2
        go_loopw [3] (fun s3 wr => s3 = .slice (some ⟨b, 0, none⟩) 1 c ∧ u3 = wr) (fun _ _ => 0)
        case atStart => exact ⟨rfl, rfl⟩
        case round =>
          obtain ⟨rfl, rfl⟩ := hrel
          go_wp2_with (refine wpList_store_row rfl 58 (.tmp 2) (.tmp 45) rfl (u.heap.size + 1) #[.int .i64 0, .slice (some ⟨b, 0, none⟩) 1 c] rfl rfl 58 #[.int .i64 0, .slice none 0 0] R3 (pl_info _ _) rfl (ones2 rfl rfl) ?_)
          exact ret_places Tryd.results85 rfl HRF.out rfl ⟨HB3.out, _, rfl, ⟨HZ.out, .inr ⟨b, c, k, rfl, hc, HCF.out.2, HCF.out.1, HK.out⟩⟩, .inl rfl⟩
end Go.Proofs.YtcidimjjclanmaaDoor.Sy.Lg

/- Places: without. -/
namespace Go.Proofs.YtcidimjjclanmaaDoor.Sy.Lg.Wo
open Go.RowKit Go.Proofs.YtcidimjjclanmaaDoor.Sy.Ap Go.Proofs.YtcidimjjclanmaaDoor.Sy.Ap.Wk Go.Proofs.YtcidimjjclanmaaDoor.Sy.Lg.Pt Go.Proofs.YtcidimjjclanmaaDoor.Sy.Lg.Cp
set_option maxRecDepth 100000
set_option linter.unusedVariables false

def subB (p r : Nat → Bool) : Nat → Bool := fun i => p i && !r i
theorem W_sub (p r : Nat → Bool) : bits .andNot .u64 (W p 0) (W r 0) = W (subB p r) 0 := by
  rw [W_eq p, W_eq r, u64_andNot_nat _ _ (wN_lt _ _) (wN_lt _ _), W_eq]
  congr 1
  apply wN_ext
  · exact Nat.lt_of_le_of_lt Nat.and_le_left (wN_lt p 0)
  · intro j hj
    have hlt := wN_lt r 0
    rw [Nat.testBit_and, show 18446744073709551615 - wN r 0 = 2 ^ 64 - (wN r 0 + 1) from by omega, Nat.testBit_two_pow_sub_succ (by omega), wN_bit, wN_bit]
    simp [hj, subB]
end Go.Proofs.YtcidimjjclanmaaDoor.Sy.Lg.Wo
