/- NormEmpty: its walk. -/
import Derived.Test.YtgppanbikfobbaaBf
namespace Go.Proofs.Ytgppanbikfobbaa.Sy.Ap.Em
open Go.RowKit
set_option maxRecDepth 100000
set_option linter.unusedVariables false

structure EmB (w : World) (u : World) : Prop where
  bel : Below w.heap.size w u
theorem EmB.below {w u u' : World} (h : EmB w u) (hb : Below u.heap.size u u') : EmB w u' := ⟨h.bel.trans (hb.mono h.bel.size)⟩
set_option linter.unusedVariables false in
def EmGV (A A2 : Option Addr) (n n2 c c2 k k2 : Nat) (t : Nat) : Option Value :=
  match t with
  | 0 => some (.slice A n c)
  | 1 => some (.slice A2 n2 c2)
  | 6 => some (.slice A k c)
  | 7 => some (.slice A2 k2 c2)
  | 19 => some (.slice A n c)
  | 20 => some (.slice A n c)
  | 21 => some (.int .i64 (n : Int))
  | 22 => some (.int .i64 (k : Int))
  | 23 => some (.slice A k c)
  | 24 => some (.slice A2 n2 c2)
  | 25 => some (.slice A2 n2 c2)
  | 26 => some (.int .i64 (n2 : Int))
  | 27 => some (.int .i64 (k2 : Int))
  | 28 => some (.slice A2 k2 c2)
  | _ => none
set_option linter.unusedVariables false in
def EmGP (A A2 : Option Addr) (n n2 c c2 k k2 : Nat) (t : Nat) : Option (Value → World → Prop) :=
  match t with
  | _ => none
def EmG (A A2 : Option Addr) (n n2 c c2 k k2 : Nat) (t : Nat) (v : Value) (u : World) : Prop := (∀ z9, EmGV A A2 n n2 c c2 k k2 t = some z9 → v = z9) ∧ ∀ R, EmGP A A2 n n2 c c2 k k2 t = some R → R v u
/-- What the last tests read: both trees, the first one, two rows of kids. -/
structure EmT (g9 bx ox q1 q2 k kk : Nat) (l lx : List NR) (u : World) : Prop where
  both : ∀ j v, (nodesC l)[j]? = some v → u.cell? ((⟨g9, 0, none⟩ : Addr).add j) = some v
  xs : ∀ j v, (nodesC lx)[j]? = some v → u.cell? ((⟨bx, ox, none⟩ : Addr).add j) = some v
  gl : g9 < u.heap.size
  xl : bx < u.heap.size
  itb : ∀ x ∈ l, Its u u.heap.size x.2.1 x.1.l
  itx : ∀ x ∈ lx, Its u u.heap.size x.2.1 x.1.l
  two : Its u u.heap.size (some ⟨q2, 0, none⟩) [(k : Int) - 1, (kk : Int) - 1]
  one : Its u u.heap.size (some ⟨q1, 0, none⟩) [(k : Int) - 1]
theorem EmT.below {g9 bx ox q1 q2 k kk : Nat} {l lx : List NR} {u u' : World} (h : EmT g9 bx ox q1 q2 k kk l lx u) (hb : Below u.heap.size u u') : EmT g9 bx ox q1 q2 k kk l lx u' :=
  ⟨fun j v hv => by rw [addr_addO, hb.cell (by exact h.gl), ← addr_addO]; exact h.both j v hv, fun j v hv => by rw [addr_addO, hb.cell (by exact h.xl), ← addr_addO]; exact h.xs j v hv, Nat.lt_of_lt_of_le h.gl hb.size, Nat.lt_of_lt_of_le h.xl hb.size,
    fun x hx => ((h.itb x hx).below hb).more hb.size, fun x hx => ((h.itx x hx).below hb).more hb.size, (h.two.below hb).more hb.size, (h.one.below hb).more hb.size⟩
theorem its_new (w : World) (xs : List Int) : Its (w.alloc (.cells (xs.map (.int .i64 ·)).toArray 3)) (w.alloc (.cells (xs.map (.int .i64 ·)).toArray 3)).heap.size (some ⟨w.heap.size, 0, none⟩) xs := fun _ => by
  refine ⟨w.heap.size, 0, rfl, by rw [World.size_alloc]; omega, fun i hi => ?_⟩
  rw [World.cell?_alloc_new, Nat.zero_add, List.getElem?_toArray, List.getElem?_map, List.getElem?_eq_getElem hi, List.getD_eq_getElem?_getD, List.getElem?_eq_getElem hi]
  rfl
theorem cell_alloc {w : World} {b : Nat} (o : Obj) (hb : b < w.heap.size) (k : Nat) : (w.alloc o).cell? ⟨b, k, none⟩ = w.cell? ⟨b, k, none⟩ := ((Below.refl w.heap.size w).alloc (Nat.le_refl _) o).cell hb
theorem catC (op : Int) (a b : Int) (q : Nat) : gdL (catG op [a, b]) (some ⟨q, 0, none⟩) 2 = [.int .u8 op, .int .u64 0, .int .u64 0, .int .u64 0, .int .u64 0, .slice (some ⟨q, 0, none⟩) 2 2, .int .i64 0, .int .i64 0, .string { data := #[] }] := by
  simp only [gdL, catG, W_zero, List.length_cons, List.length_nil, Nat.zero_add, Nat.reduceAdd]
theorem repC (a lo hi : Int) (q : Nat) : gdL (repG a lo hi) (some ⟨q, 0, none⟩) 1 = [.int .u8 5, .int .u64 0, .int .u64 0, .int .u64 0, .int .u64 0, .slice (some ⟨q, 0, none⟩) 1 1, .int .i64 lo, .int .i64 hi, .string { data := #[] }] := by
  simp only [gdL, repG, W_zero, List.length_cons, List.length_nil, Nat.zero_add]
/-- What the four trees are, and whether they may be nothing. -/
theorem em_math {gx gy : List Gd} {ns ms : List Nd} {k k2 kk : Nat} (hx : GN gx ns) (hy : GN gy ms) (tx : TreeN ns) (ty : TreeN ms) (h1 : gx.length = k) (h2 : gy.length = k2) (hkk : kk = k + k2) (hs1 : k ≤ 100) (hs2 : k2 ≤ 100) :
    (∃ T, GN (gx ++ gy.map (shfG gx.length) ++ [catG 3 [(k : Int) - 1, (kk : Int) - 1]]) T ∧ TreeN T ∧ nulN T = (nulN ns && nulN ms)) ∧
    (∃ T, GN (gx ++ gy.map (shfG gx.length) ++ [catG 4 [(k : Int) - 1, (kk : Int) - 1]]) T ∧ TreeN T ∧ nulN T = (nulN ns || nulN ms)) ∧
    (∃ T, GN (gx ++ [repG ((k : Int) - 1) 0 3]) T ∧ TreeN T ∧ nulN T = true) ∧
    (∃ T, GN (gx ++ [repG ((k : Int) - 1) 2 (-1)]) T ∧ TreeN T ∧ nulN T = nulN ns) := by
  have l1 : ns.length = k := by rw [← hx.1]; exact h1
  have l2 : ms.length = k2 := by rw [← hy.1]; exact h2
  have p1 := tx.pos
  have p2 := ty.pos
  have ek := two_kids (ns := ns) (ms := ms) (k := k) (kk := kk) l1 (by omega) p1
  have eo : (k : Int) - 1 = ((ns.length - 1 : Nat) : Int) := by omega
  have hsh := shape_kids (l := [ns.length - 1, ns.length + ms.length - 1]) (by simp)
  refine ⟨?_, ?_, ?_, ?_⟩
  · obtain ⟨q1, q2⟩ := pair_nodes hx hy tx ty (by omega) (gn_cat [ns.length - 1, ns.length + ms.length - 1]) hsh.1 rfl
    refine ⟨_, by rw [ek]; exact q1, q2, ?_⟩
    rw [nul_last]
    show (((mayL (ns ++ ms.map (shN ns.length))).getD (ns.length - 1) false) && (((mayL (ns ++ ms.map (shN ns.length))).getD (ns.length + ms.length - 1) false) && true)) = _
    rw [both_first p1, both_second ty, Bool.and_true]
  · obtain ⟨q1, q2⟩ := pair_nodes hx hy tx ty (by omega) (gn_alt [ns.length - 1, ns.length + ms.length - 1]) hsh.2 rfl
    refine ⟨_, by rw [ek]; exact q1, q2, ?_⟩
    rw [nul_last]
    show (((mayL (ns ++ ms.map (shN ns.length))).getD (ns.length - 1) false) || (((mayL (ns ++ ms.map (shN ns.length))).getD (ns.length + ms.length - 1) false) || false)) = _
    rw [both_first p1, both_second ty, Bool.or_false]
  · refine ⟨ns ++ [ndRep (ns.length - 1) 0 3], gn_snoc hx (by rw [eo]; exact Go.Proofs.Ytgppanbikfobbaa.Sy.gn_rep _ _ _), one_tree tx (by omega) (shape_rep (by omega) (by omega) (.inr ⟨by omega, by omega, by omega⟩)) rfl, ?_⟩
    rw [nul_last]
    rfl
  · refine ⟨ns ++ [ndRep (ns.length - 1) 2 (-1)], gn_snoc hx (by rw [eo]; exact Go.Proofs.Ytgppanbikfobbaa.Sy.gn_rep _ _ _), one_tree tx (by omega) (shape_rep (by omega) (by omega) (.inl rfl)) rfl, ?_⟩
    rw [nul_last]
    rfl
set_option maxHeartbeats 4000000 in
theorem lawEmpty_any (A : Option Addr) (c : Nat) (l : List Gd) (A2 : Option Addr) (c2 : Nat) (m : List Gd) (w : World) (hN0 : Nds w w.heap.size A l) (hc0 : l.length ≤ c) (hm0 : l.length ≤ maxLen) (hsm0 : Small l) (hN1 : Nds w w.heap.size A2 m) (hc1 : m.length ≤ c2) (hm1 : m.length ≤ maxLen) (hsm1 : Small m) :
    Calls Try.prog 5 #[.slice A l.length c, .slice A2 m.length c2] w fun e w' => e = .returned (.bool true) ∧ Below w.heap.size w w' := by
  have hsh := shown_any w
  obtain ⟨i0, hi0, hz0, hz1, hz2⟩ := info_parts node_info
  obtain ⟨j0, hj0i, hy0, hy1, hy2⟩ := info_parts int_info
  unfold maxLen at hm0 hm1
  have hN := nds_take hN0 100
  have hsm := small_take hsm0 100
  have hM := nds_take hN1 100
  have hsy := small_take hsm1 100
  have hk1 : (l.take 100).length ≤ c := by rw [List.length_take]; omega
  have hk2 : (l.take 100).length ≤ 100 := by rw [List.length_take]; omega
  have hmx : min (l.length : Int) 100 = ((l.take 100).length : Int) := by rw [List.length_take]; omega
  have hkl : (l.take 100).length ≤ l.length := by rw [List.length_take]; omega
  have hj1 : (m.take 100).length ≤ c2 := by rw [List.length_take]; omega
  have hj2 : (m.take 100).length ≤ 100 := by rw [List.length_take]; omega
  have hmy : min (m.length : Int) 100 = ((m.take 100).length : Int) := by rw [List.length_take]; omega
  have hjl : (m.take 100).length ≤ m.length := by rw [List.length_take]; omega
  clear hN0 hsm0 hN1 hsm1
  generalize l.length = n at *
  generalize m.length = n2 at *
  generalize l.take 100 = gx at *
  generalize m.take 100 = gy at *
  clear l m
  have HRX : Hid (∀ u, Below w.heap.size w u → Calls Try.prog 18 #[.slice A gx.length c] u fun e w' => RgtR gx u e w') := fun u hu => refRight_any A c gx u ((hN.below hu).more hu.size) (by omega) hsm
  have HRY : Hid (∀ u, Below w.heap.size w u → Calls Try.prog 18 #[.slice A2 gy.length c2] u fun e w' => RgtR gy u e w') := fun u hu => refRight_any A2 c2 gy u ((hM.below hu).more hu.size) (by omega) hsy
  have HNB : Hid (∀ u, Below w.heap.size w u → ¬ RightG gx → Calls Try.prog 14 #[.slice A gx.length c] u fun e w' => NulR u false e w') := fun u hu hno => null_bad A c gx u ((hN.below hu).more hu.size) (by omega) hsm hno
  have HFB : Hid (∀ u, Below w.heap.size w u → ¬ RightG gy → Calls Try.prog 12 #[.slice A2 gy.length c2] u fun e w' => Below u.heap.size u w' ∧ e = .returned (.slice none 0 0)) := fun u hu hno => fold_bad A2 c2 gy u ((hM.below hu).more hu.size) (by omega) hsy hno
  have HN := hidd hN
  have HM := hidd hM
  clear hN hsm hM hsy
  generalize hk : gx.length = k at *
  have HK := hidd hk
  generalize hk' : gy.length = k2 at *
  have HK2 := hidd hk'
  clear hk hk'
  have hki : (k : Int) ≤ (c : Int) := by omega
  have hk0 : (0 : Int) ≤ (k : Int) := by omega
  have hji : (k2 : Int) ≤ (c2 : Int) := by omega
  have hj0 : (0 : Int) ≤ (k2 : Int) := by omega
  go_enter Try.func5, Try.ntmps5
  go_wp2_with fail
  refine hsh.mono ?_
  rintro e w1 ⟨rfl, b1⟩
  clear hsh
  go_upto_region 2 with fail
  have S1 : EmB w w1 := ⟨b1⟩
  clear b1
  refine wp_region_slots (EmB w) (EmG A A2 n n2 c c2 k k2) (by kernel_rfl) (by kernel_rfl) (by kernel_rfl) ?_ (S1.below (bel_drew (Below.refl _ _))) [0, 1] (by kernel_rfl) ?_ ?_ ?_
  · intro t v u u' h hb
    refine ⟨h.1, fun R hR => ?_⟩
    unfold EmGP at hR
    cases hR
  · intro u _
    refine ⟨⟨_, rfl, ?_⟩, ⟨_, rfl, ?_⟩, trivial⟩ <;> exact ⟨fun _ h => Option.some.inj h, fun _ h => no_some h⟩
  · refine ⟨?_, ?_, ?_, ?_, ?_, ?_, ?_, ?_, ?_, ?_, ?_, ?_, trivial⟩
    · intro a u hS hr K hK
      obtain ⟨⟨vl0, e0, g0⟩, -⟩ := hr
      obtain rfl := g0.1 _ rfl
      clear g0
      rw [if_pos (want_none rfl)]
      unfold Oper.wp
      go_simp
      exact hK _ _ ⟨fun _ h => Option.some.inj h, fun _ h => no_some h⟩ hS (Below.refl _ _)
    · intro a u hS hr K hK
      obtain ⟨⟨vl0, e0, g0⟩, -⟩ := hr
      obtain rfl := g0.1 _ rfl
      clear g0
      rw [if_pos (want_none rfl)]
      unfold Oper.wp
      go_simp
      exact hK _ _ ⟨fun _ h => Option.some.inj h, fun _ h => no_some h⟩ hS (Below.refl _ _)
    · intro a u hS hr K hK
      obtain ⟨⟨vl0, e0, g0⟩, -⟩ := hr
      obtain rfl := g0.1 _ rfl
      clear g0
      rw [if_pos (want_none rfl)]
      unfold Oper.wp
      go_simp
      exact hK _ _ ⟨fun _ h => Option.some.inj h, fun _ h => no_some h⟩ hS (Below.refl _ _)
    · intro a u hS hr K hK
      obtain ⟨⟨vl0, e0, g0⟩, -⟩ := hr
      obtain rfl := g0.1 _ rfl
      clear g0
      rw [if_pos (want_none rfl)]
      unfold Oper.wp
      go_simp
      exact hK _ _ ⟨fun _ h => Option.some.inj h, fun _ h => no_some h⟩ hS (Below.refl _ _)
    · intro a u hS hr K hK
      obtain ⟨⟨vl0, e0, g0⟩, ⟨vl1, e1, g1⟩, -⟩ := hr
      obtain rfl := g0.1 _ rfl
      clear g0
      obtain rfl := g1.1 _ rfl
      clear g1
      rw [if_pos (want_none rfl)]
      unfold Oper.wp
      go_simp
      exact hK _ _ ⟨fun _ h => Option.some.inj h, fun _ h => no_some h⟩ hS (Below.refl _ _)
    · intro a u hS hr K hK
      obtain ⟨⟨vl0, e0, g0⟩, -⟩ := hr
      obtain rfl := g0.1 _ rfl
      clear g0
      rw [if_pos (want_none rfl)]
      unfold Oper.wp
      go_simp
      exact hK _ _ ⟨fun _ h => Option.some.inj h, fun _ h => no_some h⟩ hS (Below.refl _ _)
    · intro a u hS hr K hK
      obtain ⟨⟨vl0, e0, g0⟩, -⟩ := hr
      obtain rfl := g0.1 _ rfl
      clear g0
      rw [if_pos (want_none rfl)]
      unfold Oper.wp
      go_simp
      exact hK _ _ ⟨fun _ h => Option.some.inj h, fun _ h => no_some h⟩ hS (Below.refl _ _)
    · intro a u hS hr K hK
      obtain ⟨⟨vl0, e0, g0⟩, -⟩ := hr
      obtain rfl := g0.1 _ rfl
      clear g0
      rw [if_pos (want_none rfl)]
      unfold Oper.wp
      go_simp
      exact hK _ _ ⟨fun _ h => Option.some.inj h, fun _ h => no_some h⟩ hS (Below.refl _ _)
    · intro a u hS hr K hK
      obtain ⟨⟨vl0, e0, g0⟩, -⟩ := hr
      obtain rfl := g0.1 _ rfl
      clear g0
      rw [if_pos (want_none rfl)]
      unfold Oper.wp
      go_simp
      exact hK _ _ ⟨fun _ h => Option.some.inj h, fun _ h => no_some h⟩ hS (Below.refl _ _)
    · intro a u hS hr K hK
      obtain ⟨⟨vl0, e0, g0⟩, ⟨vl1, e1, g1⟩, -⟩ := hr
      obtain rfl := g0.1 _ rfl
      clear g0
      obtain rfl := g1.1 _ rfl
      clear g1
      rw [if_pos (want_none rfl)]
      unfold Oper.wp
      go_simp
      exact hK _ _ ⟨fun _ h => Option.some.inj h, fun _ h => no_some h⟩ hS (Below.refl _ _)
    · intro a u hS hr K hK
      obtain ⟨⟨vl0, e0, g0⟩, -⟩ := hr
      obtain rfl := g0.1 _ rfl
      clear g0
      rw [if_pos (want_none rfl)]
      unfold Oper.wp
      go_simp
      exact hK _ _ ⟨fun _ h => Option.some.inj h, fun _ h => no_some h⟩ hS (Below.refl _ _)
    · intro a u hS hr K hK
      obtain ⟨⟨vl0, e0, g0⟩, -⟩ := hr
      obtain rfl := g0.1 _ rfl
      clear g0
      rw [if_pos (want_none rfl)]
      unfold Oper.wp
      go_simp
      exact hK _ _ ⟨fun _ h => Option.some.inj h, fun _ h => no_some h⟩ hS (Below.refl _ _)
  intro a w2 hS hts hd hkn hf
  have B2 := hS.bel
  clear hS S1
  obtain ⟨v19, e19, g19⟩ := hf 0 _ 19 rfl rfl
  obtain ⟨v20, e20, g20⟩ := hf 1 _ 20 rfl rfl
  obtain ⟨v21, e21, g21⟩ := hf 2 _ 21 rfl rfl
  obtain ⟨v22, e22, g22⟩ := hf 3 _ 22 rfl rfl
  obtain ⟨v23, e23, g23⟩ := hf 4 _ 23 rfl rfl
  obtain ⟨v24, e24, g24⟩ := hf 5 _ 24 rfl rfl
  obtain ⟨v25, e25, g25⟩ := hf 6 _ 25 rfl rfl
  obtain ⟨v26, e26, g26⟩ := hf 7 _ 26 rfl rfl
  obtain ⟨v27, e27, g27⟩ := hf 8 _ 27 rfl rfl
  obtain ⟨v28, e28, g28⟩ := hf 9 _ 28 rfl rfl
  obtain ⟨v6, e6, g6⟩ := hf 10 _ 6 rfl rfl
  obtain ⟨v7, e7, g7⟩ := hf 11 _ 7 rfl rfl
  have hA := act_puts [(19, v19), (20, v20), (21, v21), (22, v22), (23, v23), (24, v24), (25, v25), (26, v26), (27, v27), (28, v28), (6, v6), (7, v7)] hts hd hkn (by kernel_rfl) (by simp [e19, e20, e21, e22, e23, e24, e25, e26, e27, e28, e6, e7])
  clear hf hts hd hkn e19 e20 e21 e22 e23 e24 e25 e26 e27 e28 e6 e7
  obtain rfl := g19.1 _ rfl
  clear g19
  obtain rfl := g20.1 _ rfl
  clear g20
  obtain rfl := g21.1 _ rfl
  clear g21
  obtain rfl := g22.1 _ rfl
  clear g22
  obtain rfl := g23.1 _ rfl
  clear g23
  obtain rfl := g24.1 _ rfl
  clear g24
  obtain rfl := g25.1 _ rfl
  clear g25
  obtain rfl := g26.1 _ rfl
  clear g26
  obtain rfl := g27.1 _ rfl
  clear g27
  obtain rfl := g28.1 _ rfl
  clear g28
  obtain rfl := g6.1 _ rfl
  clear g6
  obtain rfl := g7.1 _ rfl
  clear g7
  subst hA
  simp only [List.foldl, List.setIfInBounds_toArray, List.set_cons_zero, List.set_cons_succ]
  simp only [Exit.then]
  apply_assumption
  have hr := HRX.out w2 B2
  have HB2 := hidd B2
  clear B2 w1
  go_wp2_with fail
  refine hr.mono ?_
  rintro e w3 ⟨z, rfl, hz, b3⟩
  have B3 := HB2.out.trans (b3.mono HB2.out.size)
  clear hr b3 HB2
  cases z with
  | false =>
    have hno : ¬ RightG gx := fun q => by have := hz.2 q; cases this
    have hr := HRX.out w3 B3
    have HB3 := hidd B3
    have HNO := hidd hno
    clear hz hno B3
    go_wp2_with fail
    refine hr.mono ?_
    rintro e w4 ⟨z, rfl, hz, b4⟩
    have hzf : z = false := by
      cases z with
      | false => rfl
      | true => exact absurd (hz.1 rfl) HNO.out
    subst hzf
    have B4 := HB3.out.trans (b4.mono HB3.out.size)
    have hn := HNB.out w4 B4 HNO.out
    have HB4 := hidd B4
    clear hr hz b4 B4 HB3
    go_wp2_with fail
    refine hn.mono ?_
    rintro e w5 ⟨rfl, b5⟩
    have B5 := HB4.out.trans (b5.mono HB4.out.size)
    have hr := HRY.out w5 B5
    have HB5 := hidd B5
    clear hn b5 B5 HB4
    go_wp2_with fail
    refine hr.mono ?_
    rintro e w6 ⟨z, rfl, hz, b6⟩
    have B6 := HB5.out.trans (b6.mono HB5.out.size)
    clear hr b6 HB5
    cases z with
    | true =>
      have HB6 := hidd B6
      clear hz B6
      go_wp2
      go_ret
      exact ⟨rfl, HB6.out⟩
    | false =>
      have hf := HFB.out w6 B6 (fun q => by have := hz.2 q; cases this)
      have HB6 := hidd B6
      clear hz B6
      go_wp2_with fail
      refine hf.mono ?_
      rintro e w7 ⟨b7, rfl⟩
      have HB7 := hidd (HB6.out.trans (b7.mono HB6.out.size))
      clear hf b7
      go_wp2
      go_ret
      exact ⟨rfl, HB7.out⟩
  | true =>
    obtain ⟨ns, hg, ht⟩ := gn_tree (hz.1 rfl)
    have HGX := hidd hg
    have HTX := hidd ht
    have hr := HRY.out w3 B3
    have HB3 := hidd B3
    clear hz hg ht B3
    go_wp2_with fail
    refine hr.mono ?_
    rintro e w4 ⟨z, rfl, hz, b4⟩
    have B4 := HB3.out.trans (b4.mono HB3.out.size)
    clear hr b4 HB3
    cases z with
    | false =>
      have hno : ¬ RightG gy := fun q => by have := hz.2 q; cases this
      have HNO := hidd hno
      have hr := HRX.out w4 B4
      have HB4 := hidd B4
      clear hz hno B4
      go_wp2_with fail
      refine hr.mono ?_
      rintro e w5 ⟨z, rfl, hz, b5⟩
      have hzt : z = true := hz.2 (tree_rg HGX.out HTX.out)
      subst hzt
      have B5 := HB4.out.trans (b5.mono HB4.out.size)
      have hr := HRY.out w5 B5
      have HB5 := hidd B5
      clear hz b5 B5 HB4
      go_wp2_with fail
      refine hr.mono ?_
      rintro e w6 ⟨z, rfl, hz, b6⟩
      have hzf : z = false := by
        cases z with
        | false => rfl
        | true => exact absurd (hz.1 rfl) HNO.out
      subst hzf
      have B6 := HB5.out.trans (b6.mono HB5.out.size)
      have hf := HFB.out w6 B6 HNO.out
      have HB6 := hidd B6
      clear hr hz b6 B6 HB5
      go_wp2_with fail
      refine hf.mono ?_
      rintro e w7 ⟨b7, rfl⟩
      have HB7 := hidd (HB6.out.trans (b7.mono HB6.out.size))
      clear hf b7
      go_wp2
      go_ret
      exact ⟨rfl, HB7.out⟩
    | true =>
      obtain ⟨ms, hg, ht⟩ := gn_tree (hz.1 rfl)
      have HGY := hidd hg
      have HTY := hidd ht
      have hn := null_ok A c gx ns w4 ((HN.out.below B4).more B4.size) HGX.out HTX.out
      rw [HK.out] at hn
      have HB4 := hidd B4
      clear hz hg ht B4
      go_wp2_with fail
      refine hn.mono ?_
      rintro e w5 ⟨rfl, b5⟩
      have B5 := HB4.out.trans (b5.mono HB4.out.size)
      have hn := null_ok A2 c2 gy ms w5 ((HM.out.below B5).more B5.size) HGY.out HTY.out
      rw [HK2.out] at hn
      have HB5 := hidd B5
      clear b5 B5 HB4
      go_wp2_with fail
      refine hn.mono ?_
      rintro e w6 ⟨rfl, b6⟩
      have B6 := HB5.out.trans (b6.mono HB5.out.size)
      clear hn b6 HB5 HRX HRY HNB HFB
      have NX := (HN.out.below B6).more B6.size
      have NY := (HM.out.below B6).more B6.size
      have hpos : 0 < k := by have := HTX.out.pos; have := HGX.out.1; have := HK.out; omega
      have hpos2 : 0 < k2 := by have := HTY.out.pos; have := HGY.out.1; have := HK2.out; omega
      obtain ⟨bx, ox, lx, rfl, hbx, hmapx, hcx, hix⟩ := nds_cells NX (fun q => by have := HK.out; rw [q] at this; simp at this; omega)
      have hlx : lx.length = k := by have := congrArg List.length hmapx; rw [List.length_map] at this; rw [this]; exact HK.out
      have hown := World.ownsRow_lit (e := 41) (size := 9) w6 #[] 0 (Nat.le_refl _) (by unfold maxLen; omega) rfl
      have hbA : Below w6.heap.size w6 (w6.alloc (.cells #[] 41)) := (Below.refl _ _).alloc (Nat.le_refl _) _
      have hH : (w6.alloc (.cells #[] 41)).heap.size = w6.heap.size + 1 := World.size_alloc ..
      have hbase : w6.heap.size ≤ (w6.alloc (.cells #[] 41)).heap.size := by rw [hH]; omega
      have hnews : ∀ j u, (nodesC lx)[j]? = some u → (w6.alloc (.cells #[] 41)).cell? ((⟨bx, ox, none⟩ : Addr).add j) = some u := fun j u hu => by
        rw [addr_addO, cell_alloc _ hbx, ← addr_addO]
        exact hcx j u hu
      have hlen9 : (nodesC lx).length = k * 9 := by rw [nodesC_len, hlx]
      have HIX := hidd hix
      have HCX := hidd hcx
      have HLX := hidd hlx
      have HMX := hidd hmapx
      have HNY := hidd NY
      have HB6 := hidd B6
      clear NX NY B6 hix hcx hlx hmapx HN HM
      go_upto_region 7 with (at_builtin; refine wpList_append_lies _ rfl _ _ _ rfl w6.heap.size 41 i0 (.agg zeroC) 9 96 Try.underlying22 hi0 hz0 hz1 hz2 rfl (by omega) _ 0 [] rfl hown ⟨bx, ox, none⟩ k c (nodesC lx) rfl hlen9 hnews (nodesC_one lx) hpos (by simp only [maxLen]; omega) (by omega) hbase (w6.heap.size + 1) hH ?_; intro g7 cap7 w7 hown7 hgrow hat hlt7; rw [Nat.zero_add] at hown7; rw [Nat.zero_add]; refine Hid.out ?_)
      have HS0 : Hid (PrS w6 gx gy 0 (.slice (some ⟨g7, 0, none⟩) k cap7) lx w7) := PrS.first HMX.out HIX.out (by rw [HLX.out]; exact hown7) (bel_row hbA hbase hgrow (fun q hq => by cases hq; exact Nat.le_refl _))
      clear hown hbA hH hbase hnews hlen9 hown7 hgrow hat hlt7
      refine Lib.hid ?_
      go_wp2
      go_loopw [10, 66] (fun s10 s66 wr => ∃ (i : Nat) (l : List NR), i ≤ k2 ∧ s66 = .int .i64 (i : Int) ∧ PrS w6 gx gy i s10 l wr) (fun _ s66 _ => k2 - (intOf s66).toNat)
      case atStart => exact ⟨0, _, Nat.zero_le _, rfl, HS0.out⟩
      case round =>
        clear HS0
        obtain ⟨i, l, hi0', rfl, L⟩ := hrel
        have D := L.bel
        have hll := L.len (by rw [HK2.out]; exact hi0')
        rw [HK.out] at hll
        by_cases hlt : i < k2
        · obtain ⟨A9, c9, rfl⟩ := own_form L.own
          have hlt2 : i < gy.length := by rw [HK2.out]; exact hlt
          obtain ⟨bb, o1, rfl, hb1, A3, c3, I1, r1⟩ := (HNY.out.below D).at_ hlt2
          have HKV : Hid (∀ j, j < (gy.getD i gd0).l.length → 0 ≤ (gy.getD i gd0).l.getD j 0 ∧ (gy.getD i gd0).l.getD j 0 < 1024) := fun j hj => gn_kid HGY.out HTY.out hlt2 hj
          have hgm : gy.getD i gd0 ∈ gy := by
            rw [List.getD_eq_getElem?_getD, List.getElem?_eq_getElem hlt2]
            exact List.getElem_mem hlt2
          have hkd := gn_kids HGY.out HTY.out _ hgm
          generalize hgd : gy.getD i gd0 = g at *
          have HGD := hidd hgd
          clear hgd hgm
          generalize hml : g.l.length = mm at *
          have HML := hidd hml
          have hrow : gdL g A3 c3 = [.int .u8 g.op, .int .u64 (W g.s 0), .int .u64 (W g.s 1), .int .u64 (W g.s 2), .int .u64 (W g.s 3), .slice A3 mm c3, .int .i64 g.lo, .int .i64 g.hi, .string g.nm] := by unfold gdL; rw [hml]
          have HROW := hidd hrow
          clear hml hrow
          have hki2 : (i : Int) < (k2 : Int) := by omega
          have hbs := D.size
          have HL := hidd L
          have Z1 := RowA.new wr 41 zeroC
          have hW1 : Below wr.heap.size wr ((wr.alloc (.cells zeroC 41)).setRow wr.heap.size (gdL g A3 c3).toArray) := bel_setRow ((Below.refl _ _).alloc (Nat.le_refl _) _) _ _ (Nat.le_refl _)
          have R1 := Z1.row (gdL g A3 c3).toArray
          go_upto_region 10 with (first
            | refine wpList_load_mid rfl 41 (.tmp 68) rfl bb (o1 + i * 9) rfl (gdL g A3 c3) _ r1 Try.underlying41 rfl (gdL_info g A3 c3) ?_
            | refine wpList_store_row rfl 41 (.tmp 12) (.tmp 69) rfl wr.heap.size (gdL g A3 c3).toArray rfl rfl 41 zeroC Z1 (gdL_infoA g A3 c3) rfl (gdL_one g A3 c3) ?_)
          change RowA ((wr.alloc (.cells zeroC 41)).setRow wr.heap.size (gdL g A3 c3).toArray) _ _ _ at R1
          have B2 := hW1
          generalize (wr.alloc (.cells zeroC 41)).setRow wr.heap.size (gdL g A3 c3).toArray = w2' at *
          obtain ⟨q, hq⟩ : ∃ q, wr.heap.size = q := ⟨_, rfl⟩
          rw [hq] at R1 B2
          rw [hq]
          have HQ := hidd hq
          have I2 := (I1.below (B2.mono (by omega))).more (Nat.le_trans (by omega) B2.size)
          have hrow := HROW.out
          rw [hrow] at R1
          have HR1 := hidd R1
          have HB2 := hidd B2
          have HI2 := hidd I2
          have hqs : q < w2'.heap.size := R1.lt
          have x5 : w2'.cell? ⟨q, 5, none⟩ = some (.slice A3 mm c3) := R1.at_ rfl
          have hsz2 : w6.heap.size ≤ w2'.heap.size := by have := B2.size; omega
          clear Z1 hW1 r1 R1 B2 I1 I2 L D hq hrow
          rw [put_none]
          obtain ⟨w0, hw0⟩ : ∃ w0, w0 = wr := ⟨_, rfl⟩
          subst hw0
          have HO0 : Hid (w2'.ownsRow w2'.heap.size 3 1 (.slice none 0 0) 0 (ints ((g.l.take 0).map fun x => x + (k : Int)))) := World.ownsRow_nil _ _ _ _
          go_wp2
          go_loopw [13, 73] (fun s13 s73 ur => ∃ j : Nat, j ≤ mm ∧ s73 = .int .i64 (j : Int) ∧ ur.ownsRow w2'.heap.size 3 1 s13 j (ints ((g.l.take j).map fun x => x + (k : Int))) ∧ Below w2'.heap.size w2' ur) (fun _ s73 _ => mm - (intOf s73).toNat)
          case atStart => exact ⟨0, Nat.zero_le _, rfl, HO0.out, Below.refl _ _⟩
          case round =>
            clear HO0
            obtain ⟨j, hj0', rfl, o1', D2⟩ := hrel
            obtain ⟨A13, c13, rfl⟩ := own_form o1'
            by_cases hjt : j < mm
            · have hjt2 : j < g.l.length := by rw [HML.out]; exact hjt
              obtain ⟨gk, ok, rfl, hgk, hcell⟩ := (HI2.out.below D2).at_ hjt2
              have hv := HKV.out j hjt
              have htk := takeI_snoc hjt2
              generalize g.l.getD j 0 = v at *
              have HTK := hidd htk
              clear htk
              have hjji : (j : Int) < (mm : Int) := by omega
              have hown := o1'.alloc (.cells #[.int .i64 (v + (k : Int))] 3)
              have hnews := int_news wr (v + (k : Int))
              have hH : (wr.alloc (.cells #[.int .i64 (v + (k : Int))] 3)).heap.size = wr.heap.size + 1 := World.size_alloc ..
              have hds := D2.size
              have hbase : w2'.heap.size ≤ (wr.alloc (.cells #[.int .i64 (v + (k : Int))] 3)).heap.size := by rw [hH]; omega
              have HDA := hidd (D2.alloc D2.size (.cells #[.int .i64 (v + (k : Int))] 3))
              clear D2
              go_wp2_with (at_builtin; refine wpList_append_lies _ rfl _ _ _ rfl w2'.heap.size 3 j0 (.int .i64 0) 1 8 Try.underlying39 hj0i hy0 hy1 hy2 rfl (by omega) _ j (ints ((g.l.take j).map fun x => x + (k : Int))) rfl hown ⟨wr.heap.size, 0, none⟩ 1 1 [.int .i64 (v + (k : Int))] rfl rfl hnews (by simp [Value.oneCell']) (by omega) (by simp only [maxLen]; omega) (by omega) hbase (wr.heap.size + 1) hH ?_; intro g5 cap5 w5' hown5 hgrow hat hlt5; refine Hid.out ?_)
              have HO5 : Hid (w5'.ownsRow w2'.heap.size 3 1 (.slice (some ⟨g5, 0, none⟩) (j + 1) cap5) (j + 1) (ints ((g.l.take (j + 1)).map fun x => x + (k : Int)))) := by
                rw [HTK.out, List.map_append, List.map_cons, List.map_nil, ← ints_snoc]
                exact hown5
              have HD5 := hidd (bel_row HDA.out hbase hgrow (fun q hq => (hown.lt q hq).1))
              clear hown hnews hH hbase hown5 hgrow hat hlt5 HDA o1'
              refine Lib.hid ?_
              go_wp2
              exact ⟨⟨j + 1, by omega, rfl, HO5.out, HD5.out⟩, by simp [intOf]; omega⟩
            · have hje : j = mm := by omega
              subst hje
              have hta : g.l.take j = g.l := List.take_of_length_le (by rw [HML.out]; exact Nat.le_refl _)
              rw [hta] at o1'
              have R3 := HR1.out.below D2 hqs
              have hds := D2.size
              have hth3 := R3.thawed
              have R4 : RowA (wr.setCell ⟨q, 5, none⟩ (.slice A13 j c13)) q 41 #[.int .u8 g.op, .int .u64 (W g.s 0), .int .u64 (W g.s 1), .int .u64 (W g.s 2), .int .u64 (W g.s 3), .slice A13 j c13, .int .i64 g.lo, .int .i64 g.hi, .string g.nm] := R3.set 5 (.slice A13 j c13)
              have B3 : Below q w0 wr := HB2.out.trans (D2.mono (Nat.le_of_lt hqs))
              have B4 : Below q w0 (wr.setCell ⟨q, 5, none⟩ (.slice A13 j c13)) := bel_set B3 _ _ (Nat.le_refl _)
              have o4 := own_sb (k := 5) o1' (own_neR o1' R3 (by decide)) (.slice A13 j c13)
              have c5 : wr.cell? ⟨q, 5, none⟩ = some (.slice A3 j c3) := R3.at_ rfl
              clear R3 B3 o1' hta D2
              go_upto_region 17 with fail
              generalize wr.setCell ⟨q, 5, none⟩ (.slice A13 j c13) = w4' at *
              clear c5 hth3 x5
              have y0 : w4'.cell? ⟨q, 0, none⟩ = some (.int .u8 g.op) := R4.at_ rfl
              have y1 : w4'.cell? ⟨q, 1, none⟩ = some (.int .u64 (W g.s 0)) := R4.at_ rfl
              have y2 : w4'.cell? ⟨q, 2, none⟩ = some (.int .u64 (W g.s 1)) := R4.at_ rfl
              have y3 : w4'.cell? ⟨q, 3, none⟩ = some (.int .u64 (W g.s 2)) := R4.at_ rfl
              have y4 : w4'.cell? ⟨q, 4, none⟩ = some (.int .u64 (W g.s 3)) := R4.at_ rfl
              have y5 : w4'.cell? ⟨q, 5, none⟩ = some (.slice A13 j c13) := R4.at_ rfl
              have y6 : w4'.cell? ⟨q, 6, none⟩ = some (.int .i64 g.lo) := R4.at_ rfl
              have y7 : w4'.cell? ⟨q, 7, none⟩ = some (.int .i64 g.hi) := R4.at_ rfl
              have y8 : w4'.cell? ⟨q, 8, none⟩ = some (.string g.nm) := R4.at_ rfl
              rw [← HQ.out] at B4
              have hsz7 : w6.heap.size ≤ w4'.heap.size := Nat.le_trans hbs B4.size
              have ho8 := own_below HL.out.own B4 (Nat.le_refl _)
              rw [hll] at ho8
              have hown := ho8.alloc (.cells #[.int .u8 g.op, .int .u64 (W g.s 0), .int .u64 (W g.s 1), .int .u64 (W g.s 2), .int .u64 (W g.s 3), .slice A13 j c13, .int .i64 g.lo, .int .i64 g.hi, .string g.nm] 41)
              have HBA := hidd (B4.alloc B4.size (.cells #[.int .u8 g.op, .int .u64 (W g.s 0), .int .u64 (W g.s 1), .int .u64 (W g.s 2), .int .u64 (W g.s 3), .slice A13 j c13, .int .i64 g.lo, .int .i64 g.hi, .string g.nm] 41))
              have HO4 := hidd ((own_less o4 hsz2).alloc (.cells #[.int .u8 g.op, .int .u64 (W g.s 0), .int .u64 (W g.s 1), .int .u64 (W g.s 2), .int .u64 (W g.s 3), .slice A13 j c13, .int .i64 g.lo, .int .i64 g.hi, .string g.nm] 41))
              have hnews : ∀ j' u, ([.int .u8 g.op, .int .u64 (W g.s 0), .int .u64 (W g.s 1), .int .u64 (W g.s 2), .int .u64 (W g.s 3), .slice A13 j c13, .int .i64 g.lo, .int .i64 g.hi, .string g.nm] : List Value)[j']? = some u → (w4'.alloc (.cells #[.int .u8 g.op, .int .u64 (W g.s 0), .int .u64 (W g.s 1), .int .u64 (W g.s 2), .int .u64 (W g.s 3), .slice A13 j c13, .int .i64 g.lo, .int .i64 g.hi, .string g.nm] 41)).cell? ((⟨w4'.heap.size, 0, none⟩ : Addr).add j') = some u := World.news_of_block (RowA.new w4' 41 #[.int .u8 g.op, .int .u64 (W g.s 0), .int .u64 (W g.s 1), .int .u64 (W g.s 2), .int .u64 (W g.s 3), .slice A13 j c13, .int .i64 g.lo, .int .i64 g.hi, .string g.nm])
              have hH : (w4'.alloc (.cells #[.int .u8 g.op, .int .u64 (W g.s 0), .int .u64 (W g.s 1), .int .u64 (W g.s 2), .int .u64 (W g.s 3), .slice A13 j c13, .int .i64 g.lo, .int .i64 g.hi, .string g.nm] 41)).heap.size = w4'.heap.size + 1 := World.size_alloc ..
              have hbase : w6.heap.size ≤ (w4'.alloc (.cells #[.int .u8 g.op, .int .u64 (W g.s 0), .int .u64 (W g.s 1), .int .u64 (W g.s 2), .int .u64 (W g.s 3), .slice A13 j c13, .int .i64 g.lo, .int .i64 g.hi, .string g.nm] 41)).heap.size := by rw [hH]; omega
              have HLL := hidd hll
              clear B4 R4 o4 ho8 hll
              go_wp2_with (at_builtin; refine wpList_append_lies _ rfl _ _ _ rfl w6.heap.size 41 i0 (.agg zeroC) 9 96 Try.underlying22 hi0 hz0 hz1 hz2 rfl (by omega) _ (k + i) (nodesC l) rfl hown ⟨w4'.heap.size, 0, none⟩ 1 1 [.int .u8 g.op, .int .u64 (W g.s 0), .int .u64 (W g.s 1), .int .u64 (W g.s 2), .int .u64 (W g.s 3), .slice A13 j c13, .int .i64 g.lo, .int .i64 g.hi, .string g.nm] rfl rfl hnews (by simp [Value.oneCell']) (by omega) (by simp only [maxLen]; omega) (by omega) hbase (w4'.heap.size + 1) hH ?_; intro g8 cap8 w8 hown8 hgrow hat hlt8; refine Hid.out ?_)
              have HR : Hid (PrS w6 gx gy (i + 1) (.slice (some ⟨g8, 0, none⟩) (k + i + 1) cap8) (l ++ [(shfG gx.length g, A13, c13)]) w8) := by
                refine HL.out.next (k := k + i) hlt2 HGD.out HBA.out ?_ HLL.out (by rw [HLL.out]; exact hgrow) ?_
                · rw [HML.out, HK.out]; exact HO4.out
                · have e : gdL (shfG gx.length g) A13 c13 = [.int .u8 g.op, .int .u64 (W g.s 0), .int .u64 (W g.s 1), .int .u64 (W g.s 2), .int .u64 (W g.s 3), .slice A13 j c13, .int .i64 g.lo, .int .i64 g.hi, .string g.nm] := by
                    unfold gdL shfG withG
                    simp only [List.length_map]
                    rw [HML.out]
                  rw [e]
                  exact hown8
              clear hown hown8 hgrow hat hlt8 hnews hH hbase HBA HO4 y0 y1 y2 y3 y4 y5 y6 y7 y8
              refine Lib.hid ?_
              go_wp2
              exact ⟨⟨i + 1, _, by omega, rfl, HR.out⟩, by simp [intOf]; omega⟩
        · have hie : k2 = i := by omega
          subst hie
          have hmap := L.map
          rw [List.take_of_length_le (by rw [HK2.out]; exact Nat.le_refl _)] at hmap
          obtain ⟨kk, hkk⟩ : ∃ kk, kk = k + k2 := ⟨_, rfl⟩
          obtain ⟨⟨T1, HG1⟩, ⟨T2, HG2⟩, ⟨T3, HG3⟩, ⟨T4, HG4⟩⟩ := em_math HGX.out HGY.out HTX.out HTY.out HK.out HK2.out hkk hk2 hj2
          rw [← hmap] at HG1 HG2
          rw [← HMX.out] at HG3 HG4
          replace HG1 := hidd HG1
          replace HG2 := hidd HG2
          replace HG3 := hidd HG3
          replace HG4 := hidd HG4
          rw [← hkk] at hll
          obtain ⟨g9, c9, hv9, _, hg9⟩ := own_pos L.own (by rw [hll]; omega)
          have hown9 := L.own
          rw [hv9] at hown9
          have hcap := own_cap hown9
          have hcells : ∀ j v, (nodesC l)[j]? = some v → wr.cell? ((⟨g9, 0, none⟩ : Addr).add j) = some v := fun j v hv => hown9.cells (g := g9) rfl j v hv
          rw [hll] at hv9 hcap
          subst hv9
          have hitb := L.its
          have hbx2 : bx < wr.heap.size := Nat.lt_of_lt_of_le hbx D.size
          have hcx2 : ∀ j v, (nodesC lx)[j]? = some v → wr.cell? ((⟨bx, ox, none⟩ : Addr).add j) = some v := fun j v hv => by
            rw [addr_addO, D.cell (by exact hbx), ← addr_addO]
            exact HCX.out j v hv
          have hitx : ∀ x ∈ lx, Its wr wr.heap.size x.2.1 x.1.l := fun x hx => ((HIX.out x hx).below D).more D.size
          have hkc : (kk : Int) ≤ (c9 : Int) := by omega
          have hkk0 : (0 : Int) ≤ (kk : Int) := by omega
          have hll9 : (nodesC l).length = kk * 9 := by rw [nodesC_len, hll]
          have hlx9 : (nodesC lx).length = k * 9 := by rw [nodesC_len, HLX.out]
          have HLL := hidd hll
          have hkks : kk ≤ 200 := by omega
          have hkkp : 0 < kk := by omega
          clear hkk
          have bA : Below wr.heap.size wr (wr.alloc (.cells #[.int .i64 ((k : Int) - 1), .int .i64 ((kk : Int) - 1)] 3)) := (Below.refl _ _).alloc (Nat.le_refl _) _
          have iA := its_new wr [(k : Int) - 1, (kk : Int) - 1]
          have hBW := HB6.out.trans (D.mono HB6.out.size)
          clear L D hmap hown9 hll
          generalize hp : nulN ns = p at *
          generalize hpq : nulN ms = pq at *
          clear hp hpq
          go_upto_region 20 with fail
          obtain ⟨u1, hu1⟩ : ∃ u1, u1 = wr.alloc (.cells #[.int .i64 ((k : Int) - 1), .int .i64 ((kk : Int) - 1)] 3) := ⟨_, rfl⟩
          rw [← hu1]
          obtain ⟨q2, hq2⟩ : ∃ q2, q2 = wr.heap.size := ⟨_, rfl⟩
          rw [← hq2]
          rw [← hu1] at bA
          have iA2 : Its u1 u1.heap.size (some ⟨q2, 0, none⟩) [(k : Int) - 1, (kk : Int) - 1] := by rw [hq2, hu1]; exact iA
          have bB : Below u1.heap.size u1 (u1.alloc (.cells #[.int .i64 ((k : Int) - 1)] 3)) := (Below.refl _ _).alloc (Nat.le_refl _) _
          have iB := its_new u1 [(k : Int) - 1]
          obtain ⟨q1, hq1⟩ : ∃ q1, q1 = u1.heap.size := ⟨_, rfl⟩
          obtain ⟨u2, hu2⟩ : ∃ u2, u2 = u1.alloc (.cells #[.int .i64 ((k : Int) - 1)] 3) := ⟨_, rfl⟩
          have iB2 : Its u2 u2.heap.size (some ⟨q1, 0, none⟩) [(k : Int) - 1] := by rw [hq1, hu2]; exact iB
          rw [← hu2] at bB
          have bC := bA.trans (bB.mono bA.size)
          have HT1 : Hid (EmT g9 bx ox q1 q2 k kk l lx u2) := ⟨fun j v hv => by rw [addr_addO, bC.cell (by exact hg9), ← addr_addO]; exact hcells j v hv, fun j v hv => by rw [addr_addO, bC.cell (by exact hbx2), ← addr_addO]; exact hcx2 j v hv, Nat.lt_of_lt_of_le hg9 bC.size, Nat.lt_of_lt_of_le hbx2 bC.size, fun x hx => ((hitb x hx).below bC).more bC.size, fun x hx => ((hitx x hx).below bC).more bC.size, (iA2.below bB).more bB.size, iB2⟩
          have HBu1 := hidd (hBW.trans (bC.mono hBW.size))
          clear bA iA bB iB bC iA2 iB2 hcells hitb hcx2 hitx hBW hu1 hbx2 hg9
          rename_i K8 h8
          have H8 := hidd h8
          clear h8
          go_wp2_with fail
          refine H8.out _ _ ?_
          rw [← hu2, ← hq1]
          clear hu2 hq1 hq2 H8
          refine wp_seq_k fun K7 h7 => ?_
          refine wp_region_list ?_
          simp only [List.append]
          cases p <;> cases pq
          all_goals
          (
            have hn1 : ∀ j' v, ([.int .u8 3, .int .u64 0, .int .u64 0, .int .u64 0, .int .u64 0, .slice (some ⟨q2, 0, none⟩) 2 2, .int .i64 0, .int .i64 0, .string { data := #[] }] : List Value)[j']? = some v → (u2.alloc (.cells #[.int .u8 3, .int .u64 0, .int .u64 0, .int .u64 0, .int .u64 0, .slice (some ⟨q2, 0, none⟩) 2 2, .int .i64 0, .int .i64 0, .string { data := #[] }] 41)).cell? ((⟨u2.heap.size, 0, none⟩ : Addr).add j') = some v := World.news_of_block (RowA.new u2 41 #[.int .u8 3, .int .u64 0, .int .u64 0, .int .u64 0, .int .u64 0, .slice (some ⟨q2, 0, none⟩) 2 2, .int .i64 0, .int .i64 0, .string { data := #[] }])
            have BA1 : Below u2.heap.size u2 (u2.alloc (.cells #[.int .u8 3, .int .u64 0, .int .u64 0, .int .u64 0, .int .u64 0, .slice (some ⟨q2, 0, none⟩) 2 2, .int .i64 0, .int .i64 0, .string { data := #[] }] 41)) := (Below.refl _ _).alloc (Nat.le_refl _) _
            have TA1 := HT1.out.below BA1
            have ho1 := TA1.both
            have HTA1 := hidd TA1
            clear TA1
            go_wp2_with (at_builtin; refine wpList_wanted rfl fun K9 hK9 => ?_; refine wp_append_full _ _ _ rfl 41 i0 (.agg zeroC) 9 96 Try.underlying22 hi0 hz0 hz1 hz2 rfl (by omega) ⟨g9, 0, none⟩ kk (nodesC l) rfl hll9 ho1 ⟨u2.heap.size, 0, none⟩ 1 1 [.int .u8 3, .int .u64 0, .int .u64 0, .int .u64 0, .int .u64 0, .slice (some ⟨q2, 0, none⟩) 2 2, .int .i64 0, .int .i64 0, .string { data := #[] }] rfl rfl hn1 (by omega) (by simp only [maxLen]; omega) (by omega) ?_; intro v1 u3 hown1 hgr1; refine hK9 _ _ (Hid.out ?_))
            have hcall1 := null_full (x := (catG 3 [(k : Int) - 1, (kk : Int) - 1], some ⟨q2, 0, none⟩, 2)) HLL.out HTA1.out.itb HTA1.out.two (by rw [show gdL ((catG 3 [(k : Int) - 1, (kk : Int) - 1], some ⟨q2, 0, none⟩, 2) : NR).1 ((catG 3 [(k : Int) - 1, (kk : Int) - 1], some ⟨q2, 0, none⟩, 2) : NR).2.1 ((catG 3 [(k : Int) - 1, (kk : Int) - 1], some ⟨q2, 0, none⟩, 2) : NR).2.2 = [.int .u8 3, .int .u64 0, .int .u64 0, .int .u64 0, .int .u64 0, .slice (some ⟨q2, 0, none⟩) 2 2, .int .i64 0, .int .i64 0, .string { data := #[] }] from catC _ _ _ _]; exact hown1) hgr1 HG1.out.1 HG1.out.2.1
            rw [HG1.out.2.2] at hcall1
            have HT1b := hidd (HTA1.out.below (grown_none hgr1))
            have HB1b := hidd (HBu1.out.trans ((BA1.trans ((grown_none hgr1).mono BA1.size)).mono HBu1.out.size))
            clear hn1 BA1 ho1 HTA1 hown1 hgr1 HT1 HBu1 HG1
            refine Lib.hid ?_
            go_wp2_with fail
            refine hcall1.mono ?_
            rintro e u4 ⟨rfl, b1⟩
            have HT2 := hidd (HT1b.out.below b1)
            have HBu2 := hidd (HB1b.out.trans (b1.mono HB1b.out.size))
            clear hcall1 b1 HT1b HB1b
            have hn2 : ∀ j' v, ([.int .u8 4, .int .u64 0, .int .u64 0, .int .u64 0, .int .u64 0, .slice (some ⟨q2, 0, none⟩) 2 2, .int .i64 0, .int .i64 0, .string { data := #[] }] : List Value)[j']? = some v → (u4.alloc (.cells #[.int .u8 4, .int .u64 0, .int .u64 0, .int .u64 0, .int .u64 0, .slice (some ⟨q2, 0, none⟩) 2 2, .int .i64 0, .int .i64 0, .string { data := #[] }] 41)).cell? ((⟨u4.heap.size, 0, none⟩ : Addr).add j') = some v := World.news_of_block (RowA.new u4 41 #[.int .u8 4, .int .u64 0, .int .u64 0, .int .u64 0, .int .u64 0, .slice (some ⟨q2, 0, none⟩) 2 2, .int .i64 0, .int .i64 0, .string { data := #[] }])
            have BA2 : Below u4.heap.size u4 (u4.alloc (.cells #[.int .u8 4, .int .u64 0, .int .u64 0, .int .u64 0, .int .u64 0, .slice (some ⟨q2, 0, none⟩) 2 2, .int .i64 0, .int .i64 0, .string { data := #[] }] 41)) := (Below.refl _ _).alloc (Nat.le_refl _) _
            have TA2 := HT2.out.below BA2
            have ho2 := TA2.both
            have HTA2 := hidd TA2
            clear TA2
            go_wp2_with (at_builtin; refine wpList_wanted rfl fun K9 hK9 => ?_; refine wp_append_full _ _ _ rfl 41 i0 (.agg zeroC) 9 96 Try.underlying22 hi0 hz0 hz1 hz2 rfl (by omega) ⟨g9, 0, none⟩ kk (nodesC l) rfl hll9 ho2 ⟨u4.heap.size, 0, none⟩ 1 1 [.int .u8 4, .int .u64 0, .int .u64 0, .int .u64 0, .int .u64 0, .slice (some ⟨q2, 0, none⟩) 2 2, .int .i64 0, .int .i64 0, .string { data := #[] }] rfl rfl hn2 (by omega) (by simp only [maxLen]; omega) (by omega) ?_; intro v2 u5 hown2 hgr2; refine hK9 _ _ (Hid.out ?_))
            have hcall2 := null_full (x := (catG 4 [(k : Int) - 1, (kk : Int) - 1], some ⟨q2, 0, none⟩, 2)) HLL.out HTA2.out.itb HTA2.out.two (by rw [show gdL ((catG 4 [(k : Int) - 1, (kk : Int) - 1], some ⟨q2, 0, none⟩, 2) : NR).1 ((catG 4 [(k : Int) - 1, (kk : Int) - 1], some ⟨q2, 0, none⟩, 2) : NR).2.1 ((catG 4 [(k : Int) - 1, (kk : Int) - 1], some ⟨q2, 0, none⟩, 2) : NR).2.2 = [.int .u8 4, .int .u64 0, .int .u64 0, .int .u64 0, .int .u64 0, .slice (some ⟨q2, 0, none⟩) 2 2, .int .i64 0, .int .i64 0, .string { data := #[] }] from catC _ _ _ _]; exact hown2) hgr2 HG2.out.1 HG2.out.2.1
            rw [HG2.out.2.2] at hcall2
            have HT2b := hidd (HTA2.out.below (grown_none hgr2))
            have HB2b := hidd (HBu2.out.trans ((BA2.trans ((grown_none hgr2).mono BA2.size)).mono HBu2.out.size))
            clear hn2 BA2 ho2 HTA2 hown2 hgr2 HT2 HBu2 HG2
            refine Lib.hid ?_
            go_wp2_with fail
            refine hcall2.mono ?_
            rintro e u6 ⟨rfl, b2⟩
            have HT3 := hidd (HT2b.out.below b2)
            have HBu3 := hidd (HB2b.out.trans (b2.mono HB2b.out.size))
            clear hcall2 b2 HT2b HB2b
            have hn3 : ∀ j' v, ([.int .u8 5, .int .u64 0, .int .u64 0, .int .u64 0, .int .u64 0, .slice (some ⟨q1, 0, none⟩) 1 1, .int .i64 0, .int .i64 3, .string { data := #[] }] : List Value)[j']? = some v → (u6.alloc (.cells #[.int .u8 5, .int .u64 0, .int .u64 0, .int .u64 0, .int .u64 0, .slice (some ⟨q1, 0, none⟩) 1 1, .int .i64 0, .int .i64 3, .string { data := #[] }] 41)).cell? ((⟨u6.heap.size, 0, none⟩ : Addr).add j') = some v := World.news_of_block (RowA.new u6 41 #[.int .u8 5, .int .u64 0, .int .u64 0, .int .u64 0, .int .u64 0, .slice (some ⟨q1, 0, none⟩) 1 1, .int .i64 0, .int .i64 3, .string { data := #[] }])
            have BA3 : Below u6.heap.size u6 (u6.alloc (.cells #[.int .u8 5, .int .u64 0, .int .u64 0, .int .u64 0, .int .u64 0, .slice (some ⟨q1, 0, none⟩) 1 1, .int .i64 0, .int .i64 3, .string { data := #[] }] 41)) := (Below.refl _ _).alloc (Nat.le_refl _) _
            have TA3 := HT3.out.below BA3
            have ho3 := TA3.xs
            have HTA3 := hidd TA3
            clear TA3
            go_wp2_with (at_builtin; refine wpList_wanted rfl fun K9 hK9 => ?_; refine wp_append_full _ _ _ rfl 41 i0 (.agg zeroC) 9 96 Try.underlying22 hi0 hz0 hz1 hz2 rfl (by omega) ⟨bx, ox, none⟩ k (nodesC lx) rfl hlx9 ho3 ⟨u6.heap.size, 0, none⟩ 1 1 [.int .u8 5, .int .u64 0, .int .u64 0, .int .u64 0, .int .u64 0, .slice (some ⟨q1, 0, none⟩) 1 1, .int .i64 0, .int .i64 3, .string { data := #[] }] rfl rfl hn3 (by omega) (by simp only [maxLen]; omega) (by omega) ?_; intro v3 u7 hown3 hgr3; refine hK9 _ _ (Hid.out ?_))
            have hcall3 := null_full (x := (repG ((k : Int) - 1) 0 3, some ⟨q1, 0, none⟩, 1)) HLX.out HTA3.out.itx HTA3.out.one (by rw [show gdL ((repG ((k : Int) - 1) 0 3, some ⟨q1, 0, none⟩, 1) : NR).1 ((repG ((k : Int) - 1) 0 3, some ⟨q1, 0, none⟩, 1) : NR).2.1 ((repG ((k : Int) - 1) 0 3, some ⟨q1, 0, none⟩, 1) : NR).2.2 = [.int .u8 5, .int .u64 0, .int .u64 0, .int .u64 0, .int .u64 0, .slice (some ⟨q1, 0, none⟩) 1 1, .int .i64 0, .int .i64 3, .string { data := #[] }] from repC _ _ _ _]; exact hown3) hgr3 HG3.out.1 HG3.out.2.1
            rw [HG3.out.2.2] at hcall3
            have HT3b := hidd (HTA3.out.below (grown_none hgr3))
            have HB3b := hidd (HBu3.out.trans ((BA3.trans ((grown_none hgr3).mono BA3.size)).mono HBu3.out.size))
            clear hn3 BA3 ho3 HTA3 hown3 hgr3 HT3 HBu3 HG3
            refine Lib.hid ?_
            go_wp2_with fail
            refine hcall3.mono ?_
            rintro e u8 ⟨rfl, b3⟩
            have HT4 := hidd (HT3b.out.below b3)
            have HBu4 := hidd (HB3b.out.trans (b3.mono HB3b.out.size))
            clear hcall3 b3 HT3b HB3b
            have hn4 : ∀ j' v, ([.int .u8 5, .int .u64 0, .int .u64 0, .int .u64 0, .int .u64 0, .slice (some ⟨q1, 0, none⟩) 1 1, .int .i64 2, .int .i64 (-1), .string { data := #[] }] : List Value)[j']? = some v → (u8.alloc (.cells #[.int .u8 5, .int .u64 0, .int .u64 0, .int .u64 0, .int .u64 0, .slice (some ⟨q1, 0, none⟩) 1 1, .int .i64 2, .int .i64 (-1), .string { data := #[] }] 41)).cell? ((⟨u8.heap.size, 0, none⟩ : Addr).add j') = some v := World.news_of_block (RowA.new u8 41 #[.int .u8 5, .int .u64 0, .int .u64 0, .int .u64 0, .int .u64 0, .slice (some ⟨q1, 0, none⟩) 1 1, .int .i64 2, .int .i64 (-1), .string { data := #[] }])
            have BA4 : Below u8.heap.size u8 (u8.alloc (.cells #[.int .u8 5, .int .u64 0, .int .u64 0, .int .u64 0, .int .u64 0, .slice (some ⟨q1, 0, none⟩) 1 1, .int .i64 2, .int .i64 (-1), .string { data := #[] }] 41)) := (Below.refl _ _).alloc (Nat.le_refl _) _
            have TA4 := HT4.out.below BA4
            have ho4 := TA4.xs
            have HTA4 := hidd TA4
            clear TA4
            go_wp2_with (at_builtin; refine wpList_wanted rfl fun K9 hK9 => ?_; refine wp_append_full _ _ _ rfl 41 i0 (.agg zeroC) 9 96 Try.underlying22 hi0 hz0 hz1 hz2 rfl (by omega) ⟨bx, ox, none⟩ k (nodesC lx) rfl hlx9 ho4 ⟨u8.heap.size, 0, none⟩ 1 1 [.int .u8 5, .int .u64 0, .int .u64 0, .int .u64 0, .int .u64 0, .slice (some ⟨q1, 0, none⟩) 1 1, .int .i64 2, .int .i64 (-1), .string { data := #[] }] rfl rfl hn4 (by omega) (by simp only [maxLen]; omega) (by omega) ?_; intro v4 u9 hown4 hgr4; refine hK9 _ _ (Hid.out ?_))
            have hcall4 := null_full (x := (repG ((k : Int) - 1) 2 (-1), some ⟨q1, 0, none⟩, 1)) HLX.out HTA4.out.itx HTA4.out.one (by rw [show gdL ((repG ((k : Int) - 1) 2 (-1), some ⟨q1, 0, none⟩, 1) : NR).1 ((repG ((k : Int) - 1) 2 (-1), some ⟨q1, 0, none⟩, 1) : NR).2.1 ((repG ((k : Int) - 1) 2 (-1), some ⟨q1, 0, none⟩, 1) : NR).2.2 = [.int .u8 5, .int .u64 0, .int .u64 0, .int .u64 0, .int .u64 0, .slice (some ⟨q1, 0, none⟩) 1 1, .int .i64 2, .int .i64 (-1), .string { data := #[] }] from repC _ _ _ _]; exact hown4) hgr4 HG4.out.1 HG4.out.2.1
            rw [HG4.out.2.2] at hcall4
            have HT4b := hidd (HTA4.out.below (grown_none hgr4))
            have HB4b := hidd (HBu4.out.trans ((BA4.trans ((grown_none hgr4).mono BA4.size)).mono HBu4.out.size))
            clear hn4 BA4 ho4 HTA4 hown4 hgr4 HT4 HBu4 HG4
            refine Lib.hid ?_
            go_wp2_with fail
            refine hcall4.mono ?_
            rintro e u10 ⟨rfl, b4⟩
            have HT5 := hidd (HT4b.out.below b4)
            have HBu5 := hidd (HB4b.out.trans (b4.mono HB4b.out.size))
            clear hcall4 b4 HT4b HB4b
            have HBE := hidd HBu5.out
            go_wp2
            go_ret
            exact ⟨rfl, HBE.out⟩
          )
end Go.Proofs.Ytgppanbikfobbaa.Sy.Ap.Em
