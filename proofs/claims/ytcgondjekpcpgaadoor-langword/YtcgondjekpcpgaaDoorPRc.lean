/- LangWord's walk. -/
import Derived.Test.YtcgondjekpcpgaaDoorPGu
namespace Go.Proofs.YtcgondjekpcpgaaDoor.Sy.Lg.Wd
open Go.RowKit Go.Proofs.YtcgondjekpcpgaaDoor.Sy.Ap Go.Proofs.YtcgondjekpcpgaaDoor.Sy.Ap.Wk Go.Proofs.YtcgondjekpcpgaaDoor.Sy.Lg.En
set_option maxRecDepth 100000
set_option linter.unusedVariables false

/-! ### The tree -/
def litR (ds : List Nat) : List NR := ds.map fun d => (oneG d, none, 0)
theorem litR_len (ds : List Nat) : (litR ds).length = ds.length := by simp [litR]
theorem litR_next {ds : List Nat} {k : Nat} (hk : k < ds.length) : litR (ds.take (k + 1)) = litR (ds.take k) ++ [(oneG (ds.getD k 0), none, 0)] := by
  unfold litR
  rw [Wl.take_next hk, List.map_append]
  rfl
theorem lit_forest (ds : List Nat) : Forest (litN ds) 0 ds.length (List.range ds.length) := by
  have key : ∀ k, k ≤ ds.length → Forest (litN (ds.take k)) 0 k (List.range k) := by
    intro k
    induction k with
    | zero => intro _; exact Forest.nil 0
    | succ k ih =>
      intro hk
      have e : litN (ds.take (k + 1)) = litN (ds.take k) ++ [ndBytes (oneS (ds.getD k 0))] := by
        unfold litN
        rw [Wl.take_next (by omega), List.map_append]
        rfl
      have hl : (litN (ds.take k)).length = k := by rw [litN_len, List.length_take]; omega
      have f := Forest.leaf (ns := litN (ds.take k)) (a := 0) (xs := List.range k) (n := ndBytes (oneS (ds.getD k 0))) (by rw [hl]; exact ih (by omega)) rfl
      rw [← e, hl, litN_len, List.length_take, show min (k + 1) ds.length = k + 1 from by omega] at f
      rw [List.range_succ]
      exact f
  have := key ds.length (Nat.le_refl _)
  rw [List.take_of_length_le (Nat.le_refl _)] at this
  exact this
theorem word_tree {ds : List Nat} (h2 : 2 ≤ ds.length) (hl : ds.length ≤ 1000) (hb : ∀ d ∈ ds, d < 256) : TreeN (wordN ds) ∧ PlainN (wordN ds) := by
  have hlen := wordN_len ds
  refine ⟨⟨?_, by omega, by omega, ?_⟩, fun n hn => ?_⟩
  · unfold wordN
    refine Shp.put (fun n hn => ?_) (shape_kids (l := List.range ds.length) (by simpa using h2)).1
    obtain ⟨d, hd, rfl⟩ := List.mem_map.1 hn
    have hem : emptyS (oneS d) = false := by
      cases h : emptyS (oneS d) with
      | false => rfl
      | true =>
        have := (emptyS_iff _).1 h d (hb d hd)
        simp [oneS] at this
    simp [shapeB, ndBytes, hem]
  · have f1 := lit_forest ds
    rw [← litN_len ds] at f1
    have f2 := Forest.put (xs := []) (ys := (ndCat (List.range ds.length)).l) (n := ndCat (List.range ds.length)) (ns := litN ds) (a := 0) (by rw [List.nil_append, litN_len]; show Forest (litN ds) 0 ds.length (List.range ds.length); exact lit_forest ds) rfl
    unfold wordN
    rw [show (litN ds ++ [ndCat (List.range ds.length)]).length - 1 = (litN ds).length from by simp]
    exact f2
  · unfold wordN at hn
    rcases List.mem_append.1 hn with q | q
    · obtain ⟨d, _, rfl⟩ := List.mem_map.1 q
      show (2 : Nat) ≠ 6
      omega
    · rw [List.mem_singleton] at q
      subst q
      show (3 : Nat) ≠ 6
      omega
theorem word_gn (ds : List Nat) : GN ((litR ds).map (·.1) ++ [catG 3 ((List.range ds.length).map fun k : Nat => (k : Int))]) (wordN ds) := by
  unfold wordN
  refine gn_snoc ?_ (gn_cat _)
  refine ⟨by simp [litR, litN], fun i hi => ?_⟩
  simp only [List.length_map, litR] at hi
  have e1 : ((litR ds).map (·.1)).getD i gd0 = oneG ds[i] := by
    rw [List.getD_eq_getElem?_getD]
    simp [litR, hi]
  have e2 : (litN ds).getD i nd0 = ndBytes (oneS ds[i]) := by
    rw [List.getD_eq_getElem?_getD]
    simp [litN, hi]
  rw [e1, e2]
  exact gn_one _
theorem bs_cat (a b : ByteArray) : bs (a ++ b) = bs a ++ bs b := by
  unfold bs
  rw [ByteArray.data_append, Array.toList_append, List.map_append]
/-! ### Memory while the row is made -/
structure WdS (w : World) (ds : List Nat) (k : Nat) (v10 v11 : Value) (u : World) : Prop where
  nd : u.ownsRow w.heap.size 43 9 v10 k (nodesC (litR (ds.take k)))
  kd : u.ownsRow w.heap.size 3 1 v11 k (i64s (List.range k))
  bel : Below w.heap.size w u
theorem WdS.below {w : World} {ds : List Nat} {k : Nat} {v10 v11 : Value} {u u' : World} (h : WdS w ds k v10 v11 u) (hb : Below u.heap.size u u') : WdS w ds k v10 v11 u' :=
  ⟨own_below h.nd hb (Nat.le_refl _), own_below h.kd hb (Nat.le_refl _), h.bel.trans (hb.mono h.bel.size)⟩
theorem own_tail {w : World} {B k : Nat} {v : Value} {l : List NR} {b : Nat} (h : w.ownsRow B 43 9 v (k + 1) (nodesC l ++ [.int .u8 2, .int .u64 (W (oneS b) 0), .int .u64 (W (oneS b) 1), .int .u64 (W (oneS b) 2), .int .u64 (W (oneS b) 3), .slice none 0 0, .int .i64 0, .int .i64 0, .string { data := #[] }])) : w.ownsRow B 43 9 v (k + 1) (nodesC (l ++ [(oneG b, none, 0)])) := by
  have e : nodesC (l ++ [(oneG b, none, 0)]) = nodesC l ++ gdL (oneG b) none 0 := by
    unfold nodesC
    rw [List.flatMap_append]
    simp
  rw [e]
  exact h
set_option linter.unusedVariables false in
def WdGV (A : Option Addr) (n m c : Nat) (s y : ByteArray) (t : Nat) : Option Value :=
  match t with
  | 0 => some (.slice A n c)
  | 1 => some (.string s)
  | 8 => some (.slice A m c)
  | 9 => some (.string y)
  | 21 => some (.slice A n c)
  | 22 => some (.slice A n c)
  | 23 => some (.int .i64 (n : Int))
  | 24 => some (.int .i64 (m : Int))
  | 25 => some (.slice A m c)
  | 26 => some (.string s)
  | 27 => some (.string y)
  | _ => none
set_option linter.unusedVariables false in
def WdGP (A : Option Addr) (n m c : Nat) (s y : ByteArray) (t : Nat) : Option (Value → World → Prop) :=
  match t with
  | _ => none
def WdG (A : Option Addr) (n m c : Nat) (s y : ByteArray) (t : Nat) (v : Value) (u : World) : Prop := (∀ z9, WdGV A n m c s y t = some z9 → v = z9) ∧ ∀ R, WdGP A n m c s y t = some R → R v u
set_option linter.unusedVariables false in
def WtGV (g1 o1 f k c fm : Nat) (y sx ey : ByteArray) (z : Bool) (t : Nat) : Option Value :=
  match t with
  | 8 => some (.slice (some ⟨g1, o1, none⟩) k c)
  | 9 => some (.string y)
  | 15 => some (.int .i64 (f : Int))
  | 16 => some (.bool z)
  | 67 => some (.int .i64 (f : Int))
  | 68 => some (.slice (some ⟨g1, o1, none⟩) k c)
  | 69 => some (.int .i64 (k : Int))
  | 70 => some (.int .i64 (fm : Int))
  | 71 => some (.string y)
  | 72 => some (.int .i64 (y.size : Int))
  | 73 => some (.bool true)
  | 74 => some (.bool true)
  | 75 => some (.string y)
  | 76 => some (.int .i64 (f : Int))
  | 77 => some (.int .i64 (f : Int))
  | 78 => some (.slice (some ⟨g1, o1, none⟩) k c)
  | 79 => some (.int .i64 (k : Int))
  | 80 => some (.int .i64 (fm : Int))
  | 81 => some (.string ey)
  | 82 => some (.slice (some ⟨g1, o1, none⟩) k c)
  | 83 => some (.string sx)
  | 84 => some (.bool z)
  | 85 => some (.bool z)
  | _ => none
set_option linter.unusedVariables false in
def WtGP (g1 o1 f k c fm : Nat) (y sx ey : ByteArray) (z : Bool) (t : Nat) : Option (Value → World → Prop) :=
  match t with
  | _ => none
def WtG (g1 o1 f k c fm : Nat) (y sx ey : ByteArray) (z : Bool) (t : Nat) (v : Value) (u : World) : Prop := (∀ z9, WtGV g1 o1 f k c fm y sx ey z t = some z9 → v = z9) ∧ ∀ R, WtGP g1 o1 f k c fm y sx ey z t = some R → R v u
set_option linter.unusedVariables false in
def WfGV (g1 o1 f k c fm : Nat) (y sx ey : ByteArray) (z : Bool) (t : Nat) : Option Value :=
  match t with
  | 8 => some (.slice (some ⟨g1, o1, none⟩) k c)
  | 9 => some (.string y)
  | 15 => some (.int .i64 (f : Int))
  | 16 => some (.bool false)
  | 67 => some (.int .i64 (f : Int))
  | 68 => some (.slice (some ⟨g1, o1, none⟩) k c)
  | 69 => some (.int .i64 (k : Int))
  | 70 => some (.int .i64 (fm : Int))
  | 71 => some (.string y)
  | 72 => some (.int .i64 (y.size : Int))
  | 73 => some (.bool false)
  | 74 => some (.bool false)
  | 85 => some (.bool false)
  | _ => none
set_option linter.unusedVariables false in
def WfGP (g1 o1 f k c fm : Nat) (y sx ey : ByteArray) (z : Bool) (t : Nat) : Option (Value → World → Prop) :=
  match t with
  | 75 => some (fun _ _ => True)
  | 76 => some (fun _ _ => True)
  | 77 => some (fun _ _ => True)
  | 78 => some (fun _ _ => True)
  | 79 => some (fun _ _ => True)
  | 80 => some (fun _ _ => True)
  | 81 => some (fun _ _ => True)
  | 82 => some (fun _ _ => True)
  | 83 => some (fun _ _ => True)
  | 84 => some (fun _ _ => True)
  | _ => none
def WfG (g1 o1 f k c fm : Nat) (y sx ey : ByteArray) (z : Bool) (t : Nat) (v : Value) (u : World) : Prop := (∀ z9, WfGV g1 o1 f k c fm y sx ey z t = some z9 → v = z9) ∧ ∀ R, WfGP g1 o1 f k c fm y sx ey z t = some R → R v u
set_option maxHeartbeats 4000000 in
theorem lawLangWord_any (A : Option Addr) (c : Nat) (xs : List Int) (s : ByteArray) (x : Int) (w : World) (hN : Bts w w.heap.size A xs) (hc : xs.length ≤ c) (hm : c ≤ maxLen) (hs : s.size ≤ maxLen) (x0 : 0 ≤ x) (x1 : x ≤ 255) (hD : DB w) :
    Calls Tryd.prog 7 #[.slice A xs.length c, .string s, .int .u8 x] w fun e w' => e = .returned (.bool true) ∧ Below w.heap.size w w' := by
  have hsh := shown7_any w hD
  have HTX : Hid (∀ u, _) := fun u => text_any s u hs
  have hyz := text_size s
  have HD := hidd hD
  have hcut := hN.cut 15
  obtain ⟨X, hX⟩ : ∃ X, xs.take 15 = X := ⟨_, rfl⟩
  rw [hX] at hcut
  have hXl : X.length = min xs.length 15 := by rw [← hX, List.length_take]; omega
  generalize xs.length = n at *
  clear hX hN hD xs
  obtain ⟨m, hmn⟩ : ∃ m, min n 15 = m := ⟨_, rfl⟩
  have hmi : min (n : Int) 15 = (m : Int) := by omega
  have hm15 : m ≤ 15 := by omega
  have hmc : (m : Int) ≤ (c : Int) := by omega
  have hm0 : (0 : Int) ≤ (m : Int) := by omega
  have hXm : X.length = m := by omega
  unfold maxLen at hm
  clear hXl hmn
  have HBT := hidd hcut
  have HXM := hidd hXm
  clear hcut hXm
  generalize cutS 20 s = y at *
  obtain ⟨f, hf⟩ : ∃ f : Nat, Int.tmod x ((y.size : Int) + 1) = (f : Int) := ⟨(x % ((y.size : Int) + 1)).toNat, by
    rw [Int.tmod_eq_emod_of_nonneg x0]
    have := Int.emod_nonneg x (b := (y.size : Int) + 1) (by omega)
    omega⟩
  have hfy : f ≤ y.size := by
    rw [Int.tmod_eq_emod_of_nonneg x0] at hf
    have := Int.emod_lt_of_pos x (b := (y.size : Int) + 1) (by omega)
    omega
  have hw1 : IntKind.i64.wrap x = x := by rw [IntKind.wrap_i64]; omega
  go_enter Tryd.func7, Tryd.ntmps7
  go_wp2_with fail
  refine hsh.mono ?_
  rintro e w1 ⟨rfl, b1⟩
  have HB1 := hidd b1
  clear hsh b1
  go_upto_region 2 with fail
  refine wp_region_slots (Below w.heap.size w) (WdG A n m c s y) (by kernel_rfl) (by kernel_rfl) (by kernel_rfl) ?_ (bel_drew HB1.out) [0, 1] (by kernel_rfl) ?_ ?_ ?_
  · intro t v u u' h hb
    refine ⟨h.1, fun R hR => ?_⟩
    unfold WdGP at hR
    cases hR
  · intro u _
    refine ⟨⟨_, rfl, ?_⟩, ⟨_, rfl, ?_⟩, trivial⟩ <;> exact ⟨fun _ h => Option.some.inj h, fun _ h => no_some h⟩
  · refine ⟨?_, ?_, ?_, ?_, ?_, ?_, ?_, ?_, ?_, trivial⟩
    · intro a u hS hr K hK
      obtain ⟨⟨vl0, e0, g0⟩, -⟩ := hr
      obtain rfl := g0.1 _ rfl
      clear g0
      rw [if_pos (want_none rfl)]
      unfold Oper.wp
      go_simp
      exact hK _ _ ⟨fun _ h => Option.some.inj h, fun _ h => no_some h⟩ hS (Below.refl _ _)
    · intro a u hS hr K hK
      obtain ⟨⟨vl0, e0, g0⟩, -⟩ := hr
      obtain rfl := g0.1 _ rfl
      clear g0
      rw [if_pos (want_none rfl)]
      unfold Oper.wp
      go_simp
      exact hK _ _ ⟨fun _ h => Option.some.inj h, fun _ h => no_some h⟩ hS (Below.refl _ _)
    · intro a u hS hr K hK
      obtain ⟨⟨vl0, e0, g0⟩, -⟩ := hr
      obtain rfl := g0.1 _ rfl
      clear g0
      rw [if_pos (want_none rfl)]
      unfold Oper.wp
      go_simp
      exact hK _ _ ⟨fun _ h => Option.some.inj h, fun _ h => no_some h⟩ hS (Below.refl _ _)
    · intro a u hS hr K hK
      obtain ⟨⟨vl0, e0, g0⟩, -⟩ := hr
      obtain rfl := g0.1 _ rfl
      clear g0
      rw [if_pos (want_none rfl)]
      unfold Oper.wp
      go_simp
      exact hK _ _ ⟨fun _ h => Option.some.inj h, fun _ h => no_some h⟩ hS (Below.refl _ _)
    · intro a u hS hr K hK
      obtain ⟨⟨vl0, e0, g0⟩, ⟨vl1, e1, g1⟩, -⟩ := hr
      obtain rfl := g0.1 _ rfl
      clear g0
      obtain rfl := g1.1 _ rfl
      clear g1
      rw [if_pos (want_none rfl)]
      unfold Oper.wp
      go_simp
      exact hK _ _ ⟨fun _ h => Option.some.inj h, fun _ h => no_some h⟩ hS (Below.refl _ _)
    · intro a u hS hr K hK
      obtain ⟨⟨vl0, e0, g0⟩, -⟩ := hr
      obtain rfl := g0.1 _ rfl
      clear g0
      rw [if_pos (want_none rfl)]
      unfold Oper.wp
      go_simp
      exact hK _ _ ⟨fun _ h => Option.some.inj h, fun _ h => no_some h⟩ hS (Below.refl _ _)
    · intro a u hS hr K hK
      obtain ⟨⟨vl0, e0, g0⟩, -⟩ := hr
      obtain rfl := g0.1 _ rfl
      clear g0
      rw [if_pos (want_none rfl)]
      unfold Oper.wp
      go_simp
      refine (HTX.out u).mono ?_
      rintro e u1 ⟨rfl, rfl⟩
      exact hK _ _ ⟨fun _ h => Option.some.inj h, fun _ h => no_some h⟩ hS (Below.refl _ _)
    · intro a u hS hr K hK
      obtain ⟨⟨vl0, e0, g0⟩, -⟩ := hr
      obtain rfl := g0.1 _ rfl
      clear g0
      rw [if_pos (want_none rfl)]
      unfold Oper.wp
      go_simp
      exact hK _ _ ⟨fun _ h => Option.some.inj h, fun _ h => no_some h⟩ hS (Below.refl _ _)
    · intro a u hS hr K hK
      obtain ⟨⟨vl0, e0, g0⟩, -⟩ := hr
      obtain rfl := g0.1 _ rfl
      clear g0
      rw [if_pos (want_none rfl)]
      unfold Oper.wp
      go_simp
      exact hK _ _ ⟨fun _ h => Option.some.inj h, fun _ h => no_some h⟩ hS (Below.refl _ _)
  intro a w2 hS hts hd hkn hfx
  have HB2 := hidd hS
  clear hS
  have hf := hfx
  clear hfx
  obtain ⟨v21, e21, g21⟩ := hf 0 _ 21 rfl rfl
  obtain ⟨v22, e22, g22⟩ := hf 1 _ 22 rfl rfl
  obtain ⟨v23, e23, g23⟩ := hf 2 _ 23 rfl rfl
  obtain ⟨v24, e24, g24⟩ := hf 3 _ 24 rfl rfl
  obtain ⟨v25, e25, g25⟩ := hf 4 _ 25 rfl rfl
  obtain ⟨v26, e26, g26⟩ := hf 5 _ 26 rfl rfl
  obtain ⟨v27, e27, g27⟩ := hf 6 _ 27 rfl rfl
  obtain ⟨v8, e8, g8⟩ := hf 7 _ 8 rfl rfl
  obtain ⟨v9, e9, g9⟩ := hf 8 _ 9 rfl rfl
  have hA := act_puts [(21, v21), (22, v22), (23, v23), (24, v24), (25, v25), (26, v26), (27, v27), (8, v8), (9, v9)] hts hd hkn (by kernel_rfl) (by simp [e21, e22, e23, e24, e25, e26, e27, e8, e9])
  clear hf hts hd hkn e21 e22 e23 e24 e25 e26 e27 e8 e9
  obtain rfl := g21.1 _ rfl
  clear g21
  obtain rfl := g22.1 _ rfl
  clear g22
  obtain rfl := g23.1 _ rfl
  clear g23
  obtain rfl := g24.1 _ rfl
  clear g24
  obtain rfl := g25.1 _ rfl
  clear g25
  obtain rfl := g26.1 _ rfl
  clear g26
  obtain rfl := g27.1 _ rfl
  clear g27
  obtain rfl := g8.1 _ rfl
  clear g8
  obtain rfl := g9.1 _ rfl
  clear g9
  subst hA
  simp only [List.foldl, List.setIfInBounds_toArray, List.set_cons_zero, List.set_cons_succ]
  simp only [Exit.then]
  apply_assumption
  by_cases h2 : m < 2
  · have h2i : (m : Int) < 2 := by omega
    go_wp2
    go_ret
    exact ⟨rfl, HB2.out⟩
  · have h2i : ¬ (m : Int) < 2 := by omega
    obtain ⟨i0, hi0, hz0, hz1, hz2⟩ := info_parts node_info
    obtain ⟨j0, hj0i, hy0, hy1, hy2⟩ := info_parts int_info
    obtain ⟨ds, hds⟩ : ∃ ds : List Nat, ds = X.map Int.toNat := ⟨_, rfl⟩
    have hdl : ds.length = m := by rw [hds, List.length_map, HXM.out]
    have HDV : Hid (∀ k, k < m → X.getD k 0 = ((ds.getD k 0 : Nat) : Int) ∧ ds.getD k 0 < 256) := fun k hk => by
      have hkx : k < X.length := by rw [HXM.out]; exact hk
      obtain ⟨g, o, _, _, _, h0, h1⟩ := HBT.out.at_ hkx
      have e : ds.getD k 0 = (X.getD k 0).toNat := by
        rw [hds, List.getD_eq_getElem?_getD, List.getElem?_map, List.getD_eq_getElem?_getD, List.getElem?_eq_getElem hkx]
        rfl
      rw [e]
      omega
    have HDB : Hid (∀ d ∈ ds, d < 256) := fun d hd => by
      obtain ⟨k, hk, rfl⟩ := List.getElem_of_mem hd
      have := (HDV.out k (by omega)).2
      rw [List.getD_eq_getElem?_getD, List.getElem?_eq_getElem hk] at this
      exact this
    have HDL := hidd hdl
    have HDS := hidd hds
    clear hds hdl
    have HS0 : Hid (WdS w ds 0 (.slice none 0 0) (.slice none 0 0) w2) := ⟨World.ownsRow_nil _ _ _ _, World.ownsRow_nil _ _ _ _, HB2.out⟩
    go_wp2
    go_loopw [10, 11, 34] (fun s10 s11 s34 wr => ∃ k : Nat, k ≤ m ∧ s34 = .int .i64 (k : Int) ∧ WdS w ds k s10 s11 wr) (fun _ _ s34 _ => m - (intOf s34).toNat)
    case atStart => exact ⟨0, Nat.zero_le _, rfl, HS0.out⟩
    case round =>
      clear HS0
      obtain ⟨k, hk0, rfl, L⟩ := hrel
      obtain ⟨A10, c10, rfl⟩ := own_form L.nd
      obtain ⟨A11, c11, rfl⟩ := own_form L.kd
      by_cases hlt : k < m
      · have hkx : k < X.length := by rw [HXM.out]; exact hlt
        obtain ⟨g1, o1, rfl, hg1, hc1, _, _⟩ := (HBT.out.below L.bel).at_ hkx
        rw [(HDV.out k hlt).1] at hc1
        have hcb := (HDV.out k hlt).2
        have HTK : Hid (litR (ds.take (k + 1)) = litR (ds.take k) ++ [(oneG (ds.getD k 0), none, 0)]) := litR_next (by rw [HDL.out]; exact hlt)
        have HTL : Hid ((ds.take k).length = k) := by show _ = _; rw [List.length_take, HDL.out]; omega
        generalize ds.getD k 0 = b at *
        have hki : (k : Int) < (m : Int) := by omega
        have hq8 : IntKind.u8.wrap ((b : Int).tdiv 64) = ((b / 64 : Nat) : Int) := by
          have := u8_quo (b : Int) (by omega) (by omega)
          rw [this]; omega
        have hr8 : Int.tmod (b : Int) 64 = ((b % 64 : Nat) : Int) := by rw [Int.tmod_eq_emod_of_nonneg (by omega)]; omega
        have hr8w : IntKind.u8.wrap ((b % 64 : Nat) : Int) = ((b % 64 : Nat) : Int) := by rw [IntKind.wrap_u8]; omega
        have HL := hidd L
        have r0 : Row4 (wr.alloc (.cells #[.int .u64 (W (noB) 0), .int .u64 (W (noB) 1), .int .u64 (W (noB) 2), .int .u64 (W (noB) 3)] 41)) wr.heap.size noB := Row4.new wr noB
        have b0 : Below wr.heap.size wr (wr.alloc (.cells #[.int .u64 (W (noB) 0), .int .u64 (W (noB) 1), .int .u64 (W (noB) 2), .int .u64 (W (noB) 3)] 41)) := (Below.refl _ _).alloc (Nat.le_refl _) _
        rw [W_zero, W_zero, W_zero, W_zero] at r0 b0
        clear L hkx
        go_upto_region 11 with fail
        generalize wr.alloc (.cells #[.int .u64 0, .int .u64 0, .int .u64 0, .int .u64 0] 41) = w5 at *
        obtain ⟨q, hq⟩ : ∃ q, wr.heap.size = q := ⟨_, rfl⟩
        rw [hq] at r0
        rw [hq]
        have hq4 : b / 64 < 4 := by omega
        have hq4i : ((b / 64 : Nat) : Int) < 4 := by omega
        have hpw := pow_W b
        have cg := r0.at_ hq4
        have tg := r0.thawed (b / 64)
        have r1 : Row4 (w5.setCell ⟨q, b / 64, none⟩ (.int .u64 (W (oneB b) (b / 64)))) q (oneS b) := r0.put (q := oneB b) hq4 (fun i _ hne => by rw [one_W b i hne, W_zero])
        have b1 := bel_set (p := ⟨q, b / 64, none⟩) b0 (.int .u64 (W (oneB b) (b / 64))) (by show wr.heap.size ≤ q; omega)
        clear hq
        go_upto_region 12 with fail
        generalize w5.setCell ⟨q, b / 64, none⟩ (.int .u64 (W (oneB b) (b / 64))) = w6 at *
        have L6 := HL.out.below b1
        obtain ⟨d0, d1, d2, d3⟩ := r1.cells
        have HL6 := hidd L6
        have hown := L6.nd.alloc (.cells #[.int .u8 2, .int .u64 (W (oneS b) 0), .int .u64 (W (oneS b) 1), .int .u64 (W (oneS b) 2), .int .u64 (W (oneS b) 3), .slice none 0 0, .int .i64 0, .int .i64 0, .string { data := #[] }] 43)
        have hkd := L6.kd.alloc (.cells #[.int .u8 2, .int .u64 (W (oneS b) 0), .int .u64 (W (oneS b) 1), .int .u64 (W (oneS b) 2), .int .u64 (W (oneS b) 3), .slice none 0 0, .int .i64 0, .int .i64 0, .string { data := #[] }] 43)
        have hnews := World.news_of_block (RowA.new w6 43 #[.int .u8 2, .int .u64 (W (oneS b) 0), .int .u64 (W (oneS b) 1), .int .u64 (W (oneS b) 2), .int .u64 (W (oneS b) 3), .slice none 0 0, .int .i64 0, .int .i64 0, .string { data := #[] }])
        have hH : (w6.alloc (.cells #[.int .u8 2, .int .u64 (W (oneS b) 0), .int .u64 (W (oneS b) 1), .int .u64 (W (oneS b) 2), .int .u64 (W (oneS b) 3), .slice none 0 0, .int .i64 0, .int .i64 0, .string { data := #[] }] 43)).heap.size = w6.heap.size + 1 := World.size_alloc ..
        have hds := L6.bel.size
        have hbase : w.heap.size ≤ (w6.alloc (.cells #[.int .u8 2, .int .u64 (W (oneS b) 0), .int .u64 (W (oneS b) 1), .int .u64 (W (oneS b) 2), .int .u64 (W (oneS b) 3), .slice none 0 0, .int .i64 0, .int .i64 0, .string { data := #[] }] 43)).heap.size := by rw [hH]; omega
        have HDA := hidd (L6.bel.alloc L6.bel.size (.cells #[.int .u8 2, .int .u64 (W (oneS b) 0), .int .u64 (W (oneS b) 1), .int .u64 (W (oneS b) 2), .int .u64 (W (oneS b) 3), .slice none 0 0, .int .i64 0, .int .i64 0, .string { data := #[] }] 43))
        clear r0 r1 b0 b1 cg tg hpw L6
        go_upto_region 13 with (at_builtin; refine wpList_append_lies _ rfl _ _ _ rfl w.heap.size 43 i0 (.agg zeroC) 9 96 Tryd.underlying22 hi0 hz0 hz1 hz2 rfl (by omega) _ k (nodesC (litR (ds.take k))) rfl hown ⟨w6.heap.size, 0, none⟩ 1 1 [.int .u8 2, .int .u64 (W (oneS b) 0), .int .u64 (W (oneS b) 1), .int .u64 (W (oneS b) 2), .int .u64 (W (oneS b) 3), .slice none 0 0, .int .i64 0, .int .i64 0, .string { data := #[] }] rfl rfl hnews (by simp [Value.oneCell']) (by omega) (by simp only [maxLen]; omega) (by omega) hbase (w6.heap.size + 1) hH ?_; intro g8 cap8 w8 hown8 hgrow hat hlt8; refine Hid.out ?_)
        have hkd8 := own_kept hkd hgrow (fun j hj => fun r => own_apart hown hkd (by decide) j hj r)
        have hbel8 := bel_row HDA.out hbase hgrow (fun j hj => (hown.lt j hj).1)
        have HND : Hid (w8.ownsRow w.heap.size 43 9 (.slice (some ⟨g8, 0, none⟩) (k + 1) cap8) (k + 1) (nodesC (litR (ds.take (k + 1))))) := by
          show World.ownsRow _ _ _ _ _ _ _
          rw [HTK.out]
          exact own_tail hown8
        clear hown hnews hH hbase hown8 hgrow hat hlt8 hkd HDA HL6 d0 d1 d2 d3 hds
        have hown := hkd8.alloc (.cells #[.int .i64 (k : Int)] 3)
        have hnd := HND.out.alloc (.cells #[.int .i64 (k : Int)] 3)
        have hnews := int_news w8 (k : Int)
        have hH : (w8.alloc (.cells #[.int .i64 (k : Int)] 3)).heap.size = w8.heap.size + 1 := World.size_alloc ..
        have hds := hbel8.size
        have hbase : w.heap.size ≤ (w8.alloc (.cells #[.int .i64 (k : Int)] 3)).heap.size := by rw [hH]; omega
        have HDA := hidd (hbel8.alloc hbel8.size (.cells #[.int .i64 (k : Int)] 3))
        clear hkd8 hbel8
        refine Lib.hid ?_
        go_wp2_with (at_builtin; refine wpList_append_lies _ rfl _ _ _ rfl w.heap.size 3 j0 (.int .i64 0) 1 8 Tryd.underlying30 hj0i hy0 hy1 hy2 rfl (by omega) _ k (i64s (List.range k)) rfl hown ⟨w8.heap.size, 0, none⟩ 1 1 [.int .i64 (k : Int)] rfl rfl hnews (by simp [Value.oneCell']) (by omega) (by simp only [maxLen]; omega) (by omega) hbase (w8.heap.size + 1) hH ?_; intro g5 cap5 w9 hown5 hgrow hat hlt5; refine Hid.out ?_)
        have HF : Hid (WdS w ds (k + 1) (.slice (some ⟨g8, 0, none⟩) (k + 1) cap8) (.slice (some ⟨g5, 0, none⟩) (k + 1) cap5) w9) := by
          refine ⟨own_kept hnd hgrow (fun j hj => fun r => own_apart hown hnd (by decide) j hj r), ?_, bel_row HDA.out hbase hgrow (fun j hj => (hown.lt j hj).1)⟩
          rw [List.range_succ, ← i64s_snoc]
          exact hown5
        clear hown hnd hnews hH hbase hown5 hgrow hat hlt5 HDA HND hds
        refine Lib.hid ?_
        go_wp2
        exact ⟨⟨k + 1, by omega, rfl, HF.out⟩, by simp [intOf]; omega⟩
      · have hkm : k = m := by omega
        subst hkm
        have htk : ds.take k = ds := List.take_of_length_le (by rw [HDL.out]; exact Nat.le_refl _)
        have hnd0 := L.nd
        rw [htk] at hnd0
        have HL := hidd L
        have hown := hnd0.alloc (.cells #[.int .u8 3, .int .u64 0, .int .u64 0, .int .u64 0, .int .u64 0, .slice A11 k c11, .int .i64 0, .int .i64 0, .string { data := #[] }] 43)
        have hkd := L.kd.alloc (.cells #[.int .u8 3, .int .u64 0, .int .u64 0, .int .u64 0, .int .u64 0, .slice A11 k c11, .int .i64 0, .int .i64 0, .string { data := #[] }] 43)
        have hnews := World.news_of_block (RowA.new wr 43 #[.int .u8 3, .int .u64 0, .int .u64 0, .int .u64 0, .int .u64 0, .slice A11 k c11, .int .i64 0, .int .i64 0, .string { data := #[] }])
        have hH : (wr.alloc (.cells #[.int .u8 3, .int .u64 0, .int .u64 0, .int .u64 0, .int .u64 0, .slice A11 k c11, .int .i64 0, .int .i64 0, .string { data := #[] }] 43)).heap.size = wr.heap.size + 1 := World.size_alloc ..
        have hds := L.bel.size
        have hbase : w.heap.size ≤ (wr.alloc (.cells #[.int .u8 3, .int .u64 0, .int .u64 0, .int .u64 0, .int .u64 0, .slice A11 k c11, .int .i64 0, .int .i64 0, .string { data := #[] }] 43)).heap.size := by rw [hH]; omega
        have HDA := hidd (L.bel.alloc L.bel.size (.cells #[.int .u8 3, .int .u64 0, .int .u64 0, .int .u64 0, .int .u64 0, .slice A11 k c11, .int .i64 0, .int .i64 0, .string { data := #[] }] 43))
        clear hnd0 L htk hlt
        go_upto_region 16 with (at_builtin; refine wpList_append_lies _ rfl _ _ _ rfl w.heap.size 43 i0 (.agg zeroC) 9 96 Tryd.underlying22 hi0 hz0 hz1 hz2 rfl (by omega) _ k (nodesC (litR ds)) rfl hown ⟨wr.heap.size, 0, none⟩ 1 1 [.int .u8 3, .int .u64 0, .int .u64 0, .int .u64 0, .int .u64 0, .slice A11 k c11, .int .i64 0, .int .i64 0, .string { data := #[] }] rfl rfl hnews (by simp [Value.oneCell']) (by omega) (by simp only [maxLen]; omega) (by omega) hbase (wr.heap.size + 1) hH ?_; intro g8 cap8 w8 hown8 hgrow hat hlt8; refine Hid.out ?_)
        have hkd8 := own_kept hkd hgrow (fun j hj => fun r => own_apart hown hkd (by decide) j hj r)
        have HB8 := hidd (bel_row HDA.out hbase hgrow (fun j hj => (hown.lt j hj).1))
        have hint : i64s (List.range k) = ints ((List.range k).map fun z : Nat => (z : Int)) := by
          unfold i64s ints
          rw [List.map_map]
          rfl
        rw [hint] at hkd8
        have hits : Its w8 w8.heap.size A11 ((List.range k).map fun z : Nat => (z : Int)) := Ap.its_own hkd8 (by simp)
        have hcells : gdL (catG 3 ((List.range k).map fun z : Nat => (z : Int))) A11 c11 = [.int .u8 3, .int .u64 0, .int .u64 0, .int .u64 0, .int .u64 0, .slice A11 k c11, .int .i64 0, .int .i64 0, .string { data := #[] }] := by
          simp [gdL, catG, W_zero]
        rw [← hcells] at hown8
        obtain ⟨A8, c8, hv8, hN8, _⟩ := own_nds (own_last (x := (catG 3 ((List.range k).map fun z : Nat => (z : Int)), A11, c11)) hown8 (by rw [litR_len, HDL.out])) (fun y hy => by
          rcases List.mem_append.1 hy with q | q
          · obtain ⟨d, _, rfl⟩ := List.mem_map.1 q
            exact fun hne => absurd rfl hne
          · rw [List.mem_singleton] at q
            subst q
            exact hits)
        rw [List.length_append, litR_len, HDL.out, List.length_singleton] at hv8
        rw [List.map_append] at hN8
        have HN8 : Hid (Nds w8 w8.heap.size A8 ((litR ds).map (·.1) ++ [catG 3 ((List.range k).map fun z : Nat => (z : Int))])) := hN8
        have hgn := word_gn ds
        rw [HDL.out] at hgn
        obtain ⟨htr, hpl⟩ := word_tree (ds := ds) (by rw [HDL.out]; omega) (by rw [HDL.out]; omega) HDB.out
        have HIS : Hid (∀ s', s'.size ≤ 63 → ∀ u, Below w8.heap.size w8 u → IsC #[.slice A8 (k + 1) c8, .string s'] (iL (wordN ds) s') u) := fun s' h u hu => is_tree ((HN8.out.below hu).more hu.size) hgn htr hpl h (by simp [litR_len, HDL.out]) (HD.out.below (HB8.out.trans (hu.mono HB8.out.size)))
        have HEN : Hid (∀ s' (i : Nat), s'.size ≤ 63 → i ≤ s'.size → ∀ u, Below w8.heap.size w8 u → EndsL #[.slice A8 (k + 1) c8, .string s', .int .i64 (i : Int)] (endL (wordN ds) (bs s') i) u) := fun s' i h hi u hu => by
          have := ends_tree (c := c8) (s := s') (i := i) ((HN8.out.below hu).more hu.size) hgn htr hpl h hi (HD.out.below (HB8.out.trans (hu.mono HB8.out.size)))
          rw [show ((litR ds).map (·.1) ++ [catG 3 ((List.range k).map fun z : Nat => (z : Int))]).length = k + 1 from by simp [litR_len, HDL.out]] at this
          exact this
        have HLOW := hidd htr.low
        injection hv8 with hv8 _ hv9
        subst hv8 hv9
        clear hown hkd hnews hH hbase hown8 hgrow hat hlt8 hkd8 hint hits hcells hN8 hgn htr hpl hds HDA
        refine Lib.hid ?_
        obtain ⟨g1, o1, rfl, hg1, _, _, _⟩ := HBT.out.at_ (k := 0) (by rw [HXM.out]; omega)
        obtain ⟨sx, hsx⟩ : ∃ sx, strOfNums X = sx := ⟨_, rfl⟩
        obtain ⟨sx1, hsx1⟩ : ∃ sx1, strOfNums (X.drop 1) = sx1 := ⟨_, rfl⟩
        have hXb : ∀ z ∈ X, 0 ≤ z ∧ z ≤ 255 := HBT.out.1
        have hbsx : bs sx = ds := by rw [← hsx, bs_nums X hXb, HDS.out]
        have hbsx1 : bs sx1 = ds.drop 1 := by
          rw [← hsx1, bs_nums _ (fun z hz => hXb z (List.mem_of_mem_drop hz)), HDS.out, List.map_drop]
        have hcell : ∀ u, Below w8.heap.size w8 u → ∀ i, i < k → u.cell? ⟨g1, o1 + i, none⟩ = some (.int .u8 (X.getD i 0)) := fun u hu i hi => by
          obtain ⟨g', o', e1, _, hc, _, _⟩ := (HBT.out.below (HB8.out.trans (hu.mono HB8.out.size))).at_ (k := i) (by rw [HXM.out]; exact hi)
          injection e1 with e1
          injection e1 with e2 e3
          subst e2 e3
          exact hc
        have HCV : Hid (∀ u, Below w8.heap.size w8 u → (convert 46 9 (.slice (some ⟨g1, o1, none⟩) k c)).run Tryd.prog u = .ok (.string sx) u) := fun u hu => by
          have := run_convert_bytes_arg (P := Tryd.prog) u 46 5 Tryd.underlying46 Tryd.underlying5 g1 o1 k c X HXM.out (hcell u hu) 9 Tryd.underlying9
          rw [hsx] at this
          exact this
        obtain ⟨k1, hk1⟩ : ∃ k1, k = k1 + 1 := ⟨k - 1, by omega⟩
        have HCV1 : Hid (∀ c', ∀ u, Below w8.heap.size w8 u → (convert 46 9 (.slice (some ⟨g1, o1 + 1, none⟩) k1 c')).run Tryd.prog u = .ok (.string sx1) u) := fun c' u hu => by
          have := run_convert_bytes_arg (P := Tryd.prog) u 46 5 Tryd.underlying46 Tryd.underlying5 g1 (o1 + 1) k1 c' (X.drop 1) (by rw [List.length_drop, HXM.out]; omega) (fun i hi => by
            have := hcell u hu (i + 1) (by omega)
            rw [show o1 + (i + 1) = o1 + 1 + i from by omega] at this
            rw [this, List.getD_eq_getElem?_getD, List.getD_eq_getElem?_getD, List.getElem?_drop, Nat.add_comm 1 i]) 9 Tryd.underlying9
          rw [hsx1] at this
          exact this
        have hszx : sx.size = k := by rw [← bs_len, hbsx, HDL.out]
        have hszx1 : sx1.size = k1 := by rw [← bs_len, hbsx1, List.length_drop, HDL.out]; omega
        obtain ⟨fm, hfm⟩ : ∃ fm : Nat, (f : Int) + (k : Int) = (fm : Int) := ⟨f + k, by omega⟩
        have hfmn : fm = f + k := by omega
        have HFM := hidd hfmn
        have HK1 := hidd hk1
        have HX2 := hidd (And.intro hbsx (And.intro hbsx1 (And.intro hszx hszx1)))
        clear hfmn hk1 hsx hsx1 hXb hbsx hbsx1 hcell hszx hszx1 HBT HXM HDV
        have hwfm : IntKind.i64.wrap (fm : Int) = (fm : Int) := by have := HFM.out; rw [IntKind.wrap_i64]; omega
        obtain ⟨ey, hey⟩ : ∃ ey, y.extract f fm = ey := ⟨_, rfl⟩
        obtain ⟨z, hz⟩ : ∃ z, (ey.toList == sx.toList) = z := ⟨_, rfl⟩
        have HZ := hidd hz
        have HEY := hidd hey
        have hnil : ∀ (s' : ByteArray) (i : Nat), i ≤ s'.size → ¬ (i + ds.length ≤ (bs s').length ∧ ((bs s').drop i).take ds.length = ds) → endL (wordN ds) (bs s') i = [] := fun s' i hi h => word_no HLOW.out (bs s') (by rw [bs_len]; exact hi) h
        have HJ : Hid (endL (wordN ds) (bs (sx ++ y)) 0 = [k] ∧ longZ [k] 0 = (k : Int) ∧ longB [k] 0 = true ∧ iL (wordN ds) sx = true ∧ iL (wordN ds) sx1 = false) := by
          have hap : bs (sx ++ y) = bs sx ++ bs y := bs_cat sx y
          have e1 : endL (wordN ds) (bs (sx ++ y)) 0 = [k] := by
            have := word_yes HLOW.out (bs (sx ++ y)) (i := 0) (by rw [hap, List.length_append, HX2.out.1]; omega) (by rw [hap, List.drop_zero, HX2.out.1, List.take_left])
            rw [this, Nat.zero_add, HDL.out]
          have e2 : endL (wordN ds) (bs sx) 0 = [k] := by
            have := word_yes HLOW.out (bs sx) (i := 0) (by rw [HX2.out.1]; omega) (by rw [List.drop_zero, HX2.out.1, List.take_length])
            rw [this, Nat.zero_add, HDL.out]
          have e3 : endL (wordN ds) (bs sx1) 0 = [] := hnil sx1 0 (Nat.zero_le _) (fun q => by
            have q1 := q.1
            rw [HX2.out.2.1, List.length_drop, HDL.out] at q1
            omega)
          refine ⟨e1, ?_, ?_, ?_, ?_⟩
          · show (if (k : Int) ≤ 0 then 0 else (k : Int)) = (k : Int)
            exact if_neg (by omega)
          · show (!decide ((k : Int) ≤ 0)) = true
            simp
            omega
          · unfold iL
            rw [e2, HX2.out.2.2.1]
            unfold isL
            simp
          · unfold iL
            rw [e3]
            rfl
        have HYES : Hid (fm ≤ y.size → z = true → endL (wordN ds) (bs y) f = [fm]) := fun h1 h2 => by
          have e : ey = sx := toList_inj' (by rw [h2] at hz; exact eq_of_beq hz)
          have e2 : bs ey = cut (bs y) f fm := by rw [← hey]; exact ex_bs y f fm
          rw [e, HX2.out.1] at e2
          have := word_yes HLOW.out (bs y) (i := f) (by rw [bs_len, HDL.out]; have := HFM.out; omega) (by rw [HDL.out]; unfold cut at e2; rw [show fm - f = k from by have := HFM.out; omega] at e2; exact e2.symm)
          rw [this, HDL.out, HFM.out]
        have HNO : Hid ((¬ fm ≤ y.size ∨ z = false) → endL (wordN ds) (bs y) f = []) := fun h => hnil y f hfy (fun q => by
          rw [bs_len, HDL.out] at q
          have hle : fm ≤ y.size := by have := HFM.out; omega
          have hzf : z = false := h.resolve_left (fun r => r hle)
          have e2 : bs ey = cut (bs y) f fm := by rw [← hey]; exact ex_bs y f fm
          unfold cut at e2
          rw [show fm - f = k from by have := HFM.out; omega, q.2, ← HX2.out.1] at e2
          rw [bs_inj e2] at hz
          rw [hzf] at hz
          simp at hz)
        clear hnil hey hz
        have hz := HZ.out
        have hey := HEY.out
        by_cases hp : fm ≤ y.size
        · have hpi : (fm : Int) ≤ (y.size : Int) := by omega
          have hffm : (f : Int) ≤ (fm : Int) := by have := HFM.out; omega
          go_upto_region 17 with fail
          refine wp_region_slots (Below w8.heap.size w8) (WtG g1 o1 f k c fm y sx ey z) (by kernel_rfl) (by kernel_rfl) (by kernel_rfl) ?_ (bel_drew (Below.refl _ _)) [8, 9, 15] (by kernel_rfl) ?_ ?_ ?_
          · intro t v u u' h hb
            refine ⟨h.1, fun R hR => ?_⟩
            have h2 := h.2 R hR
            unfold WtGP at hR
            cases hR
          · intro u _
            refine ⟨⟨_, rfl, ?_⟩, ⟨_, rfl, ?_⟩, ⟨_, rfl, ?_⟩, trivial⟩ <;> exact ⟨fun _ h => Option.some.inj h, fun _ h => no_some h⟩
          · refine ⟨?_, ?_, ?_, ?_, ?_, ?_, ?_, ?_, ?_, ?_, ?_, ?_, ?_, ?_, ?_, ?_, ?_, ?_, ?_, ?_, trivial⟩
            · intro a u hS hr K hK
              obtain ⟨⟨vl0, e0, g0⟩, -⟩ := hr
              obtain rfl := g0.1 _ rfl
              clear g0
              rw [if_pos (want_none rfl)]
              unfold Oper.wp
              go_simp
              exact hK _ _ ⟨fun _ h => Option.some.inj h, fun _ h => no_some h⟩ hS (Below.refl _ _)
            · intro a u hS hr K hK
              obtain ⟨⟨vl0, e0, g0⟩, -⟩ := hr
              obtain rfl := g0.1 _ rfl
              clear g0
              rw [if_pos (want_none rfl)]
              unfold Oper.wp
              go_simp
              exact hK _ _ ⟨fun _ h => Option.some.inj h, fun _ h => no_some h⟩ hS (Below.refl _ _)
            · intro a u hS hr K hK
              obtain ⟨⟨vl0, e0, g0⟩, -⟩ := hr
              obtain rfl := g0.1 _ rfl
              clear g0
              rw [if_pos (want_none rfl)]
              unfold Oper.wp
              go_simp
              exact hK _ _ ⟨fun _ h => Option.some.inj h, fun _ h => no_some h⟩ hS (Below.refl _ _)
            · intro a u hS hr K hK
              obtain ⟨⟨vl0, e0, g0⟩, ⟨vl1, e1, g1⟩, -⟩ := hr
              obtain rfl := g0.1 _ rfl
              clear g0
              obtain rfl := g1.1 _ rfl
              clear g1
              rw [if_pos (want_none rfl)]
              unfold Oper.wp
              go_simp
              exact hK _ _ ⟨fun _ h => Option.some.inj h, fun _ h => no_some h⟩ hS (Below.refl _ _)
            · intro a u hS hr K hK
              obtain ⟨⟨vl0, e0, g0⟩, -⟩ := hr
              obtain rfl := g0.1 _ rfl
              clear g0
              rw [if_pos (want_none rfl)]
              unfold Oper.wp
              go_simp
              exact hK _ _ ⟨fun _ h => Option.some.inj h, fun _ h => no_some h⟩ hS (Below.refl _ _)
            · intro a u hS hr K hK
              obtain ⟨⟨vl0, e0, g0⟩, -⟩ := hr
              obtain rfl := g0.1 _ rfl
              clear g0
              rw [if_pos (want_none rfl)]
              unfold Oper.wp
              go_simp
              exact hK _ _ ⟨fun _ h => Option.some.inj h, fun _ h => no_some h⟩ hS (Below.refl _ _)
            · intro a u hS hr K hK
              obtain ⟨⟨vl0, e0, g0⟩, ⟨vl1, e1, g1⟩, -⟩ := hr
              obtain rfl := g0.1 _ rfl
              clear g0
              obtain rfl := g1.1 _ rfl
              clear g1
              rw [if_pos (want_none rfl)]
              unfold Oper.wp
              go_simp
              exact hK _ _ ⟨fun _ h => Option.some.inj h, fun _ h => no_some h⟩ hS (Below.refl _ _)
            · intro a u hS hr K hK
              obtain ⟨⟨vl0, e0, g0⟩, -⟩ := hr
              obtain rfl := g0.1 _ rfl
              clear g0
              rw [if_pos (want_none rfl)]
              unfold Oper.wp
              go_simp
              exact hK _ _ ⟨fun _ h => Option.some.inj h, fun _ h => no_some h⟩ hS (Below.refl _ _)
            · intro a u hS hr K hK
              obtain ⟨⟨vl0, e0, g0⟩, ⟨vl1, e1, g1⟩, -⟩ := hr
              obtain rfl := g0.1 _ rfl
              clear g0
              obtain rfl := g1.1 _ rfl
              clear g1
              rw [if_pos (want_some rfl rfl rfl e1)]
              unfold Oper.wp
              go_simp
              exact hK _ _ ⟨fun _ h => Option.some.inj h, fun _ h => no_some h⟩ hS (Below.refl _ _)
            · intro a u hS hr K hK
              obtain ⟨⟨vl0, e0, g0⟩, ⟨vl1, e1, g1⟩, -⟩ := hr
              obtain rfl := g0.1 _ rfl
              clear g0
              obtain rfl := g1.1 _ rfl
              clear g1
              rw [if_pos (want_some rfl rfl rfl e1)]
              unfold Oper.wp
              go_simp
              exact hK _ _ ⟨fun _ h => Option.some.inj h, fun _ h => no_some h⟩ hS (Below.refl _ _)
            · intro a u hS hr K hK
              obtain ⟨⟨vl0, e0, g0⟩, ⟨vl1, e1, g1⟩, -⟩ := hr
              obtain rfl := g0.1 _ rfl
              clear g0
              obtain rfl := g1.1 _ rfl
              clear g1
              rw [if_pos (want_some rfl rfl rfl e1)]
              unfold Oper.wp
              go_simp
              exact hK _ _ ⟨fun _ h => Option.some.inj h, fun _ h => no_some h⟩ hS (Below.refl _ _)
            · intro a u hS hr K hK
              obtain ⟨⟨vl0, e0, g0⟩, ⟨vl1, e1, g1⟩, -⟩ := hr
              obtain rfl := g0.1 _ rfl
              clear g0
              obtain rfl := g1.1 _ rfl
              clear g1
              rw [if_pos (want_some rfl rfl rfl e1)]
              unfold Oper.wp
              go_simp
              exact hK _ _ ⟨fun _ h => Option.some.inj h, fun _ h => no_some h⟩ hS (Below.refl _ _)
            · intro a u hS hr K hK
              obtain ⟨⟨vl0, e0, g0⟩, ⟨vl1, e1, g1⟩, -⟩ := hr
              obtain rfl := g0.1 _ rfl
              clear g0
              obtain rfl := g1.1 _ rfl
              clear g1
              rw [if_pos (want_some rfl rfl rfl e1)]
              unfold Oper.wp
              go_simp
              exact hK _ _ ⟨fun _ h => Option.some.inj h, fun _ h => no_some h⟩ hS (Below.refl _ _)
            · intro a u hS hr K hK
              obtain ⟨⟨vl0, e0, g0⟩, ⟨vl1, e1, g1⟩, ⟨vl2, e2, g2⟩, -⟩ := hr
              obtain rfl := g0.1 _ rfl
              clear g0
              obtain rfl := g1.1 _ rfl
              clear g1
              obtain rfl := g2.1 _ rfl
              clear g2
              rw [if_pos (want_some rfl rfl rfl e2)]
              unfold Oper.wp
              go_simp
              exact hK _ _ ⟨fun _ h => Option.some.inj h, fun _ h => no_some h⟩ hS (Below.refl _ _)
            · intro a u hS hr K hK
              obtain ⟨⟨vl0, e0, g0⟩, ⟨vl1, e1, g1⟩, ⟨vl2, e2, g2⟩, ⟨vl3, e3, g3⟩, -⟩ := hr
              obtain rfl := g0.1 _ rfl
              clear g0
              obtain rfl := g1.1 _ rfl
              clear g1
              obtain rfl := g2.1 _ rfl
              clear g2
              obtain rfl := g3.1 _ rfl
              clear g3
              rw [if_pos (want_some rfl rfl rfl e3)]
              unfold Oper.wp
              go_simp
              exact hK _ _ ⟨fun _ h => Option.some.inj h, fun _ h => no_some h⟩ hS (Below.refl _ _)
            · intro a u hS hr K hK
              obtain ⟨⟨vl0, e0, g0⟩, ⟨vl1, e1, g1⟩, -⟩ := hr
              obtain rfl := g0.1 _ rfl
              clear g0
              obtain rfl := g1.1 _ rfl
              clear g1
              rw [if_pos (want_some rfl rfl rfl e1)]
              unfold Oper.wp
              go_simp
              exact hK _ _ ⟨fun _ h => Option.some.inj h, fun _ h => no_some h⟩ hS (Below.refl _ _)
            · intro a u hS hr K hK
              obtain ⟨⟨vl0, e0, g0⟩, ⟨vl1, e1, g1⟩, -⟩ := hr
              obtain rfl := g0.1 _ rfl
              clear g0
              obtain rfl := g1.1 _ rfl
              clear g1
              rw [if_pos (want_some rfl rfl rfl e1)]
              have hcv := HCV.out u hS
              unfold Oper.wp
              go_simp
              exact hK _ _ ⟨fun _ h => Option.some.inj h, fun _ h => no_some h⟩ hS (Below.refl _ _)
            · intro a u hS hr K hK
              obtain ⟨⟨vl0, e0, g0⟩, ⟨vl1, e1, g1⟩, ⟨vl2, e2, g2⟩, -⟩ := hr
              obtain rfl := g0.1 _ rfl
              clear g0
              obtain rfl := g1.1 _ rfl
              clear g1
              obtain rfl := g2.1 _ rfl
              clear g2
              rw [if_pos (want_some rfl rfl rfl e2)]
              unfold Oper.wp
              go_simp
              exact hK _ _ ⟨fun _ h => Option.some.inj h, fun _ h => no_some h⟩ hS (Below.refl _ _)
            · intro a u hS hr K hK
              obtain ⟨⟨vl0, e0, g0⟩, ⟨vl1, e1, g1⟩, -⟩ := hr
              obtain rfl := g0.1 _ rfl
              clear g0
              obtain rfl := g1.1 _ rfl
              clear g1
              rw [if_pos (want_none rfl)]
              unfold Oper.wp
              go_simp
              exact hK _ _ ⟨fun _ h => Option.some.inj h, fun _ h => no_some h⟩ hS (Below.refl _ _)
            · intro a u hS hr K hK
              obtain ⟨⟨vl0, e0, g0⟩, -⟩ := hr
              obtain rfl := g0.1 _ rfl
              clear g0
              rw [if_pos (want_none rfl)]
              unfold Oper.wp
              go_simp
              exact hK _ _ ⟨fun _ h => Option.some.inj h, fun _ h => no_some h⟩ hS (Below.refl _ _)
          intro a w9 hS hts hd hkn hf0
          have HB9 := hidd hS
          clear hS
          have hf := hf0
          clear hf0
          obtain ⟨v67, e67, g67⟩ := hf 0 _ 67 rfl rfl
          obtain ⟨v68, e68, g68⟩ := hf 1 _ 68 rfl rfl
          obtain ⟨v69, e69, g69⟩ := hf 2 _ 69 rfl rfl
          obtain ⟨v70, e70, g70⟩ := hf 3 _ 70 rfl rfl
          obtain ⟨v71, e71, g71⟩ := hf 4 _ 71 rfl rfl
          obtain ⟨v72, e72, g72⟩ := hf 5 _ 72 rfl rfl
          obtain ⟨v73, e73, g73⟩ := hf 6 _ 73 rfl rfl
          obtain ⟨v74, e74, g74⟩ := hf 7 _ 74 rfl rfl
          obtain ⟨v75, e75, g75⟩ := hf 8 _ 75 rfl rfl
          obtain ⟨v76, e76, g76⟩ := hf 9 _ 76 rfl rfl
          obtain ⟨v77, e77, g77⟩ := hf 10 _ 77 rfl rfl
          obtain ⟨v78, e78, g78⟩ := hf 11 _ 78 rfl rfl
          obtain ⟨v79, e79, g79⟩ := hf 12 _ 79 rfl rfl
          obtain ⟨v80, e80, g80⟩ := hf 13 _ 80 rfl rfl
          obtain ⟨v81, e81, g81⟩ := hf 14 _ 81 rfl rfl
          obtain ⟨v82, e82, g82⟩ := hf 15 _ 82 rfl rfl
          obtain ⟨v83, e83, g83⟩ := hf 16 _ 83 rfl rfl
          obtain ⟨v84, e84, g84⟩ := hf 17 _ 84 rfl rfl
          obtain ⟨v85, e85, g85⟩ := hf 18 _ 85 rfl rfl
          obtain ⟨v16, e16, g16⟩ := hf 19 _ 16 rfl rfl
          have hA := act_puts [(67, v67), (68, v68), (69, v69), (70, v70), (71, v71), (72, v72), (73, v73), (74, v74), (75, v75), (76, v76), (77, v77), (78, v78), (79, v79), (80, v80), (81, v81), (82, v82), (83, v83), (84, v84), (85, v85), (16, v16)] hts hd hkn (by kernel_rfl) (by simp [e67, e68, e69, e70, e71, e72, e73, e74, e75, e76, e77, e78, e79, e80, e81, e82, e83, e84, e85, e16])
          clear hf hts hd hkn e67 e68 e69 e70 e71 e72 e73 e74 e75 e76 e77 e78 e79 e80 e81 e82 e83 e84 e85 e16
          obtain rfl := g67.1 _ rfl
          clear g67
          obtain rfl := g68.1 _ rfl
          clear g68
          obtain rfl := g69.1 _ rfl
          clear g69
          obtain rfl := g70.1 _ rfl
          clear g70
          obtain rfl := g71.1 _ rfl
          clear g71
          obtain rfl := g72.1 _ rfl
          clear g72
          obtain rfl := g73.1 _ rfl
          clear g73
          obtain rfl := g74.1 _ rfl
          clear g74
          obtain rfl := g75.1 _ rfl
          clear g75
          obtain rfl := g76.1 _ rfl
          clear g76
          obtain rfl := g77.1 _ rfl
          clear g77
          obtain rfl := g78.1 _ rfl
          clear g78
          obtain rfl := g79.1 _ rfl
          clear g79
          obtain rfl := g80.1 _ rfl
          clear g80
          obtain rfl := g81.1 _ rfl
          clear g81
          obtain rfl := g82.1 _ rfl
          clear g82
          obtain rfl := g83.1 _ rfl
          clear g83
          obtain rfl := g84.1 _ rfl
          clear g84
          obtain rfl := g85.1 _ rfl
          clear g85
          obtain rfl := g16.1 _ rfl
          clear g16
          subst hA
          simp only [List.foldl, List.setIfInBounds_toArray, List.set_cons_zero, List.set_cons_succ]
          simp only [Exit.then]
          apply_assumption
          clear hz hey
          cases z with
          | true =>
            have hend := HYES.out hp rfl
            have hE := HEN.out y f (by omega) hfy w9 HB9.out
            rw [hend] at hE
            go_wp2_with fail
            refine hE.mono ?_
            rintro e w10 ⟨b10, A12, c12, rfl, own10⟩
            have HB10 := hidd (HB9.out.trans (b10.mono HB9.out.size))
            have HOW := hidd own10
            have hcv := HCV.out w10 HB10.out
            have hcat : ¬ (9223372036854775807 : Nat) < sx.size + y.size := by have := HX2.out.2.2.1; omega
            have hlo := longest_any (some ⟨g8, 0, none⟩) (k + 1) cap8 (sx ++ y) 0 (endL (wordN ds) (bs (sx ++ y)) 0) (endL_few _ _ _ (by have := HX2.out.2.2.1; rw [ByteArray.size_append]; omega)) w10 (HEN.out (sx ++ y) 0 (by have := HX2.out.2.2.1; rw [ByteArray.size_append]; omega) (Nat.zero_le _) w10 HB10.out)
            rw [HJ.out.1] at hlo
            rw [show longZ [k] 0 = (k : Int) from HJ.out.2.1, show longB [k] 0 = true from HJ.out.2.2.1] at hlo
            clear hE b10 own10
            go_wp2_with fail
            refine hlo.mono ?_
            rintro e w11 ⟨b11, rfl⟩
            have HB11 := hidd (HB10.out.trans (b11.mono HB10.out.size))
            have HC11 := hidd b11
            clear hlo b11 hcv hcat
            have hcv := HCV.out w11 HB11.out
            have his := HIS.out sx (by have := HX2.out.2.2.1; omega) w11 HB11.out
            rw [HJ.out.2.2.2.1] at his
            obtain ⟨g2, o2, rfl, _, hce⟩ := own_at (k := 0) HOW.out (by simp)
            have hce2 : w11.cell? ⟨g2, o2, none⟩ = some (.int .i64 (fm : Int)) := by
              rw [HC11.out.cell (by assumption)]; exact hce
            clear hce
            go_wp2_with fail
            refine his.mono ?_
            rintro e w12 ⟨b12, rfl⟩
            have HB12 := hidd (HB11.out.trans (b12.mono HB11.out.size))
            clear his b12 hcv
            have hcv := HCV1.out (c - 1) w12 HB12.out
            rw [show k1 = k - 1 from by have := HK1.out; omega] at hcv
            have his := HIS.out sx1 (by have := HX2.out.2.2.2; have := HK1.out; omega) w12 HB12.out
            rw [HJ.out.2.2.2.2] at his
            go_wp2_with fail
            refine his.mono ?_
            rintro e w13 ⟨b13, rfl⟩
            have HB13 := hidd (HB8.out.trans ((HB12.out.trans (b13.mono HB12.out.size)).mono HB8.out.size))
            clear his b13 hcv
            go_wp2
            go_ret
            exact ⟨rfl, HB13.out⟩
          | false =>
            have hend := HNO.out (.inr rfl)
            have hE := HEN.out y f (by omega) hfy w9 HB9.out
            rw [hend] at hE
            go_wp2_with fail
            refine hE.mono ?_
            rintro e w10 ⟨b10, A12, c12, rfl, own10⟩
            have HB10 := hidd (HB9.out.trans (b10.mono HB9.out.size))
            have HOW := hidd own10
            have hcv := HCV.out w10 HB10.out
            have hcat : ¬ (9223372036854775807 : Nat) < sx.size + y.size := by have := HX2.out.2.2.1; omega
            have hlo := longest_any (some ⟨g8, 0, none⟩) (k + 1) cap8 (sx ++ y) 0 (endL (wordN ds) (bs (sx ++ y)) 0) (endL_few _ _ _ (by have := HX2.out.2.2.1; rw [ByteArray.size_append]; omega)) w10 (HEN.out (sx ++ y) 0 (by have := HX2.out.2.2.1; rw [ByteArray.size_append]; omega) (Nat.zero_le _) w10 HB10.out)
            rw [HJ.out.1] at hlo
            rw [show longZ [k] 0 = (k : Int) from HJ.out.2.1, show longB [k] 0 = true from HJ.out.2.2.1] at hlo
            clear hE b10 own10
            go_wp2_with fail
            refine hlo.mono ?_
            rintro e w11 ⟨b11, rfl⟩
            have HB11 := hidd (HB10.out.trans (b11.mono HB10.out.size))
            have HC11 := hidd b11
            clear hlo b11 hcv hcat
            have hcv := HCV.out w11 HB11.out
            have his := HIS.out sx (by have := HX2.out.2.2.1; omega) w11 HB11.out
            rw [HJ.out.2.2.2.1] at his
            go_wp2_with fail
            refine his.mono ?_
            rintro e w12 ⟨b12, rfl⟩
            have HB12 := hidd (HB11.out.trans (b12.mono HB11.out.size))
            clear his b12 hcv
            have hcv := HCV1.out (c - 1) w12 HB12.out
            rw [show k1 = k - 1 from by have := HK1.out; omega] at hcv
            have his := HIS.out sx1 (by have := HX2.out.2.2.2; have := HK1.out; omega) w12 HB12.out
            rw [HJ.out.2.2.2.2] at his
            go_wp2_with fail
            refine his.mono ?_
            rintro e w13 ⟨b13, rfl⟩
            have HB13 := hidd (HB8.out.trans ((HB12.out.trans (b13.mono HB12.out.size)).mono HB8.out.size))
            clear his b13 hcv
            go_wp2
            go_ret
            exact ⟨rfl, HB13.out⟩
        · have hpi : ¬ (fm : Int) ≤ (y.size : Int) := by omega
          go_upto_region 17 with fail
          refine wp_region_slots (Below w8.heap.size w8) (WfG g1 o1 f k c fm y sx ey z) (by kernel_rfl) (by kernel_rfl) (by kernel_rfl) ?_ (bel_drew (Below.refl _ _)) [8, 9, 15] (by kernel_rfl) ?_ ?_ ?_
          · intro t v u u' h hb
            refine ⟨h.1, fun R hR => ?_⟩
            have h2 := h.2 R hR
            unfold WfGP at hR
            split at hR
            · cases hR; exact h2
            · cases hR; exact h2
            · cases hR; exact h2
            · cases hR; exact h2
            · cases hR; exact h2
            · cases hR; exact h2
            · cases hR; exact h2
            · cases hR; exact h2
            · cases hR; exact h2
            · cases hR; exact h2
            · cases hR
          · intro u _
            refine ⟨⟨_, rfl, ?_⟩, ⟨_, rfl, ?_⟩, ⟨_, rfl, ?_⟩, trivial⟩ <;> exact ⟨fun _ h => Option.some.inj h, fun _ h => no_some h⟩
          · refine ⟨?_, ?_, ?_, ?_, ?_, ?_, ?_, ?_, ?_, ?_, ?_, ?_, ?_, ?_, ?_, ?_, ?_, ?_, ?_, ?_, trivial⟩
            · intro a u hS hr K hK
              obtain ⟨⟨vl0, e0, g0⟩, -⟩ := hr
              obtain rfl := g0.1 _ rfl
              clear g0
              rw [if_pos (want_none rfl)]
              unfold Oper.wp
              go_simp
              exact hK _ _ ⟨fun _ h => Option.some.inj h, fun _ h => no_some h⟩ hS (Below.refl _ _)
            · intro a u hS hr K hK
              obtain ⟨⟨vl0, e0, g0⟩, -⟩ := hr
              obtain rfl := g0.1 _ rfl
              clear g0
              rw [if_pos (want_none rfl)]
              unfold Oper.wp
              go_simp
              exact hK _ _ ⟨fun _ h => Option.some.inj h, fun _ h => no_some h⟩ hS (Below.refl _ _)
            · intro a u hS hr K hK
              obtain ⟨⟨vl0, e0, g0⟩, -⟩ := hr
              obtain rfl := g0.1 _ rfl
              clear g0
              rw [if_pos (want_none rfl)]
              unfold Oper.wp
              go_simp
              exact hK _ _ ⟨fun _ h => Option.some.inj h, fun _ h => no_some h⟩ hS (Below.refl _ _)
            · intro a u hS hr K hK
              obtain ⟨⟨vl0, e0, g0⟩, ⟨vl1, e1, g1⟩, -⟩ := hr
              obtain rfl := g0.1 _ rfl
              clear g0
              obtain rfl := g1.1 _ rfl
              clear g1
              rw [if_pos (want_none rfl)]
              unfold Oper.wp
              go_simp
              exact hK _ _ ⟨fun _ h => Option.some.inj h, fun _ h => no_some h⟩ hS (Below.refl _ _)
            · intro a u hS hr K hK
              obtain ⟨⟨vl0, e0, g0⟩, -⟩ := hr
              obtain rfl := g0.1 _ rfl
              clear g0
              rw [if_pos (want_none rfl)]
              unfold Oper.wp
              go_simp
              exact hK _ _ ⟨fun _ h => Option.some.inj h, fun _ h => no_some h⟩ hS (Below.refl _ _)
            · intro a u hS hr K hK
              obtain ⟨⟨vl0, e0, g0⟩, -⟩ := hr
              obtain rfl := g0.1 _ rfl
              clear g0
              rw [if_pos (want_none rfl)]
              unfold Oper.wp
              go_simp
              exact hK _ _ ⟨fun _ h => Option.some.inj h, fun _ h => no_some h⟩ hS (Below.refl _ _)
            · intro a u hS hr K hK
              obtain ⟨⟨vl0, e0, g0⟩, ⟨vl1, e1, g1⟩, -⟩ := hr
              obtain rfl := g0.1 _ rfl
              clear g0
              obtain rfl := g1.1 _ rfl
              clear g1
              rw [if_pos (want_none rfl)]
              unfold Oper.wp
              go_simp
              exact hK _ _ ⟨fun _ h => Option.some.inj h, fun _ h => no_some h⟩ hS (Below.refl _ _)
            · intro a u hS hr K hK
              obtain ⟨⟨vl0, e0, g0⟩, -⟩ := hr
              obtain rfl := g0.1 _ rfl
              clear g0
              rw [if_pos (want_none rfl)]
              unfold Oper.wp
              go_simp
              exact hK _ _ ⟨fun _ h => Option.some.inj h, fun _ h => no_some h⟩ hS (Below.refl _ _)
            · intro a u hS hr K hK
              obtain ⟨⟨vl0, e0, g0⟩, ⟨vl1, e1, g1⟩, -⟩ := hr
              obtain rfl := g0.1 _ rfl
              clear g0
              obtain rfl := g1.1 _ rfl
              clear g1
              rw [if_neg (unwant rfl rfl rfl e1 (by decide))]
              exact hK _ _ ⟨fun _ h => no_some h, fun _ h => spec_ok h trivial⟩ hS (Below.refl _ _)
            · intro a u hS hr K hK
              obtain ⟨⟨vl0, e0, g0⟩, ⟨vl1, e1, g1⟩, -⟩ := hr
              obtain rfl := g0.1 _ rfl
              clear g0
              obtain rfl := g1.1 _ rfl
              clear g1
              rw [if_neg (unwant rfl rfl rfl e1 (by decide))]
              exact hK _ _ ⟨fun _ h => no_some h, fun _ h => spec_ok h trivial⟩ hS (Below.refl _ _)
            · intro a u hS hr K hK
              obtain ⟨⟨vl0, e0, g0⟩, ⟨vl1, e1, g1⟩, -⟩ := hr
              obtain rfl := g0.1 _ rfl
              clear g0
              obtain rfl := g1.1 _ rfl
              clear g1
              rw [if_neg (unwant rfl rfl rfl e1 (by decide))]
              exact hK _ _ ⟨fun _ h => no_some h, fun _ h => spec_ok h trivial⟩ hS (Below.refl _ _)
            · intro a u hS hr K hK
              obtain ⟨⟨vl0, e0, g0⟩, ⟨vl1, e1, g1⟩, -⟩ := hr
              obtain rfl := g0.1 _ rfl
              clear g0
              obtain rfl := g1.1 _ rfl
              clear g1
              rw [if_neg (unwant rfl rfl rfl e1 (by decide))]
              exact hK _ _ ⟨fun _ h => no_some h, fun _ h => spec_ok h trivial⟩ hS (Below.refl _ _)
            · intro a u hS hr K hK
              obtain ⟨⟨vl0, e0, g0⟩, ⟨vl1, e1, g1⟩, -⟩ := hr
              replace g0 := g0.2 _ rfl
              obtain rfl := g1.1 _ rfl
              clear g1
              rw [if_neg (unwant rfl rfl rfl e1 (by decide))]
              exact hK _ _ ⟨fun _ h => no_some h, fun _ h => spec_ok h trivial⟩ hS (Below.refl _ _)
            · intro a u hS hr K hK
              obtain ⟨⟨vl0, e0, g0⟩, ⟨vl1, e1, g1⟩, ⟨vl2, e2, g2⟩, -⟩ := hr
              replace g0 := g0.2 _ rfl
              replace g1 := g1.2 _ rfl
              obtain rfl := g2.1 _ rfl
              clear g2
              rw [if_neg (unwant rfl rfl rfl e2 (by decide))]
              exact hK _ _ ⟨fun _ h => no_some h, fun _ h => spec_ok h trivial⟩ hS (Below.refl _ _)
            · intro a u hS hr K hK
              obtain ⟨⟨vl0, e0, g0⟩, ⟨vl1, e1, g1⟩, ⟨vl2, e2, g2⟩, ⟨vl3, e3, g3⟩, -⟩ := hr
              replace g0 := g0.2 _ rfl
              replace g1 := g1.2 _ rfl
              replace g2 := g2.2 _ rfl
              obtain rfl := g3.1 _ rfl
              clear g3
              rw [if_neg (unwant rfl rfl rfl e3 (by decide))]
              exact hK _ _ ⟨fun _ h => no_some h, fun _ h => spec_ok h trivial⟩ hS (Below.refl _ _)
            · intro a u hS hr K hK
              obtain ⟨⟨vl0, e0, g0⟩, ⟨vl1, e1, g1⟩, -⟩ := hr
              obtain rfl := g0.1 _ rfl
              clear g0
              obtain rfl := g1.1 _ rfl
              clear g1
              rw [if_neg (unwant rfl rfl rfl e1 (by decide))]
              exact hK _ _ ⟨fun _ h => no_some h, fun _ h => spec_ok h trivial⟩ hS (Below.refl _ _)
            · intro a u hS hr K hK
              obtain ⟨⟨vl0, e0, g0⟩, ⟨vl1, e1, g1⟩, -⟩ := hr
              replace g0 := g0.2 _ rfl
              obtain rfl := g1.1 _ rfl
              clear g1
              rw [if_neg (unwant rfl rfl rfl e1 (by decide))]
              exact hK _ _ ⟨fun _ h => no_some h, fun _ h => spec_ok h trivial⟩ hS (Below.refl _ _)
            · intro a u hS hr K hK
              obtain ⟨⟨vl0, e0, g0⟩, ⟨vl1, e1, g1⟩, ⟨vl2, e2, g2⟩, -⟩ := hr
              replace g0 := g0.2 _ rfl
              replace g1 := g1.2 _ rfl
              obtain rfl := g2.1 _ rfl
              clear g2
              rw [if_neg (unwant rfl rfl rfl e2 (by decide))]
              exact hK _ _ ⟨fun _ h => no_some h, fun _ h => spec_ok h trivial⟩ hS (Below.refl _ _)
            · intro a u hS hr K hK
              obtain ⟨⟨vl0, e0, g0⟩, ⟨vl1, e1, g1⟩, -⟩ := hr
              obtain rfl := g0.1 _ rfl
              clear g0
              replace g1 := g1.2 _ rfl
              rw [if_pos (want_none rfl)]
              unfold Oper.wp
              go_simp
              exact hK _ _ ⟨fun _ h => Option.some.inj h, fun _ h => no_some h⟩ hS (Below.refl _ _)
            · intro a u hS hr K hK
              obtain ⟨⟨vl0, e0, g0⟩, -⟩ := hr
              obtain rfl := g0.1 _ rfl
              clear g0
              rw [if_pos (want_none rfl)]
              unfold Oper.wp
              go_simp
              exact hK _ _ ⟨fun _ h => Option.some.inj h, fun _ h => no_some h⟩ hS (Below.refl _ _)
          intro a w9 hS hts hd hkn hf0
          have HB9 := hidd hS
          clear hS
          have hf := hf0
          clear hf0
          obtain ⟨v67, e67, g67⟩ := hf 0 _ 67 rfl rfl
          obtain ⟨v68, e68, g68⟩ := hf 1 _ 68 rfl rfl
          obtain ⟨v69, e69, g69⟩ := hf 2 _ 69 rfl rfl
          obtain ⟨v70, e70, g70⟩ := hf 3 _ 70 rfl rfl
          obtain ⟨v71, e71, g71⟩ := hf 4 _ 71 rfl rfl
          obtain ⟨v72, e72, g72⟩ := hf 5 _ 72 rfl rfl
          obtain ⟨v73, e73, g73⟩ := hf 6 _ 73 rfl rfl
          obtain ⟨v74, e74, g74⟩ := hf 7 _ 74 rfl rfl
          obtain ⟨v75, e75, g75⟩ := hf 8 _ 75 rfl rfl
          obtain ⟨v76, e76, g76⟩ := hf 9 _ 76 rfl rfl
          obtain ⟨v77, e77, g77⟩ := hf 10 _ 77 rfl rfl
          obtain ⟨v78, e78, g78⟩ := hf 11 _ 78 rfl rfl
          obtain ⟨v79, e79, g79⟩ := hf 12 _ 79 rfl rfl
          obtain ⟨v80, e80, g80⟩ := hf 13 _ 80 rfl rfl
          obtain ⟨v81, e81, g81⟩ := hf 14 _ 81 rfl rfl
          obtain ⟨v82, e82, g82⟩ := hf 15 _ 82 rfl rfl
          obtain ⟨v83, e83, g83⟩ := hf 16 _ 83 rfl rfl
          obtain ⟨v84, e84, g84⟩ := hf 17 _ 84 rfl rfl
          obtain ⟨v85, e85, g85⟩ := hf 18 _ 85 rfl rfl
          obtain ⟨v16, e16, g16⟩ := hf 19 _ 16 rfl rfl
          have hA := act_puts [(67, v67), (68, v68), (69, v69), (70, v70), (71, v71), (72, v72), (73, v73), (74, v74), (75, v75), (76, v76), (77, v77), (78, v78), (79, v79), (80, v80), (81, v81), (82, v82), (83, v83), (84, v84), (85, v85), (16, v16)] hts hd hkn (by kernel_rfl) (by simp [e67, e68, e69, e70, e71, e72, e73, e74, e75, e76, e77, e78, e79, e80, e81, e82, e83, e84, e85, e16])
          clear hf hts hd hkn e67 e68 e69 e70 e71 e72 e73 e74 e75 e76 e77 e78 e79 e80 e81 e82 e83 e84 e85 e16
          obtain rfl := g67.1 _ rfl
          clear g67
          obtain rfl := g68.1 _ rfl
          clear g68
          obtain rfl := g69.1 _ rfl
          clear g69
          obtain rfl := g70.1 _ rfl
          clear g70
          obtain rfl := g71.1 _ rfl
          clear g71
          obtain rfl := g72.1 _ rfl
          clear g72
          obtain rfl := g73.1 _ rfl
          clear g73
          obtain rfl := g74.1 _ rfl
          clear g74
          replace g75 := g75.2 _ rfl
          replace g76 := g76.2 _ rfl
          replace g77 := g77.2 _ rfl
          replace g78 := g78.2 _ rfl
          replace g79 := g79.2 _ rfl
          replace g80 := g80.2 _ rfl
          replace g81 := g81.2 _ rfl
          replace g82 := g82.2 _ rfl
          replace g83 := g83.2 _ rfl
          replace g84 := g84.2 _ rfl
          obtain rfl := g85.1 _ rfl
          clear g85
          obtain rfl := g16.1 _ rfl
          clear g16
          subst hA
          simp only [List.foldl, List.setIfInBounds_toArray, List.set_cons_zero, List.set_cons_succ]
          simp only [Exit.then]
          apply_assumption
          clear hz hey
          have hend := HNO.out (.inl hp)
          have hE := HEN.out y f (by omega) hfy w9 HB9.out
          rw [hend] at hE
          go_wp2_with fail
          refine hE.mono ?_
          rintro e w10 ⟨b10, A12, c12, rfl, own10⟩
          have HB10 := hidd (HB9.out.trans (b10.mono HB9.out.size))
          have HOW := hidd own10
          have hcv := HCV.out w10 HB10.out
          have hcat : ¬ (9223372036854775807 : Nat) < sx.size + y.size := by have := HX2.out.2.2.1; omega
          have hlo := longest_any (some ⟨g8, 0, none⟩) (k + 1) cap8 (sx ++ y) 0 (endL (wordN ds) (bs (sx ++ y)) 0) (endL_few _ _ _ (by have := HX2.out.2.2.1; rw [ByteArray.size_append]; omega)) w10 (HEN.out (sx ++ y) 0 (by have := HX2.out.2.2.1; rw [ByteArray.size_append]; omega) (Nat.zero_le _) w10 HB10.out)
          rw [HJ.out.1] at hlo
          rw [show longZ [k] 0 = (k : Int) from HJ.out.2.1, show longB [k] 0 = true from HJ.out.2.2.1] at hlo
          clear hE b10 own10
          go_wp2_with fail
          refine hlo.mono ?_
          rintro e w11 ⟨b11, rfl⟩
          have HB11 := hidd (HB10.out.trans (b11.mono HB10.out.size))
          have HC11 := hidd b11
          clear hlo b11 hcv hcat
          have hcv := HCV.out w11 HB11.out
          have his := HIS.out sx (by have := HX2.out.2.2.1; omega) w11 HB11.out
          rw [HJ.out.2.2.2.1] at his
          go_wp2_with fail
          refine his.mono ?_
          rintro e w12 ⟨b12, rfl⟩
          have HB12 := hidd (HB11.out.trans (b12.mono HB11.out.size))
          clear his b12 hcv
          have hcv := HCV1.out (c - 1) w12 HB12.out
          rw [show k1 = k - 1 from by have := HK1.out; omega] at hcv
          have his := HIS.out sx1 (by have := HX2.out.2.2.2; have := HK1.out; omega) w12 HB12.out
          rw [HJ.out.2.2.2.2] at his
          go_wp2_with fail
          refine his.mono ?_
          rintro e w13 ⟨b13, rfl⟩
          have HB13 := hidd (HB8.out.trans ((HB12.out.trans (b13.mono HB12.out.size)).mono HB8.out.size))
          clear his b13 hcv
          go_wp2
          go_ret
          exact ⟨rfl, HB13.out⟩
end Go.Proofs.YtcgondjekpcpgaaDoor.Sy.Lg.Wd
