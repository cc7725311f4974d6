/- A node printed, a tree printed: the landed functions. -/
import Derived.Test.YtghjkbjpdjlddaaDoorDe
import Derived.Test.YtghjkbjpdjlddaaDoorSc
namespace Go.Proofs.YtghjkbjpdjlddaaDoor.Sy.Pn
open Go.RowKit
set_option maxRecDepth 100000
set_option linter.unusedVariables false

def Sx (t : List Nat) (v : Value) (_ : World) : Prop := ∃ s, v = .string s ∧ bs s = t
theorem Env.tvu {W0 u : World} {B b N : Nat} {A : Option Addr} {gs : List Gd} {ns : List Nd} (E : Env W0 B b N A gs ns) (h : Below B W0 u) : TV u := E.tv.below (by have := E.base; subst this; exact h)
set_option linter.unusedVariables false in
def NbGV (b q : Nat) (st : Nat → Bool) (t : Nat) : Option Value :=
  match t with
  | 0 => some (.pointer (some ⟨b, 0, none⟩))
  | 3 => some (.pointer (some ⟨q, 0, none⟩))
  | 8 => some (.pointer (some ⟨b, 0, none⟩))
  | 9 => some (.pointer (some ⟨b, 0, none⟩))
  | 10 => some (.pointer (some ⟨b, 1, none⟩))
  | 11 => some (.pointer (some ⟨q, 1, none⟩))
  | 12 => some (.agg #[.int .u64 (W (st) 0), .int .u64 (W (st) 1), .int .u64 (W (st) 2), .int .u64 (W (st) 3)])
  | _ => none
set_option linter.unusedVariables false in
def NbGP (b q : Nat) (st : Nat → Bool) (t : Nat) : Option (Value → World → Prop) :=
  match t with
  | 13 => some (Sx (setT st))
  | _ => none
def NbG (b q : Nat) (st : Nat → Bool) (t : Nat) (v : Value) (u : World) : Prop := (∀ z9, NbGV b q st t = some z9 → v = z9) ∧ ∀ R, NbGP b q st t = some R → R v u
set_option linter.unusedVariables false in
def NrGV (b q : Nat) (nm : ByteArray) (t : Nat) : Option Value :=
  match t with
  | 0 => some (.pointer (some ⟨b, 0, none⟩))
  | 3 => some (.pointer (some ⟨q, 0, none⟩))
  | 21 => some (.pointer (some ⟨b, 0, none⟩))
  | 22 => some (.pointer (some ⟨b, 0, none⟩))
  | 23 => some (.pointer (some ⟨b, 1, none⟩))
  | 24 => some (.pointer (some ⟨q, 8, none⟩))
  | 25 => some (.string nm)
  | _ => none
set_option linter.unusedVariables false in
def NrGP (b q : Nat) (nm : ByteArray) (t : Nat) : Option (Value → World → Prop) :=
  match t with
  | _ => none
def NrG (b q : Nat) (nm : ByteArray) (t : Nat) (v : Value) (u : World) : Prop := (∀ z9, NrGV b q nm t = some z9 → v = z9) ∧ ∀ R, NrGP b q nm t = some R → R v u
set_option linter.unusedVariables false in
def NpGV (b q : Nat) (lo : Nat) (hi : Int) (t : Nat) : Option Value :=
  match t with
  | 0 => some (.pointer (some ⟨b, 0, none⟩))
  | 3 => some (.pointer (some ⟨q, 0, none⟩))
  | 36 => some (.pointer (some ⟨b, 0, none⟩))
  | 37 => some (.pointer (some ⟨b, 0, none⟩))
  | 38 => some (.pointer (some ⟨b, 1, none⟩))
  | 39 => some (.pointer (some ⟨q, 6, none⟩))
  | 40 => some (.int .i64 (lo : Int))
  | 41 => some (.pointer (some ⟨q, 7, none⟩))
  | 42 => some (.int .i64 hi)
  | _ => none
set_option linter.unusedVariables false in
def NpGP (b q : Nat) (lo : Nat) (hi : Int) (t : Nat) : Option (Value → World → Prop) :=
  match t with
  | 43 => some (Sx (timesT (lo : Int) hi))
  | _ => none
def NpG (b q : Nat) (lo : Nat) (hi : Int) (t : Nat) (v : Value) (u : World) : Prop := (∀ z9, NpGV b q lo hi t = some z9 → v = z9) ∧ ∀ R, NpGP b q lo hi t = some R → R v u
section
variable {W0 : World} {B b N c : Nat} {A : Option Addr} {gs : List Gd} {ns : List Nd}
set_option maxHeartbeats 4000000 in
theorem node_2 (E : Env W0 B b N A gs ns) (Ag : Option Addr) (cg : Nat) (w : World) (v : Value) (t : List Nat) (gset : Nat → Bool) (gl : List Int) (glo ghi : Int) (gnm : ByteArray) (X : Bxd W0 B b N c A w v t ⟨2, gset, gl, glo, ghi, gnm⟩ Ag cg w v (w.alloc (.cells (gdL ⟨2, gset, gl, glo, ghi, gnm⟩ Ag cg).toArray 30))) (hl : t.length + (setT gset).length ≤ 10000000000) :
    Calls Tryd.prog 20 #[.pointer (some ⟨b, 0, none⟩), .agg (gdL ⟨2, gset, gl, glo, ghi, gnm⟩ Ag cg).toArray] w fun e w' => e = .returned (.tuple #[]) ∧ ∃ v', WrP (.slice A N c) w' B b v' (t ++ (setT gset)) ∧ Fr b v v' w w' := by
  have HX := hidd X
  obtain ⟨a0, a1, a2, a3, a4, a5, a6, a7, a8⟩ := node_cells X.row
  clear X
  unfold gdL at a0 a1 a2 a3 a4 a5 a6 a7 a8 ⊢
  go_enter Tryd.func20, Tryd.ntmps20
  go_wp2_with fail
  refine wp_region_slotsT 6 (by decide) (by kernel_rfl) (by kernel_rfl) (fun _ _ => true) (PnS (w.alloc (.cells (gdL ⟨2, gset, gl, glo, ghi, gnm⟩ Ag cg).toArray 30)) b w.heap.size (.slice A N c) (gdL ⟨2, gset, gl, glo, ghi, gnm⟩ Ag cg).toArray) (NbG b w.heap.size gset) Eb (by kernel_rfl) (by kernel_rfl) (by kernel_rfl) (by kernel_rfl) ?_ (PnS.drew ⟨HX.out.row, wr_nds HX.out.wr, Below.refl _ _⟩) [0, 3] (by kernel_rfl) ?_ ?_ ?_
  · intro t d v u u' _ _ h hE
    exact ⟨h.1, fun R hR => by
      have h2 := h.2 R hR
      unfold NbGP at hR
      first
      | (split at hR <;> first | (cases hR; exact h2) | cases hR)
      | cases hR⟩
  · intro u _
    refine ⟨⟨_, rfl, ?_⟩, ⟨_, rfl, ?_⟩, trivial⟩ <;> exact ⟨fun _ h => Option.some.inj h, fun _ h => no_some h⟩
  · refine ⟨?_, ?_, ?_, ?_, ?_, ?_, trivial⟩
    · intro a u hS hr K hK
      obtain ⟨⟨vl0, e0, g0⟩, -⟩ := hr
      obtain rfl := g0.1 _ rfl
      clear g0
      rw [if_pos (want_none rfl)]
      unfold Oper.wp
      go_simp
      exact hK _ _ ⟨fun _ h => Option.some.inj h, fun _ h => no_some h⟩ hS (eby rfl (Below.refl _ _))
    · intro a u hS hr K hK
      obtain ⟨⟨vl0, e0, g0⟩, -⟩ := hr
      obtain rfl := g0.1 _ rfl
      clear g0
      rw [if_pos (want_none rfl)]
      unfold Oper.wp
      go_simp
      exact hK _ _ ⟨fun _ h => Option.some.inj h, fun _ h => no_some h⟩ hS (eby rfl (Below.refl _ _))
    · intro a u hS hr K hK
      obtain ⟨⟨vl0, e0, g0⟩, -⟩ := hr
      obtain rfl := g0.1 _ rfl
      clear g0
      rw [if_pos (want_none rfl)]
      unfold Oper.wp
      go_simp
      exact hK _ _ ⟨fun _ h => Option.some.inj h, fun _ h => no_some h⟩ hS (eby rfl (Below.refl _ _))
    · intro a u hS hr K hK
      obtain ⟨⟨vl0, e0, g0⟩, -⟩ := hr
      obtain rfl := g0.1 _ rfl
      clear g0
      rw [if_pos (want_none rfl)]
      unfold Oper.wp
      go_simp
      exact hK _ _ ⟨fun _ h => Option.some.inj h, fun _ h => no_some h⟩ hS (eby rfl (Below.refl _ _))
    · intro a u hS hr K hK
      obtain ⟨⟨vl0, e0, g0⟩, -⟩ := hr
      obtain rfl := g0.1 _ rfl
      clear g0
      rw [if_pos (want_none rfl)]
      obtain ⟨c0, c1, c2, c3, c4, c5, c6, c7, c8⟩ := node_cells hS.box
      unfold Oper.wp
      go_simp
      exact hK _ _ ⟨fun _ h => Option.some.inj h, fun _ h => no_some h⟩ hS (eby rfl (Below.refl _ _))
    · intro a u hS hr K hK
      obtain ⟨⟨vl0, e0, g0⟩, -⟩ := hr
      obtain rfl := g0.1 _ rfl
      clear g0
      rw [if_pos (want_none rfl)]
      unfold Oper.wp
      go_simp
      refine (pset_any gset _).mono ?_
      rintro e u1 ⟨s, rfl, hs, hb⟩
      exact hK _ _ ⟨fun _ h => no_some h, fun _ h => spec_ok h ⟨s, rfl, hs⟩⟩ (hS.below hb) (eby rfl hb)
  intro a u hS hts hd hkn hf
  have HX3 := hidd (HX.out.read E hS.bel)
  obtain ⟨v8, e8, g8⟩ := hf 0 _ 8 (by decide) rfl rfl (fun _ => rfl)
  obtain ⟨v9, e9, g9⟩ := hf 1 _ 9 (by decide) rfl rfl (fun _ => rfl)
  obtain ⟨v10, e10, g10⟩ := hf 2 _ 10 (by decide) rfl rfl (fun _ => rfl)
  obtain ⟨v11, e11, g11⟩ := hf 3 _ 11 (by decide) rfl rfl (fun _ => rfl)
  obtain ⟨v12, e12, g12⟩ := hf 4 _ 12 (by decide) rfl rfl (fun _ => rfl)
  obtain ⟨v13, e13, g13⟩ := hf 5 _ 13 (by decide) rfl rfl (fun _ => rfl)
  obtain ⟨v14, e14⟩ : ∃ z, a.tmps[14]? = some z := ⟨_, Array.getElem?_eq_getElem (by rw [hts]; simp)⟩
  have hA := act_puts [(8, v8), (9, v9), (10, v10), (11, v11), (12, v12), (13, v13), (14, v14)] hts hd hkn (by kernel_rfl) (by simp [e8, e9, e10, e11, e12, e13, e14])
  clear hf hts hd hkn e8 e9 e10 e11 e12 e13 e14
  obtain rfl := g8.1 _ rfl
  clear g8
  obtain rfl := g9.1 _ rfl
  clear g9
  obtain rfl := g10.1 _ rfl
  clear g10
  obtain rfl := g11.1 _ rfl
  clear g11
  obtain rfl := g12.1 _ rfl
  clear g12
  replace g13 := g13.2 _ rfl
  subst hA
  simp only [List.foldl, List.setIfInBounds_toArray, List.set_cons_zero, List.set_cons_succ]
  simp only [List.drop_succ_cons, List.drop_zero]
  obtain ⟨s, rfl, hs⟩ := g13
  have hsz : s.size ≤ 2400 := by rw [← bs_len, hs]; exact (setT_fit gset).2
  have HS := hidd hs
  clear hS a0 a1 a2 a3 a4 a5 a6 a7 a8 hs
  go_wp2_with fail
  refine (strWP _ HX3.out.wr s (by rw [← bs_len, HS.out]; omega) (HX3.out.big E)).mono ?_
  rintro e w5 ⟨rfl, v5, hW5, f5⟩
  rw [HS.out] at hW5
  have HX4 := hidd (HX3.out.go E hW5 f5)
  clear hW5 f5
  go_wp2
  go_end0
  exact ⟨rfl, v5, HX4.out.wr, HX4.out.fr⟩
set_option maxHeartbeats 4000000 in
theorem node_6 (E : Env W0 B b N A gs ns) (Ag : Option Addr) (cg : Nat) (w : World) (v : Value) (t : List Nat) (gset : Nat → Bool) (gl : List Int) (glo ghi : Int) (gnm : ByteArray) (X : Bxd W0 B b N c A w v t ⟨6, gset, gl, glo, ghi, gnm⟩ Ag cg w v (w.alloc (.cells (gdL ⟨6, gset, gl, glo, ghi, gnm⟩ Ag cg).toArray 30))) (hnz : gnm.size ≤ 1000) (hl : t.length + (123 :: (bs gnm ++ [125])).length ≤ 10000000000) :
    Calls Tryd.prog 20 #[.pointer (some ⟨b, 0, none⟩), .agg (gdL ⟨6, gset, gl, glo, ghi, gnm⟩ Ag cg).toArray] w fun e w' => e = .returned (.tuple #[]) ∧ ∃ v', WrP (.slice A N c) w' B b v' (t ++ (123 :: (bs gnm ++ [125]))) ∧ Fr b v v' w w' := by
  have HX := hidd X
  obtain ⟨a0, a1, a2, a3, a4, a5, a6, a7, a8⟩ := node_cells X.row
  clear X
  unfold gdL at a0 a1 a2 a3 a4 a5 a6 a7 a8 ⊢
  simp only [List.length_cons, List.length_append, List.length_nil] at hl
  rw [bs_len] at hl
  go_enter Tryd.func20, Tryd.ntmps20
  go_wp2_with fail
  refine (byteWP _ HX.out.wr 123 (by omega) (HX.out.big E)).mono ?_
  rintro e w2 ⟨rfl, v2, hW2, f2⟩
  have HX2 := hidd (HX.out.go E hW2 f2)
  clear a0 a1 a2 a3 a4 a5 a6 a7 a8 hW2 f2
  go_wp2_with fail
  refine wp_region_slotsT 5 (by decide) (by kernel_rfl) (by kernel_rfl) (fun _ _ => true) (PnS w2 b w.heap.size (.slice A N c) (gdL ⟨6, gset, gl, glo, ghi, gnm⟩ Ag cg).toArray) (NrG b w.heap.size gnm) Eb (by kernel_rfl) (by kernel_rfl) (by kernel_rfl) (by kernel_rfl) ?_ (PnS.drew ⟨HX2.out.row, wr_nds HX2.out.wr, Below.refl _ _⟩) [0, 3] (by kernel_rfl) ?_ ?_ ?_
  · intro t d v u u' _ _ h hE
    exact ⟨h.1, fun R hR => by
      have h2 := h.2 R hR
      unfold NrGP at hR
      first
      | (split at hR <;> first | (cases hR; exact h2) | cases hR)
      | cases hR⟩
  · intro u _
    refine ⟨⟨_, rfl, ?_⟩, ⟨_, rfl, ?_⟩, trivial⟩ <;> exact ⟨fun _ h => Option.some.inj h, fun _ h => no_some h⟩
  · refine ⟨?_, ?_, ?_, ?_, ?_, trivial⟩
    · intro a u hS hr K hK
      obtain ⟨⟨vl0, e0, g0⟩, -⟩ := hr
      obtain rfl := g0.1 _ rfl
      clear g0
      rw [if_pos (want_none rfl)]
      unfold Oper.wp
      go_simp
      exact hK _ _ ⟨fun _ h => Option.some.inj h, fun _ h => no_some h⟩ hS (eby rfl (Below.refl _ _))
    · intro a u hS hr K hK
      obtain ⟨⟨vl0, e0, g0⟩, -⟩ := hr
      obtain rfl := g0.1 _ rfl
      clear g0
      rw [if_pos (want_none rfl)]
      unfold Oper.wp
      go_simp
      exact hK _ _ ⟨fun _ h => Option.some.inj h, fun _ h => no_some h⟩ hS (eby rfl (Below.refl _ _))
    · intro a u hS hr K hK
      obtain ⟨⟨vl0, e0, g0⟩, -⟩ := hr
      obtain rfl := g0.1 _ rfl
      clear g0
      rw [if_pos (want_none rfl)]
      unfold Oper.wp
      go_simp
      exact hK _ _ ⟨fun _ h => Option.some.inj h, fun _ h => no_some h⟩ hS (eby rfl (Below.refl _ _))
    · intro a u hS hr K hK
      obtain ⟨⟨vl0, e0, g0⟩, -⟩ := hr
      obtain rfl := g0.1 _ rfl
      clear g0
      rw [if_pos (want_none rfl)]
      unfold Oper.wp
      go_simp
      exact hK _ _ ⟨fun _ h => Option.some.inj h, fun _ h => no_some h⟩ hS (eby rfl (Below.refl _ _))
    · intro a u hS hr K hK
      obtain ⟨⟨vl0, e0, g0⟩, -⟩ := hr
      obtain rfl := g0.1 _ rfl
      clear g0
      rw [if_pos (want_none rfl)]
      obtain ⟨c0, c1, c2, c3, c4, c5, c6, c7, c8⟩ := node_cells hS.box
      unfold Oper.wp
      go_simp
      exact hK _ _ ⟨fun _ h => Option.some.inj h, fun _ h => no_some h⟩ hS (eby rfl (Below.refl _ _))
  intro a u hS hts hd hkn hf
  have HX3 := hidd (HX2.out.read E hS.bel)
  obtain ⟨v21, e21, g21⟩ := hf 0 _ 21 (by decide) rfl rfl (fun _ => rfl)
  obtain ⟨v22, e22, g22⟩ := hf 1 _ 22 (by decide) rfl rfl (fun _ => rfl)
  obtain ⟨v23, e23, g23⟩ := hf 2 _ 23 (by decide) rfl rfl (fun _ => rfl)
  obtain ⟨v24, e24, g24⟩ := hf 3 _ 24 (by decide) rfl rfl (fun _ => rfl)
  obtain ⟨v25, e25, g25⟩ := hf 4 _ 25 (by decide) rfl rfl (fun _ => rfl)
  obtain ⟨v26, e26⟩ : ∃ z, a.tmps[26]? = some z := ⟨_, Array.getElem?_eq_getElem (by rw [hts]; simp)⟩
  have hA := act_puts [(21, v21), (22, v22), (23, v23), (24, v24), (25, v25), (26, v26)] hts hd hkn (by kernel_rfl) (by simp [e21, e22, e23, e24, e25, e26])
  clear hf hts hd hkn e21 e22 e23 e24 e25 e26
  obtain rfl := g21.1 _ rfl
  clear g21
  obtain rfl := g22.1 _ rfl
  clear g22
  obtain rfl := g23.1 _ rfl
  clear g23
  obtain rfl := g24.1 _ rfl
  clear g24
  obtain rfl := g25.1 _ rfl
  clear g25
  subst hA
  simp only [List.foldl, List.setIfInBounds_toArray, List.set_cons_zero, List.set_cons_succ]
  simp only [List.drop_succ_cons, List.drop_zero]
  clear hS
  go_wp2_with fail
  refine (strWP _ HX3.out.wr gnm (by simp; omega) (HX3.out.big E)).mono ?_
  rintro e w5 ⟨rfl, v5, hW5, f5⟩
  have HX4 := hidd (HX3.out.go E hW5 f5)
  clear hW5 f5
  go_wp2_with fail
  refine (byteWP _ HX4.out.wr 125 (by simp [bs_len]; omega) (HX4.out.big E)).mono ?_
  rintro e w6 ⟨rfl, v6, hW6, f6⟩
  have HX5 := hidd (HX4.out.go E hW6 f6)
  clear hW6 f6
  go_wp2
  go_end0
  refine ⟨rfl, v6, ?_, HX5.out.fr⟩
  have := HX5.out.wr
  simpa using this
set_option maxHeartbeats 4000000 in
theorem node_5 (E : Env W0 B b N A gs ns) (Ag : Option Addr) (cg : Nat) (w : World) (v : Value) (t : List Nat) (gset : Nat → Bool) (gl : List Int) (lo : Nat) (ghi : Int) (gnm : ByteArray) (K : List Nat) (X : Bxd W0 B b N c A w v t ⟨5, gset, gl, (lo : Int), ghi, gnm⟩ Ag cg w v (w.alloc (.cells (gdL ⟨5, gset, gl, (lo : Int), ghi, gnm⟩ Ag cg).toArray 30))) (HK : Hid (∀ (u : World) (v' : Value) (t' : List Nat), Below B W0 u → WrP (.slice A N c) u B b v' t' → Its u B Ag gl → t'.length + K.length ≤ 10000000000 → Calls Tryd.prog 41 #[.pointer (some ⟨b, 0, none⟩), .agg (gdL ⟨5, gset, gl, (lo : Int), ghi, gnm⟩ Ag cg).toArray, .string { data := #[] }] u fun e w' => e = .returned (.tuple #[]) ∧ ∃ v2, WrP (.slice A N c) w' B b v2 (t' ++ K) ∧ Fr b v' v2 u w')) (hlo6 : lo ≤ 1000000) (hlo : lo ≤ 9999) (hhi : ghi = -1 ∨ (0 ≤ ghi ∧ ghi ≤ 9999)) (hl : t.length + (K ++ timesT (lo : Int) ghi).length ≤ 10000000000) :
    Calls Tryd.prog 20 #[.pointer (some ⟨b, 0, none⟩), .agg (gdL ⟨5, gset, gl, (lo : Int), ghi, gnm⟩ Ag cg).toArray] w fun e w' => e = .returned (.tuple #[]) ∧ ∃ v', WrP (.slice A N c) w' B b v' (t ++ (K ++ timesT (lo : Int) ghi)) ∧ Fr b v v' w w' := by
  have HX := hidd X
  obtain ⟨a0, a1, a2, a3, a4, a5, a6, a7, a8⟩ := node_cells X.row
  clear X
  rw [List.length_append] at hl
  unfold gdL at a0 a1 a2 a3 a4 a5 a6 a7 a8 ⊢
  go_enter Tryd.func20, Tryd.ntmps20
  go_wp2_with fail
  refine (HK.out _ v t HX.out.old HX.out.wr HX.out.its (by omega)).mono ?_
  rintro e w2 ⟨rfl, v2, hW2, f2⟩
  have HX2 := hidd (HX.out.go E hW2 f2)
  clear a0 a1 a2 a3 a4 a5 a6 a7 a8 hW2 f2
  have htv : ∀ u, Below w2.heap.size w2 u → TV u := fun u hu => E.tvu (HX2.out.old.trans (hu.mono (HX2.out.big E)))
  go_wp2_with fail
  refine wp_region_slotsT 8 (by decide) (by kernel_rfl) (by kernel_rfl) (fun _ _ => true) (PnS w2 b w.heap.size (.slice A N c) (gdL ⟨5, gset, gl, (lo : Int), ghi, gnm⟩ Ag cg).toArray) (NpG b w.heap.size lo ghi) Eb (by kernel_rfl) (by kernel_rfl) (by kernel_rfl) (by kernel_rfl) ?_ (PnS.drew ⟨HX2.out.row, wr_nds HX2.out.wr, Below.refl _ _⟩) [0, 3] (by kernel_rfl) ?_ ?_ ?_
  · intro t d v u u' _ _ h hE
    exact ⟨h.1, fun R hR => by
      have h2 := h.2 R hR
      unfold NpGP at hR
      first
      | (split at hR <;> first | (cases hR; exact h2) | cases hR)
      | cases hR⟩
  · intro u _
    refine ⟨⟨_, rfl, ?_⟩, ⟨_, rfl, ?_⟩, trivial⟩ <;> exact ⟨fun _ h => Option.some.inj h, fun _ h => no_some h⟩
  · refine ⟨?_, ?_, ?_, ?_, ?_, ?_, ?_, ?_, trivial⟩
    · intro a u hS hr K hK
      obtain ⟨⟨vl0, e0, g0⟩, -⟩ := hr
      obtain rfl := g0.1 _ rfl
      clear g0
      rw [if_pos (want_none rfl)]
      unfold Oper.wp
      go_simp
      exact hK _ _ ⟨fun _ h => Option.some.inj h, fun _ h => no_some h⟩ hS (eby rfl (Below.refl _ _))
    · intro a u hS hr K hK
      obtain ⟨⟨vl0, e0, g0⟩, -⟩ := hr
      obtain rfl := g0.1 _ rfl
      clear g0
      rw [if_pos (want_none rfl)]
      unfold Oper.wp
      go_simp
      exact hK _ _ ⟨fun _ h => Option.some.inj h, fun _ h => no_some h⟩ hS (eby rfl (Below.refl _ _))
    · intro a u hS hr K hK
      obtain ⟨⟨vl0, e0, g0⟩, -⟩ := hr
      obtain rfl := g0.1 _ rfl
      clear g0
      rw [if_pos (want_none rfl)]
      unfold Oper.wp
      go_simp
      exact hK _ _ ⟨fun _ h => Option.some.inj h, fun _ h => no_some h⟩ hS (eby rfl (Below.refl _ _))
    · intro a u hS hr K hK
      obtain ⟨⟨vl0, e0, g0⟩, -⟩ := hr
      obtain rfl := g0.1 _ rfl
      clear g0
      rw [if_pos (want_none rfl)]
      unfold Oper.wp
      go_simp
      exact hK _ _ ⟨fun _ h => Option.some.inj h, fun _ h => no_some h⟩ hS (eby rfl (Below.refl _ _))
    · intro a u hS hr K hK
      obtain ⟨⟨vl0, e0, g0⟩, -⟩ := hr
      obtain rfl := g0.1 _ rfl
      clear g0
      rw [if_pos (want_none rfl)]
      obtain ⟨c0, c1, c2, c3, c4, c5, c6, c7, c8⟩ := node_cells hS.box
      unfold Oper.wp
      go_simp
      exact hK _ _ ⟨fun _ h => Option.some.inj h, fun _ h => no_some h⟩ hS (eby rfl (Below.refl _ _))
    · intro a u hS hr K hK
      obtain ⟨⟨vl0, e0, g0⟩, -⟩ := hr
      obtain rfl := g0.1 _ rfl
      clear g0
      rw [if_pos (want_none rfl)]
      unfold Oper.wp
      go_simp
      exact hK _ _ ⟨fun _ h => Option.some.inj h, fun _ h => no_some h⟩ hS (eby rfl (Below.refl _ _))
    · intro a u hS hr K hK
      obtain ⟨⟨vl0, e0, g0⟩, -⟩ := hr
      obtain rfl := g0.1 _ rfl
      clear g0
      rw [if_pos (want_none rfl)]
      obtain ⟨c0, c1, c2, c3, c4, c5, c6, c7, c8⟩ := node_cells hS.box
      unfold Oper.wp
      go_simp
      exact hK _ _ ⟨fun _ h => Option.some.inj h, fun _ h => no_some h⟩ hS (eby rfl (Below.refl _ _))
    · intro a u hS hr K hK
      obtain ⟨⟨vl0, e0, g0⟩, ⟨vl1, e1, g1⟩, -⟩ := hr
      obtain rfl := g0.1 _ rfl
      clear g0
      obtain rfl := g1.1 _ rfl
      clear g1
      rw [if_pos (want_none rfl)]
      unfold Oper.wp
      go_simp
      refine (rep_any lo ghi hlo6 hlo hhi u (htv u hS.bel)).mono ?_
      rintro e u1 ⟨s, rfl, hs, hb⟩
      exact hK _ _ ⟨fun _ h => no_some h, fun _ h => spec_ok h ⟨s, rfl, hs⟩⟩ (hS.below hb) (eby rfl hb)
  intro a u hS hts hd hkn hf
  have HX3 := hidd (HX2.out.read E hS.bel)
  obtain ⟨v36, e36, g36⟩ := hf 0 _ 36 (by decide) rfl rfl (fun _ => rfl)
  obtain ⟨v37, e37, g37⟩ := hf 1 _ 37 (by decide) rfl rfl (fun _ => rfl)
  obtain ⟨v38, e38, g38⟩ := hf 2 _ 38 (by decide) rfl rfl (fun _ => rfl)
  obtain ⟨v39, e39, g39⟩ := hf 3 _ 39 (by decide) rfl rfl (fun _ => rfl)
  obtain ⟨v40, e40, g40⟩ := hf 4 _ 40 (by decide) rfl rfl (fun _ => rfl)
  obtain ⟨v41, e41, g41⟩ := hf 5 _ 41 (by decide) rfl rfl (fun _ => rfl)
  obtain ⟨v42, e42, g42⟩ := hf 6 _ 42 (by decide) rfl rfl (fun _ => rfl)
  obtain ⟨v43, e43, g43⟩ := hf 7 _ 43 (by decide) rfl rfl (fun _ => rfl)
  obtain ⟨v44, e44⟩ : ∃ z, a.tmps[44]? = some z := ⟨_, Array.getElem?_eq_getElem (by rw [hts]; simp)⟩
  have hA := act_puts [(36, v36), (37, v37), (38, v38), (39, v39), (40, v40), (41, v41), (42, v42), (43, v43), (44, v44)] hts hd hkn (by kernel_rfl) (by simp [e36, e37, e38, e39, e40, e41, e42, e43, e44])
  clear hf hts hd hkn e36 e37 e38 e39 e40 e41 e42 e43 e44
  obtain rfl := g36.1 _ rfl
  clear g36
  obtain rfl := g37.1 _ rfl
  clear g37
  obtain rfl := g38.1 _ rfl
  clear g38
  obtain rfl := g39.1 _ rfl
  clear g39
  obtain rfl := g40.1 _ rfl
  clear g40
  obtain rfl := g41.1 _ rfl
  clear g41
  obtain rfl := g42.1 _ rfl
  clear g42
  replace g43 := g43.2 _ rfl
  subst hA
  simp only [List.foldl, List.setIfInBounds_toArray, List.set_cons_zero, List.set_cons_succ]
  simp only [List.drop_succ_cons, List.drop_zero]
  obtain ⟨s, rfl, hs⟩ := g43
  have HS := hidd hs
  have hsz : s.size ≤ 11 := by rw [← bs_len, hs]; exact (timesT_fit (by omega) (by omega)).2
  clear hS hs htv
  go_wp2_with fail
  refine (strWP _ HX3.out.wr s (by rw [← bs_len, HS.out, List.length_append]; omega) (HX3.out.big E)).mono ?_
  rintro e w5 ⟨rfl, v5, hW5, f5⟩
  rw [HS.out] at hW5
  have HX4 := hidd (HX3.out.go E hW5 f5)
  clear hW5 f5
  go_wp2
  go_end0
  refine ⟨rfl, v5, ?_, HX4.out.fr⟩
  have := HX4.out.wr
  simpa using this
set_option maxHeartbeats 4000000 in
theorem node_of (E : Env W0 B b N A gs ns) {f : Nat} (ih : KidC W0 B b N c A gs ns f) : NodeC W0 B b N c A gs ns (f + 1) := by
  intro a ha haf Ag cg w v t hW hWr hI hl
  have hG := node_at E ha
  have hsh := E.shp a ha
  have hln := E.lens (gs.getD a gd0) (by rw [List.getD_eq_getElem?_getD, List.getElem?_eq_getElem (by rw [E.len]; exact ha)]; exact List.getElem_mem _)
  have X := Bxd.start (g := gs.getD a gd0) (cg := cg) E hW hWr hI
  have hk0 := fun u v' t' h1 h2 h3 => kids_of E ih a ha haf { data := #[] } (by decide) Ag cg u v' t' h1 h2 h3
  have hk1 := fun u v' t' h1 h2 h3 => kids_of E ih a ha haf { data := #[124] } (by decide) Ag cg u v' t' h1 h2 h3
  rw [show bs { data := #[] } = [] from rfl] at hk0
  rw [show bs { data := #[124] } = [124] from rfl] at hk1
  obtain ⟨g, hg⟩ : ∃ g, gs.getD a gd0 = g := ⟨_, rfl⟩
  rw [hg] at hG hln X hk0 hk1
  rw [hg]
  obtain ⟨n, hn⟩ : ∃ n, ns.getD a nd0 = n := ⟨_, rfl⟩
  rw [hn] at hl hG hsh hk0 hk1
  rw [hn]
  rw [nodeT_succ] at hl ⊢
  clear hn hg hI hW hWr ih
  obtain ⟨gop, gset, gl, glo, ghi, gnm⟩ := g
  have hop : gop = (n.op : Int) := hG.op
  by_cases h2 : n.op = 2
  · obtain rfl : gop = 2 := by rw [hop, h2]; rfl
    have HT : Hid (headT (kidT ns f n) n = setT gset) := by
      show _ = _
      unfold headT
      rw [if_pos h2]
      exact (setT_congr hG.s).symm
    rw [HT.out] at hl ⊢
    exact node_2 E Ag cg w v t gset gl glo ghi gnm X hl
  by_cases h6 : n.op = 6
  · obtain rfl : gop = 6 := by rw [hop, h6]; rfl
    have HT : Hid (headT (kidT ns f n) n = 123 :: (bs gnm ++ [125])) := by
      show _ = _
      unfold headT
      rw [if_neg h2, if_pos h6, ← hG.nm]
    rw [HT.out] at hl ⊢
    exact node_6 E Ag cg w v t gset gl glo ghi gnm X hln.1 hl
  by_cases h5 : n.op = 5
  · obtain rfl : gop = 5 := by rw [hop, h5]; rfl
    obtain ⟨q1, q2, q3, q4⟩ := shape_op5 hsh h5
    rw [← hG.lo] at q1 q3 q4
    rw [← hG.hi] at q2 q4
    simp only at q1 q2 q3 q4
    have HT : Hid (headT (kidT ns f n) n = kidsT [] (kidT ns f n) n.l.length ++ timesT glo ghi) := by
      show _ = _
      unfold headT
      rw [if_neg h2, if_neg h6, if_pos h5, ← hG.lo, ← hG.hi]
    rw [HT.out] at hl ⊢
    obtain ⟨lo, rfl⟩ : ∃ lo : Nat, glo = (lo : Int) := ⟨glo.toNat, by omega⟩
    have hlo6 : lo ≤ 1000000 := by omega
    have hlo : lo ≤ 9999 := by omega
    have hhi : ghi = -1 ∨ (0 ≤ ghi ∧ ghi ≤ 9999) := by omega
    exact node_5 E Ag cg w v t gset gl lo ghi gnm _ X hk0 hlo6 hlo hhi hl
  by_cases h3 : n.op = 3
  · obtain rfl : gop = 3 := by rw [hop, h3]; rfl
    have HT : Hid (headT (kidT ns f n) n = kidsT [] (kidT ns f n) n.l.length) := by
      show _ = _
      unfold headT
      rw [if_neg h2, if_neg h6, if_neg h5, if_pos h3]
    rw [HT.out] at hl ⊢
    have HX := hidd X
    obtain ⟨a0, a1, a2, a3, a4, a5, a6, a7, a8⟩ := node_cells X.row
    have HK := hidd hk0
    clear X hk0 hk1 hop h2 h6 h5 h3 hG hsh hln HT
    generalize kidsT [] (kidT ns f n) n.l.length = K at *
    unfold gdL at a0 a1 a2 a3 a4 a5 a6 a7 a8 ⊢
    go_enter Tryd.func20, Tryd.ntmps20
    go_wp2_with fail
    refine (HK.out _ v t HX.out.old HX.out.wr HX.out.its (by omega)).mono ?_
    rintro e w2 ⟨rfl, v2, hW2, f2⟩
    have HX2 := hidd (HX.out.go E hW2 f2)
    clear a0 a1 a2 a3 a4 a5 a6 a7 a8 hW2 f2
    go_wp2
    go_end0
    exact ⟨rfl, v2, HX2.out.wr, HX2.out.fr⟩
  by_cases h4 : n.op = 4
  · obtain rfl : gop = 4 := by rw [hop, h4]; rfl
    have HT : Hid (headT (kidT ns f n) n = kidsT [124] (kidT ns f n) n.l.length) := by
      show _ = _
      unfold headT
      rw [if_neg h2, if_neg h6, if_neg h5, if_neg h3, if_pos h4]
    rw [HT.out] at hl ⊢
    have HX := hidd X
    obtain ⟨a0, a1, a2, a3, a4, a5, a6, a7, a8⟩ := node_cells X.row
    have HK := hidd hk1
    clear X hk0 hk1 hop h2 h6 h5 h3 h4 hG hsh hln HT
    generalize kidsT [124] (kidT ns f n) n.l.length = K at *
    unfold gdL at a0 a1 a2 a3 a4 a5 a6 a7 a8 ⊢
    go_enter Tryd.func20, Tryd.ntmps20
    go_wp2_with fail
    refine (HK.out _ v t HX.out.old HX.out.wr HX.out.its (by omega)).mono ?_
    rintro e w2 ⟨rfl, v2, hW2, f2⟩
    have HX2 := hidd (HX.out.go E hW2 f2)
    clear a0 a1 a2 a3 a4 a5 a6 a7 a8 hW2 f2
    go_wp2
    go_end0
    exact ⟨rfl, v2, HX2.out.wr, HX2.out.fr⟩
  · have HT : Hid (headT (kidT ns f n) n = []) := by
      show _ = _
      unfold headT
      rw [if_neg h2, if_neg h6, if_neg h5, if_neg h3, if_neg h4]
    rw [HT.out] at hl ⊢
    have HX := hidd X
    obtain ⟨a0, a1, a2, a3, a4, a5, a6, a7, a8⟩ := node_cells X.row
    have i2 : (gop == 2) = false := by rw [hop]; simp; omega
    have i3 : (gop == 3) = false := by rw [hop]; simp; omega
    have i4 : (gop == 4) = false := by rw [hop]; simp; omega
    have i5 : (gop == 5) = false := by rw [hop]; simp; omega
    have i6 : (gop == 6) = false := by rw [hop]; simp; omega
    clear X hk0 hk1 hop h2 h6 h5 h3 h4 hG hsh hln HT
    unfold gdL at a0 a1 a2 a3 a4 a5 a6 a7 a8 ⊢
    go_enter Tryd.func20, Tryd.ntmps20
    go_wp2
    go_end0
    exact ⟨rfl, v, HX.out.wr, HX.out.fr⟩
theorem node_all (E : Env W0 B b N A gs ns) : ∀ f, NodeC W0 B b N c A gs ns f
  | 0 => fun a _ h => absurd h (Nat.not_lt_zero a)
  | f + 1 => node_of E (kid_of E (node_all E f))
end
end Go.Proofs.YtghjkbjpdjlddaaDoor.Sy.Pn
