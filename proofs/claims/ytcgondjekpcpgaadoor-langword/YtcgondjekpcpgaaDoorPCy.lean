/- Whether nodes have no name; the matcher made. -/
import Derived.Test.YtcgondjekpcpgaaDoorPCx
import Derived.Test.YtcgondjekpcpgaaDoorPAf
import Derived.Test.YtcgondjekpcpgaaDoorPAn
import Derived.Test.YtcgondjekpcpgaaDoorPM4
namespace Go.Proofs.YtcgondjekpcpgaaDoor.Sy.Lg.En
open Go.RowKit Go.Proofs.YtcgondjekpcpgaaDoor.Sy.Ap Go.Proofs.YtcgondjekpcpgaaDoor.Sy.Ap.Wk Go.Proofs.YtcgondjekpcpgaaDoor.Sy.Lg.Oq Go.Proofs.YtcgondjekpcpgaaDoor.Sy.Lg.Ef
set_option maxRecDepth 100000
set_option linter.unusedVariables false

theorem make_intsL (n : Nat) (hn : n ≤ 1000000) (w : World) : (Instr.makeSlice 30 (.int .i64 (n : Int)) (.int .i64 (n : Int))).run Tryd.prog w =
    .ok (.slice (some ⟨w.heap.size, 0, none⟩) n n) (w.alloc (.cells (fnC n (fun _ => .int .i64 0)) 3)) := by
  obtain ⟨i0, hi0, hz0, hz1, hz2⟩ := info_parts int_info
  have := run_make (P := Tryd.prog) w 30 3 i0 _ Tryd.underlying30 hi0 hz0 .i64 .i64 (n : Int) (n : Int) (by omega) (Int.le_refl _) (by rw [hz2]; omega) (by omega)
  rw [this, hz1, Int.toNat_natCast, made_one _ rfl]
theorem mapT_info : (Tryd.prog.info? 94).map (fun i => (i.zero, i.size, i.bytes)) = some (some (.map none), 1, 8) := by kernel_rfl
theorem make_maps (n : Nat) (hn : n ≤ 1000000) (w : World) : (Instr.makeSlice 73 (.int .i64 (n : Int)) (.int .i64 (n : Int))).run Tryd.prog w =
    .ok (.slice (some ⟨w.heap.size, 0, none⟩) n n) (w.alloc (.cells (fnC n (fun _ => .map none)) 94)) := by
  obtain ⟨i0, hi0, hz0, hz1, hz2⟩ := info_parts mapT_info
  have := run_make (P := Tryd.prog) w 73 94 i0 _ Tryd.underlying73 hi0 hz0 .i64 .i64 (n : Int) (n : Int) (by omega) (Int.le_refl _) (by rw [hz2]; omega) (by omega)
  rw [this, hz1, Int.toNat_natCast, made_one _ rfl]
/-! ### The matcher made -/
def IntsQ (w : World) (n : Nat) (z : Value) (u : World) : Prop := ∃ b, z = .slice (some ⟨b, 0, none⟩) n n ∧ RowA u b 3 (fnC n (fun _ => .int .i64 0)) ∧ w.heap.size ≤ b
def MapsQ (w : World) (n : Nat) (z : Value) (u : World) : Prop := ∃ b, z = .slice (some ⟨b, 0, none⟩) n n ∧ RowA u b 94 (fnC n (fun _ => .map none)) ∧ w.heap.size ≤ b
def CelQ (w : World) (n : Nat) (tv : Value) (s : ByteArray) (z : Value) (u : World) : Prop := ∃ z9 z12, z = .agg #[tv, .string s, z9, z12] ∧ IntsQ w n z9 u ∧ MapsQ w n z12 u
def MatQ (w : World) (n : Nat) (tv : Value) (s : ByteArray) (z : Value) (u : World) : Prop := ∃ mq z9 z12, z = .pointer (some ⟨mq, 0, none⟩) ∧ w.heap.size ≤ mq ∧ RowA u mq 75 #[tv, .string s, z9, z12] ∧ IntsQ w n z9 u ∧ MapsQ w n z12 u
section
variable {w u u' : World} {n : Nat} {tv : Value} {s : ByteArray} {z : Value}
theorem IntsQ.below (h : IntsQ w n z u) (hb : Below u.heap.size u u') : IntsQ w n z u' := by
  obtain ⟨b, h1, h2, h3⟩ := h
  exact ⟨b, h1, h2.below hb h2.lt, h3⟩
theorem MapsQ.below (h : MapsQ w n z u) (hb : Below u.heap.size u u') : MapsQ w n z u' := by
  obtain ⟨b, h1, h2, h3⟩ := h
  exact ⟨b, h1, h2.below hb h2.lt, h3⟩
theorem CelQ.below (h : CelQ w n tv s z u) (hb : Below u.heap.size u u') : CelQ w n tv s z u' := by
  obtain ⟨a, b, h1, h2, h3⟩ := h
  exact ⟨a, b, h1, h2.below hb, h3.below hb⟩
theorem MatQ.below (h : MatQ w n tv s z u) (hb : Below u.heap.size u u') : MatQ w n tv s z u' := by
  obtain ⟨mq, a, b, h1, h0, h2, h3, h4⟩ := h
  exact ⟨mq, a, b, h1, h0, h2.below hb h2.lt, h3.below hb, h4.below hb⟩
end
set_option linter.unusedVariables false in
def NmGV (w : World) (A : Option Addr) (n c : Nat) (s : ByteArray) (t : Nat) : Option Value :=
  match t with
  | 0 => some (.slice A n c)
  | 1 => some (.string s)
  | 5 => some (.slice A n c)
  | 6 => some (.string s)
  | 7 => some (.slice A n c)
  | 8 => some (.int .i64 (n : Int))
  | 10 => some (.slice A n c)
  | 11 => some (.int .i64 (n : Int))
  | _ => none
set_option linter.unusedVariables false in
def NmGP (w : World) (A : Option Addr) (n c : Nat) (s : ByteArray) (t : Nat) : Option (Value → World → Prop) :=
  match t with
  | 4 => some (MatQ w n (.slice A n c) s)
  | 9 => some (IntsQ w n)
  | 12 => some (MapsQ w n)
  | 13 => some (CelQ w n (.slice A n c) s)
  | 14 => some (MatQ w n (.slice A n c) s)
  | _ => none
def NmG (w : World) (A : Option Addr) (n c : Nat) (s : ByteArray) (t : Nat) (v : Value) (u : World) : Prop := (∀ z9, NmGV w A n c s t = some z9 → v = z9) ∧ ∀ R, NmGP w A n c s t = some R → R v u
set_option maxHeartbeats 1000000 in
theorem new_any (A : Option Addr) (n c : Nat) (hn : n ≤ 1000000) (s : ByteArray) (hs : s.size ≤ maxLen) (w : World) :
    Calls Tryd.prog 30 #[.slice A n c, .string s] w fun e w' => Below w.heap.size w w' ∧ ∃ z, e = .returned z ∧ MatQ w n (.slice A n c) s z w' := by
  unfold maxLen at hs
  go_enter Tryd.func30, Tryd.ntmps30
  go_upto_region 1 with fail
  refine wp_region_slotsH 11 (by decide) (by kernel_rfl) (by kernel_rfl) (fun _ _ => true) (Below w.heap.size w) (NmG w A n c s) EbL (by kernel_rfl) (by kernel_rfl) (by kernel_rfl) (by kernel_rfl) ?_ (bel_drew (Below.refl _ _)) [0, 1] (by kernel_rfl) ?_ ?_ ?_
  · intro t dd v u u' _ _ h hE
    refine ⟨h.1, fun R hR => ?_⟩
    have h2 := h.2 R hR
    unfold NmGP at hR
    split at hR
    · cases hR; exact h2.below hE
    · cases hR; exact h2.below hE
    · cases hR; exact h2.below hE
    · cases hR; exact h2.below hE
    · cases hR; exact h2.below hE
    · cases hR
  · intro u _
    refine ⟨⟨_, rfl, ?_⟩, ⟨_, rfl, ?_⟩, trivial⟩ <;> exact ⟨fun _ h => Option.some.inj h, fun _ h => no_some h⟩
  · refine ⟨?_, ?_, ?_, ?_, ?_, ?_, ?_, ?_, ?_, ?_, ?_, trivial⟩
    · intro a u hS hr K hK
      obtain ⟨⟨vl0, e0, g0⟩, -⟩ := hr
      obtain rfl := g0.1 _ rfl
      clear g0
      rw [if_pos (want_none rfl)]
      unfold Oper.wp
      go_simp
      exact hK _ _ ⟨fun _ h => Option.some.inj h, fun _ h => no_some h⟩ hS (eby rfl (Below.refl _ _))
    · intro a u hS hr K hK
      obtain ⟨⟨vl0, e0, g0⟩, -⟩ := hr
      obtain rfl := g0.1 _ rfl
      clear g0
      rw [if_pos (want_none rfl)]
      unfold Oper.wp
      go_simp
      exact hK _ _ ⟨fun _ h => Option.some.inj h, fun _ h => no_some h⟩ hS (eby rfl (Below.refl _ _))
    · intro a u hS hr K hK
      obtain ⟨⟨vl0, e0, g0⟩, -⟩ := hr
      obtain rfl := g0.1 _ rfl
      clear g0
      rw [if_pos (want_none rfl)]
      unfold Oper.wp
      go_simp
      exact hK _ _ ⟨fun _ h => Option.some.inj h, fun _ h => no_some h⟩ hS (eby rfl (Below.refl _ _))
    · intro a u hS hr K hK
      obtain ⟨⟨vl0, e0, g0⟩, -⟩ := hr
      obtain rfl := g0.1 _ rfl
      clear g0
      rw [if_pos (want_none rfl)]
      unfold Oper.wp
      go_simp
      exact hK _ _ ⟨fun _ h => Option.some.inj h, fun _ h => no_some h⟩ hS (eby rfl (Below.refl _ _))
    · intro a u hS hr K hK
      obtain ⟨⟨vl0, e0, g0⟩, ⟨vl1, e1, g1⟩, -⟩ := hr
      obtain rfl := g0.1 _ rfl
      clear g0
      obtain rfl := g1.1 _ rfl
      clear g1
      rw [if_pos (want_none rfl)]
      have hmk := make_intsL n hn u
      unfold Oper.wp
      go_simp
      exact hK _ _ ⟨fun _ h => no_some h, fun _ h => spec_ok h ⟨_, rfl, RowA.new _ _ _, hS.size⟩⟩ (hS.alloc hS.size _) (eby rfl ((Below.refl _ _).alloc (Nat.le_refl _) _))
    · intro a u hS hr K hK
      obtain ⟨⟨vl0, e0, g0⟩, -⟩ := hr
      obtain rfl := g0.1 _ rfl
      clear g0
      rw [if_pos (want_none rfl)]
      unfold Oper.wp
      go_simp
      exact hK _ _ ⟨fun _ h => Option.some.inj h, fun _ h => no_some h⟩ hS (eby rfl (Below.refl _ _))
    · intro a u hS hr K hK
      obtain ⟨⟨vl0, e0, g0⟩, -⟩ := hr
      obtain rfl := g0.1 _ rfl
      clear g0
      rw [if_pos (want_none rfl)]
      unfold Oper.wp
      go_simp
      exact hK _ _ ⟨fun _ h => Option.some.inj h, fun _ h => no_some h⟩ hS (eby rfl (Below.refl _ _))
    · intro a u hS hr K hK
      obtain ⟨⟨vl0, e0, g0⟩, ⟨vl1, e1, g1⟩, -⟩ := hr
      obtain rfl := g0.1 _ rfl
      clear g0
      obtain rfl := g1.1 _ rfl
      clear g1
      rw [if_pos (want_none rfl)]
      have hmk := make_maps n hn u
      unfold Oper.wp
      go_simp
      exact hK _ _ ⟨fun _ h => no_some h, fun _ h => spec_ok h ⟨_, rfl, RowA.new _ _ _, hS.size⟩⟩ (hS.alloc hS.size _) (eby rfl ((Below.refl _ _).alloc (Nat.le_refl _) _))
    · intro a u hS hr K hK
      obtain ⟨⟨vl0, e0, g0⟩, ⟨vl1, e1, g1⟩, ⟨vl2, e2, g2⟩, ⟨vl3, e3, g3⟩, -⟩ := hr
      obtain rfl := g0.1 _ rfl
      clear g0
      obtain rfl := g1.1 _ rfl
      clear g1
      replace g2 := g2.2 _ rfl
      replace g3 := g3.2 _ rfl
      rw [if_pos (want_none rfl)]
      have h9 := g2
      have h12 := g3
      obtain ⟨b9, rfl, -⟩ := h9
      obtain ⟨b12, rfl, -⟩ := h12
      unfold Oper.wp
      go_simp
      exact hK _ _ ⟨fun _ h => no_some h, fun _ h => spec_ok h ⟨_, _, rfl, g2, g3⟩⟩ hS (eby rfl (Below.refl _ _))
    · intro a u hS hr K hK
      obtain ⟨⟨vl0, e0, g0⟩, -⟩ := hr
      replace g0 := g0.2 _ rfl
      rw [if_pos (want_none rfl)]
      obtain ⟨z9, z12, rfl, h9, h12⟩ := g0
      unfold Oper.wp
      go_simp
      exact hK _ _ ⟨fun _ h => no_some h, fun _ h => spec_ok h ⟨_, _, _, rfl, hS.size, RowA.new _ _ _, h9.below ((Below.refl _ _).alloc (Nat.le_refl _) _), h12.below ((Below.refl _ _).alloc (Nat.le_refl _) _)⟩⟩ (hS.alloc hS.size _) (eby rfl ((Below.refl _ _).alloc (Nat.le_refl _) _))
    · intro a u hS hr K hK
      obtain ⟨⟨vl0, e0, g0⟩, -⟩ := hr
      replace g0 := g0.2 _ rfl
      rw [if_pos (want_none rfl)]
      unfold Oper.wp
      go_simp
      exact hK _ _ ⟨fun _ h => no_some h, fun _ h => spec_ok h g0⟩ hS (eby rfl (Below.refl _ _))
  intro a u2 hS2 hts hd hkn hf
  obtain ⟨v5, e5, g5⟩ := hf 0 _ 5 (by decide) rfl rfl (fun _ => rfl)
  obtain ⟨v6, e6, g6⟩ := hf 1 _ 6 (by decide) rfl rfl (fun _ => rfl)
  obtain ⟨v7, e7, g7⟩ := hf 2 _ 7 (by decide) rfl rfl (fun _ => rfl)
  obtain ⟨v8, e8, g8⟩ := hf 3 _ 8 (by decide) rfl rfl (fun _ => rfl)
  obtain ⟨v9, e9, g9⟩ := hf 4 _ 9 (by decide) rfl rfl (fun _ => rfl)
  obtain ⟨v10, e10, g10⟩ := hf 5 _ 10 (by decide) rfl rfl (fun _ => rfl)
  obtain ⟨v11, e11, g11⟩ := hf 6 _ 11 (by decide) rfl rfl (fun _ => rfl)
  obtain ⟨v12, e12, g12⟩ := hf 7 _ 12 (by decide) rfl rfl (fun _ => rfl)
  obtain ⟨v13, e13, g13⟩ := hf 8 _ 13 (by decide) rfl rfl (fun _ => rfl)
  obtain ⟨v14, e14, g14⟩ := hf 9 _ 14 (by decide) rfl rfl (fun _ => rfl)
  obtain ⟨v4, e4, g4⟩ := hf 10 _ 4 (by decide) rfl rfl (fun _ => rfl)
  have hA := act_putsH [(5, v5), (6, v6), (7, v7), (8, v8), (9, v9), (10, v10), (11, v11), (12, v12), (13, v13), (14, v14), (4, v4)] hts hd hkn (by kernel_rfl) (by simp [e5, e6, e7, e8, e9, e10, e11, e12, e13, e14, e4])
  clear hf hts hd hkn e5 e6 e7 e8 e9 e10 e11 e12 e13 e14 e4
  obtain rfl := g5.1 _ rfl
  clear g5
  obtain rfl := g6.1 _ rfl
  clear g6
  obtain rfl := g7.1 _ rfl
  clear g7
  obtain rfl := g8.1 _ rfl
  clear g8
  replace g9 := g9.2 _ rfl
  obtain rfl := g10.1 _ rfl
  clear g10
  obtain rfl := g11.1 _ rfl
  clear g11
  replace g12 := g12.2 _ rfl
  replace g13 := g13.2 _ rfl
  replace g14 := g14.2 _ rfl
  replace g4 := g4.2 _ rfl
  subst hA
  simp only [List.foldl, List.setIfInBounds_toArray, List.set_cons_zero, List.set_cons_succ]
  simp only [List.drop_succ_cons, List.drop_zero]
  have HG := hidd g4
  have HB := hidd hS2
  clear g4 g14 g13 g12 g9 hS2
  go_wp2
  go_ret
  exact ⟨HB.out, _, rfl, HG.out⟩
/-! ### No name -/
set_option maxHeartbeats 400000 in
theorem nl1_any (g : Gd) (kA : Option Addr) (mm kc : Nat) (w : World) : Calls Tryd.prog 45 #[.agg #[.int .u8 g.op, .int .u64 (W g.s 0), .int .u64 (W g.s 1), .int .u64 (W g.s 2), .int .u64 (W g.s 3), .slice kA mm kc, .int .i64 g.lo, .int .i64 g.hi, .string g.nm]] w fun e w' => e = .returned (.bool (g.op == 6)) ∧ Below w.heap.size w w' := by
  have R := RowA.new w 43 #[.int .u8 g.op, .int .u64 (W g.s 0), .int .u64 (W g.s 1), .int .u64 (W g.s 2), .int .u64 (W g.s 3), .slice kA mm kc, .int .i64 g.lo, .int .i64 g.hi, .string g.nm]
  have d0 : (w.alloc (.cells #[.int .u8 g.op, .int .u64 (W g.s 0), .int .u64 (W g.s 1), .int .u64 (W g.s 2), .int .u64 (W g.s 3), .slice kA mm kc, .int .i64 g.lo, .int .i64 g.hi, .string g.nm] 43)).cell? ⟨w.heap.size, 0, none⟩ = some (.int .u8 g.op) := R.at_ rfl
  clear R
  go_enter Tryd.func45, Tryd.ntmps45
  go_wp2
  go_ret
  exact ⟨rfl, (Below.refl _ _).alloc (Nat.le_refl _) _⟩
def hasRef (gs : List Gd) : Prop := ∃ g ∈ gs, g.op = 6
set_option maxHeartbeats 1000000 in
theorem idxN_any (A : Option Addr) (c : Nat) (gs : List Gd) (w : World) (hx : Nds w w.heap.size A gs) (hl : gs.length ≤ 2000) :
    Calls Tryd.prog 63 #[.slice A gs.length c, .func (.func 45) #[] #[]] w fun e w' => Below w.heap.size w w' ∧ ∃ r : Int, e = .returned (.int .i64 r) ∧ (0 ≤ r ↔ hasRef gs) := by
  generalize hn : gs.length = n at *
  have HN0 := hidd hn
  clear hn
  go_enter Tryd.func63, Tryd.ntmps63
  go_wp2
  go_loopw [8] (fun s8 wr => ∃ k : Nat, k ≤ n ∧ s8 = .int .i64 (k : Int) ∧ (∀ i, i < k → (gs.getD i gd0).op ≠ 6) ∧ Below w.heap.size w wr) (fun s8 _ => n - (intOf s8).toNat)
  case atStart => exact ⟨0, Nat.zero_le _, rfl, fun i hi => absurd hi (Nat.not_lt_zero _), Below.refl _ _⟩
  case round =>
    obtain ⟨k, hk0, rfl, hp, hb⟩ := hrel
    have HP := hidd hp
    have HB := hidd hb
    clear hp hb
    by_cases hlt : k < n
    · have hk2 : k < gs.length := by rw [HN0.out]; exact hlt
      obtain ⟨b1, o1, rfl, hb1, A3, c3, -, r1⟩ := (hx.below HB.out).at_ (k := k) hk2
      have hki : (k : Int) < (n : Int) := by omega
      have hgm : gs.getD k gd0 ∈ gs := by
        rw [List.getD_eq_getElem?_getD, List.getElem?_eq_getElem hk2]
        exact List.getElem_mem hk2
      have HNP : Hid ((gs.getD k gd0).op = 6 → hasRef gs) := fun q => ⟨_, hgm, q⟩
      have HPK : Hid ((gs.getD k gd0).op ≠ 6 → ∀ i, i < k + 1 → (gs.getD i gd0).op ≠ 6) := fun q i hi => by
        by_cases e : i = k
        · subst e; exact q
        · exact HP.out i (by omega)
      clear hgm
      generalize gs.getD k gd0 = g at *
      have hcl := nl1_any g A3 g.l.length c3 wr
      go_wp2_with (refine wpList_load_mid rfl 43 (.tmp 14) rfl b1 (o1 + k * 9) rfl (gdL g A3 c3) _ r1 Tryd.underlying43 rfl (gdL_info g A3 c3) ?_)
      refine hcl.mono ?_
      rintro e w2 ⟨rfl, b2⟩
      have HB2 := hidd (HB.out.trans (b2.mono HB.out.size))
      clear hcl r1 b2
      by_cases h6 : g.op = 6
      · have h6b : (g.op == 6) = true := by simp [h6]
        have HN := hidd (HNP.out h6)
        clear h6 HNP HPK
        rw [h6b]
        go_wp2
        go_ret
        exact ⟨HB2.out, _, rfl, fun _ => HN.out, fun _ => by omega⟩
      · have h6b : (g.op == 6) = false := by simp [h6]
        have HN := hidd (HPK.out h6)
        clear h6 HNP HPK
        rw [h6b]
        go_wp2
        exact ⟨⟨k + 1, by omega, rfl, HN.out, HB2.out⟩, by simp [intOf]; omega⟩
    · have hke : k = n := by omega
      have HN : Hid (¬ hasRef gs) := fun ⟨g, h1, h2⟩ => by
        obtain ⟨i, hi, rfl⟩ := List.getElem_of_mem h1
        have := HP.out i (by have := HN0.out; omega)
        rw [List.getD_eq_getElem?_getD, List.getElem?_eq_getElem hi] at this
        exact this h2
      subst hke
      go_wp2
      go_ret
      exact ⟨HB.out, _, rfl, (fun h => by omega), fun h => absurd h HN.out⟩
end Go.Proofs.YtcgondjekpcpgaaDoor.Sy.Lg.En
