/- Places: without. -/
import Derived.Test.YtcgondjekpcpgaaDoorPCk
namespace Go.Proofs.YtcgondjekpcpgaaDoor.Sy.Lg
open Go.RowKit Go.Proofs.YtcgondjekpcpgaaDoor.Sy.Ap Go.Proofs.YtcgondjekpcpgaaDoor.Sy.Ap.Wk
set_option maxRecDepth 100000
set_option linter.unusedVariables false
/-- Places lie in no block whose first cell is something else. -/
theorem Pl.off {w : World} {v : Value} {p : Nat → Bool} {q : Nat} {t : TypeId} {cs : Array Value} (h : Pl w v p) (r : RowA w q t cs) {z : Value} (hz : cs[0]? = some z) (hne : ∀ x, z ≠ .int .u64 x) {b : Nat} (hb : plB v = some b) : b ≠ q := by
  intro e
  subst e
  rcases h.2 with ⟨rfl, _⟩ | ⟨b', c, i, rfl, _, _, hc, _⟩
  · cases hb
  · have hb : some b' = some b := hb
    cases hb
    have h2 := r.at_ hz
    rw [hc] at h2
    injection h2 with h2
    exact hne _ h2.symm
end Go.Proofs.YtcgondjekpcpgaaDoor.Sy.Lg
namespace Go.Proofs.YtcgondjekpcpgaaDoor.Sy.Lg.Wo
open Go.RowKit Go.Proofs.YtcgondjekpcpgaaDoor.Sy.Ap Go.Proofs.YtcgondjekpcpgaaDoor.Sy.Ap.Wk Go.Proofs.YtcgondjekpcpgaaDoor.Sy.Lg.Pt Go.Proofs.YtcgondjekpcpgaaDoor.Sy.Lg.Cp Go.Proofs.YtcgondjekpcpgaaDoor.Sy.Lg.Jo
set_option maxRecDepth 100000
set_option linter.unusedVariables false

structure WoS (w : World) (q g c : Nat) (x : Int) (tq : Nat) (tv : Value) (g2 : Nat) (y : Int) (u : World) : Prop where
  js : JoS w q g c x tq tv u
  w2 : u.cell? ⟨g2, 0, none⟩ = some (.int .u64 y)
  l2 : g2 < u.heap.size
theorem WoS.below {w : World} {q g c : Nat} {x : Int} {tq : Nat} {tv : Value} {g2 : Nat} {y : Int} {u u' : World} (h : WoS w q g c x tq tv g2 y u) (hb : Below u.heap.size u u') : WoS w q g c x tq tv g2 y u' := ⟨h.js.below hb, by rw [hb.cell (by exact h.l2)]; exact h.w2, Nat.lt_of_lt_of_le h.l2 hb.size⟩
theorem eby {d : Option Nat} {u u' : World} (_ : true = true) (h : Below u.heap.size u u') : EbL d u u' := h
set_option linter.unusedVariables false in
def WoGV (q g c tq g2 c2 : Nat) (x y z : Int) (t : Nat) : Option Value :=
  match t with
  | 3 => some (.pointer (some ⟨tq, 0, none⟩))
  | 5 => some (.pointer (some ⟨q, 0, none⟩))
  | 6 => some (.int .i64 0)
  | 7 => some (.int .i64 0)
  | 32 => some (.pointer (some ⟨q, 1, none⟩))
  | 33 => some (.slice (some ⟨g, 0, none⟩) 1 c)
  | 34 => some (.int .i64 0)
  | 35 => some (.pointer (some ⟨g, 0, none⟩))
  | 36 => some (.int .u64 x)
  | 37 => some (.pointer (some ⟨tq, 1, none⟩))
  | 38 => some (.slice (some ⟨g2, 0, none⟩) 1 c2)
  | 39 => some (.int .i64 0)
  | 40 => some (.pointer (some ⟨g2, 0, none⟩))
  | 41 => some (.int .u64 y)
  | 42 => some (.int .u64 z)
  | 43 => some (.pointer (some ⟨g, 0, none⟩))
  | _ => none
set_option linter.unusedVariables false in
def WoGP (q g c tq g2 c2 : Nat) (x y z : Int) (t : Nat) : Option (Value → World → Prop) :=
  match t with
  | _ => none
def WoG (q g c tq g2 c2 : Nat) (x y z : Int) (t : Nat) (v : Value) (u : World) : Prop := (∀ z9, WoGV q g c tq g2 c2 x y z t = some z9 → v = z9) ∧ ∀ R, WoGP q g c tq g2 c2 x y z t = some R → R v u
structure WoF (u : World) (q n2 : Nat) (sv : Value) (pp : Nat → Bool) (wr : World) : Prop where
  box : RowA wr q 58 #[.int .i64 0, sv]
  res : RowA wr n2 58 #[.int .i64 0, .slice none 0 0]
  bel : Below u.heap.size u wr
  pz : Pz wr (.agg #[.int .i64 0, sv]) pp
  nw : ∀ b, plB (.agg #[.int .i64 0, sv]) = some b → u.heap.size ≤ b
  n2 : u.heap.size ≤ n2
theorem WoF.fin {u : World} {q n2 : Nat} {sv : Value} {pp : Nat → Bool} {wr : World} (h : WoF u q n2 sv pp wr) {v' : Value} {w' : World} (hb : Below wr.heap.size wr w') (hp : Pl w' v' pp) (hv : v' = .agg #[.int .i64 0, sv] ∨ plB v' = none) (cs : Array Value) : NewP u pp (.returned v') (w'.setRow n2 cs) := by
  refine ⟨bel_setRow (h.bel.trans (hb.mono h.bel.size)) _ _ h.n2, v', rfl, ?_, fun b hb2 => ?_⟩
  · exact hp.keep (by simp [World.setRow]) fun b hb2 => setRow_other w' n2 b _ (hp.off (h.res.below hb h.res.lt) rfl (fun x q => by cases q) hb2)
  · rcases hv with e | e
    · subst e; exact h.nw b hb2
    · rw [e] at hb2; cases hb2
set_option maxHeartbeats 2000000 in
theorem without_any (v v' : Value) (p r : Nat → Bool) (u : World) (h : Pl u v p) (ht : Pl u v' r) : Calls Tryd.prog 75 #[v, v'] u fun e u' => NewP u (subB p r) e u' := by
  obtain ⟨As, ns, cs, rfl⟩ := pl_form h
  obtain ⟨At, nt, ct, rfl⟩ := pl_form ht
  have R1 := RowA.new u 58 #[.int .i64 0, .slice As ns cs]
  have s1 : (u.alloc (.cells #[.int .i64 0, .slice As ns cs] 58)).heap.size = u.heap.size + 1 := World.size_alloc ..
  have B1 : Below u.heap.size u (u.alloc (.cells #[.int .i64 0, .slice As ns cs] 58)) := (Below.refl _ _).alloc (Nat.le_refl _) _
  go_enter Tryd.func75, Tryd.ntmps75
  go_upto_region 1 with fail
  generalize u.alloc (.cells #[.int .i64 0, .slice As ns cs] 58) = u1 at *
  have R2 := RowA.new u1 58 #[.int .i64 0, .slice At nt ct]
  have s2 : (u1.alloc (.cells #[.int .i64 0, .slice At nt ct] 58)).heap.size = u1.heap.size + 1 := World.size_alloc ..
  have B2 : Below u.heap.size u (u1.alloc (.cells #[.int .i64 0, .slice At nt ct] 58)) := B1.alloc (by omega) _
  replace R1 := R1.alloc (.cells #[.int .i64 0, .slice At nt ct] 58)
  generalize u1.alloc (.cells #[.int .i64 0, .slice At nt ct] 58) = u2 at *
  have R3 := RowA.new u2 58 #[.int .i64 0, .slice none 0 0]
  have s3 : (u2.alloc (.cells #[.int .i64 0, .slice none 0 0] 58)).heap.size = u2.heap.size + 1 := World.size_alloc ..
  have B3 : Below u.heap.size u (u2.alloc (.cells #[.int .i64 0, .slice none 0 0] 58)) := B2.alloc (by omega) _
  replace R1 := R1.alloc (.cells #[.int .i64 0, .slice none 0 0] 58)
  replace R2 := R2.alloc (.cells #[.int .i64 0, .slice none 0 0] 58)
  generalize u2.alloc (.cells #[.int .i64 0, .slice none 0 0] 58) = u3 at *
  have hcp := copied_any _ p u3 (h.below B3)
  have rr1 := pl_range R1
  go_wp2_with (refine wpList_load_mid rfl 58 (.tmp 2) rfl u.heap.size 0 rfl [.int .i64 0, .slice As ns cs] _ rr1 Tryd.underlying58 rfl (pl_info _ _) ?_)
  refine hcp.mono ?_
  rintro e u4 ⟨b4, sv, rfl, hcl⟩
  have hone : sv.oneCell' = true := by
    obtain ⟨A, n, c, e⟩ := hcl.form
    rw [e]; rfl
  have B4 : Below u.heap.size u u4 := B3.trans (b4.mono B3.size)
  replace R1 := R1.below b4 R1.lt
  replace R2 := R2.below b4 R2.lt
  replace R3 := R3.below b4 R3.lt
  have R5 := RowA.new u4 58 #[.int .i64 0, .slice none 0 0]
  have e1 : u1.heap.size = u.heap.size + 1 := s1
  have e2 : u2.heap.size = u.heap.size + 1 + 1 := by rw [s2, s1]
  have hlt4 : u.heap.size + 3 ≤ u4.heap.size := by have := b4.size; omega
  have hcl4 := hcl.less (w := u) B3.size
  clear hcp rr1 b4 B3 hcl
  rw [e1] at R2
  rw [e2] at R3
  go_upto_region 2 with (refine wpList_store_row rfl 58 (.tmp 5) (.tmp 9) rfl u4.heap.size #[.int .i64 0, sv] rfl rfl 58 #[.int .i64 0, .slice none 0 0] R5 (pl_info _ _) rfl (ones2 rfl hone) ?_)
  rw [put_none]
  have Q5 := R5.row #[.int .i64 0, sv]
  have B5 : Below u.heap.size u ((u4.alloc (.cells #[.int .i64 0, .slice none 0 0] 58)).setRow u4.heap.size #[.int .i64 0, sv]) := bel_setRow (B4.alloc (by omega) _) _ _ (by omega)
  have b45 : Below u4.heap.size u4 ((u4.alloc (.cells #[.int .i64 0, .slice none 0 0] 58)).setRow u4.heap.size #[.int .i64 0, sv]) := bel_setRow ((Below.refl _ _).alloc (Nat.le_refl _) _) _ _ (Nat.le_refl _)
  replace R2 := R2.below b45 R2.lt
  replace R3 := R3.below b45 R3.lt
  replace R1 := R1.below b45 R1.lt
  have hcl5 := hcl4.below b45
  generalize (u4.alloc (.cells #[.int .i64 0, .slice none 0 0] 58)).setRow u4.heap.size #[.int .i64 0, sv] = u5 at *
  clear R5 b45 hcl4 B4
  obtain ⟨q5, hq5⟩ : ∃ q5, u4.heap.size = q5 := ⟨_, rfl⟩
  rw [hq5] at Q5 hlt4
  rw [hq5]
  clear hq5 e1 e2 s1 s2 s3 B1 B2
  have ht5 := ht.below B5
  have x1 : u5.cell? ⟨q5, 1, none⟩ = some sv := Q5.at_ rfl
  have y0 : u5.cell? ⟨u.heap.size, 0, none⟩ = some (.int .i64 0) := R1.at_ rfl
  have z0 : u5.cell? ⟨u.heap.size + 1, 0, none⟩ = some (.int .i64 0) := R2.at_ rfl
  have z1 : u5.cell? ⟨u.heap.size + 1, 1, none⟩ = some (.slice At nt ct) := R2.at_ rfl
  have HH := hidd h
  clear h ht
  rcases hcl5 with ⟨rfl, hno⟩ | ⟨⟨i1, hi1⟩, hown⟩
  · have hF : Hid (WoF u q5 (u.heap.size + 1 + 1) (.slice none 0 0) (subB p r) u5) := ⟨Q5, R3, B5, ⟨(fun i hi => by unfold subB at hi; rw [hno i] at hi; cases hi), .inl ⟨rfl, fun i => by unfold subB; rw [hno i]; rfl⟩⟩, (fun b hb => by cases hb), by omega⟩
    clear Q5 R1 R2 R3 ht5 B5 hno
    go_wp2
    go_loopw [13] (fun s13 wr => s13 = .int .i64 0 ∧ wr = u5) (fun _ _ => 0)
    case atStart => exact ⟨rfl, rfl⟩
    case round =>
      obtain ⟨rfl, rfl⟩ := hrel
      have RR := hF.out.res
      have rr := pl_range hF.out.box
      have htr := trimmed_any _ _ wr hF.out.pz
      go_wp2_with (refine wpList_load_mid rfl 58 (.tmp 5) rfl q5 0 rfl [.int .i64 0, _] _ rr Tryd.underlying58 rfl (pl_info _ _) ?_)
      refine htr.mono ?_
      rintro e w9 ⟨b9, v9, rfl, hp9, hv9⟩
      obtain ⟨A9, n9, c9, rfl⟩ := pl_form hp9
      have R9 := RR.below b9 RR.lt
      have HFIN := hidd (hF.out.fin b9 hp9 hv9 #[.int .i64 0, .slice A9 n9 c9])
      have HRF := hidd (R9.row #[.int .i64 0, .slice A9 n9 c9])
      clear htr rr RR hp9 hv9 b9
      go_wp2_with (refine wpList_store_row rfl 58 (.tmp 4) (.tmp 46) rfl (u.heap.size + 1 + 1) #[.int .i64 0, .slice A9 n9 c9] rfl rfl 58 #[.int .i64 0, .slice none 0 0] R9 (pl_info _ _) rfl (ones2 rfl rfl) ?_)
      exact ret_places Tryd.results75 rfl HRF.out rfl HFIN.out
  · obtain ⟨g, c, rfl, hg1, hg3⟩ := own_pos hown (by omega)
    have hcw : u5.cell? ⟨g, 0, none⟩ = some (.int .u64 (W p 0)) := by
      have := hown.cells (g := g) rfl 0 _ rfl
      rw [addr_addO] at this
      exact this
    have hcc := own_cap hown
    rcases ht5.2 with ⟨e1, hnone⟩ | ⟨g2, c2, i2, e1, hc2, hg2, hcell, hi2⟩
    · have e2 := agg2_inj e1
      injection e2 with e2 e3 e4
      subst e2 e3 e4
      have hsub : subB p r = p := by funext x; unfold subB; rw [hnone x]; simp
      have hF : Hid (WoF u q5 (u.heap.size + 1 + 1) (.slice (some ⟨g, 0, none⟩) 1 c) (subB p r) u5) := ⟨Q5, R3, B5, by rw [hsub]; exact ⟨HH.out.1, .inr ⟨g, c, rfl, hcc, hg3, hcw⟩⟩, (fun b hb => by cases hb; exact hg1), by omega⟩
      clear Q5 R1 R2 R3 ht5 B5 hsub hown
      go_wp2
      go_loopw [13] (fun s13 wr => (s13 = .int .i64 0 ∨ s13 = .int .i64 1) ∧ wr = u5) (fun s13 _ => 1 - (intOf s13).toNat)
      case atStart => exact ⟨.inl rfl, rfl⟩
      case round =>
        obtain ⟨rfl | rfl, rfl⟩ := hrel
        · go_wp2
          exact ⟨⟨.inr rfl, trivial⟩, by simp [intOf]⟩
        · skip
          have RR := hF.out.res
          have rr := pl_range hF.out.box
          have htr := trimmed_any _ _ wr hF.out.pz
          go_wp2_with (refine wpList_load_mid rfl 58 (.tmp 5) rfl q5 0 rfl [.int .i64 0, _] _ rr Tryd.underlying58 rfl (pl_info _ _) ?_)
          refine htr.mono ?_
          rintro e w9 ⟨b9, v9, rfl, hp9, hv9⟩
          obtain ⟨A9, n9, c9, rfl⟩ := pl_form hp9
          have R9 := RR.below b9 RR.lt
          have HFIN := hidd (hF.out.fin b9 hp9 hv9 #[.int .i64 0, .slice A9 n9 c9])
          have HRF := hidd (R9.row #[.int .i64 0, .slice A9 n9 c9])
          clear htr rr RR hp9 hv9 b9
          go_wp2_with (refine wpList_store_row rfl 58 (.tmp 4) (.tmp 46) rfl (u.heap.size + 1 + 1) #[.int .i64 0, .slice A9 n9 c9] rfl rfl 58 #[.int .i64 0, .slice none 0 0] R9 (pl_info _ _) rfl (ones2 rfl rfl) ?_)
          exact ret_places Tryd.results75 rfl HRF.out rfl HFIN.out
    · have e2 := agg2_inj e1
      injection e2 with e2 e3 e4
      subst e2 e3 e4
      have S5 : WoS u5 q5 g c (W p 0) (u.heap.size + 1) (.slice (some ⟨g2, 0, none⟩) 1 ct) g2 (W r 0) u5 := ⟨⟨⟨Q5, hcw, hg3, Below.refl _ _⟩, R2⟩, hcell, hg2⟩
      have hW := W_sub p r
      have hqg : q5 ≠ g := fun e => own_neR hown Q5 (by decide) (by rw [e]; rfl)
      have HO := hidd hown
      have HB := hidd B5
      have HR3 := hidd R3
      have HSUB : Hid (∀ i, subB p r i = true → i < 64) := fun i hi => HH.out.1 i (by unfold subB at hi; simp at hi; exact hi.1)
      clear hown B5 R3 R1 ht5 Q5 R2
      go_wp2
      go_loopw [13] (fun s13 wr => (s13 = .int .i64 0 ∧ wr = u5) ∨ (s13 = .int .i64 1 ∧ WoF u q5 (u.heap.size + 1 + 1) (.slice (some ⟨g, 0, none⟩) 1 c) (subB p r) wr)) (fun s13 _ => 1 - (intOf s13).toNat)
      case atStart => exact .inl ⟨rfl, rfl⟩
      case round =>
        rcases hrel with ⟨rfl, rfl⟩ | ⟨rfl, hfin⟩
        · go_upto_region 7 with fail
          refine wp_region_slotsH 12 (by decide) (by kernel_rfl) (by kernel_rfl) (fun _ _ => true) (WoS wr q5 g c (W p 0) (u.heap.size + 1) (.slice (some ⟨g2, 0, none⟩) 1 ct) g2 (W r 0)) (WoG q5 g c (u.heap.size + 1) g2 ct (W p 0) (W r 0) (W (subB p r) 0)) EbL (by kernel_rfl) (by kernel_rfl) (by kernel_rfl) (by kernel_rfl) ?_ (S5.below (bel_drew (Below.refl _ _))) [3, 5, 6, 7] (by kernel_rfl) ?_ ?_ ?_
          · intro t dd v u u' _ _ h hE
            refine ⟨h.1, fun R hR => ?_⟩
            unfold WoGP at hR
            cases hR
          · intro u _
            refine ⟨⟨_, rfl, ?_⟩, ⟨_, rfl, ?_⟩, ⟨_, rfl, ?_⟩, ⟨_, rfl, ?_⟩, trivial⟩ <;> exact ⟨fun _ h => Option.some.inj h, fun _ h => no_some h⟩
          · refine ⟨?_, ?_, ?_, ?_, ?_, ?_, ?_, ?_, ?_, ?_, ?_, ?_, trivial⟩
            · intro a u hS hr K hK
              obtain ⟨⟨vl0, e0, g0⟩, -⟩ := hr
              obtain rfl := g0.1 _ rfl
              clear g0
              rw [if_pos (want_none rfl)]
              unfold Oper.wp
              go_simp
              exact hK _ _ ⟨fun _ h => Option.some.inj h, fun _ h => no_some h⟩ hS (eby rfl (Below.refl _ _))
            · intro a u hS hr K hK
              obtain ⟨⟨vl0, e0, g0⟩, -⟩ := hr
              obtain rfl := g0.1 _ rfl
              clear g0
              rw [if_pos (want_none rfl)]
              have d1 := hS.js.pu.box.at_ (k := 1) rfl
              unfold Oper.wp
              go_simp
              exact hK _ _ ⟨fun _ h => Option.some.inj h, fun _ h => no_some h⟩ hS (eby rfl (Below.refl _ _))
            · intro a u hS hr K hK
              obtain ⟨⟨vl0, e0, g0⟩, -⟩ := hr
              obtain rfl := g0.1 _ rfl
              clear g0
              rw [if_pos (want_none rfl)]
              unfold Oper.wp
              go_simp
              exact hK _ _ ⟨fun _ h => Option.some.inj h, fun _ h => no_some h⟩ hS (eby rfl (Below.refl _ _))
            · intro a u hS hr K hK
              obtain ⟨⟨vl0, e0, g0⟩, ⟨vl1, e1, g1⟩, -⟩ := hr
              obtain rfl := g0.1 _ rfl
              clear g0
              obtain rfl := g1.1 _ rfl
              clear g1
              rw [if_pos (want_none rfl)]
              unfold Oper.wp
              go_simp
              exact hK _ _ ⟨fun _ h => Option.some.inj h, fun _ h => no_some h⟩ hS (eby rfl (Below.refl _ _))
            · intro a u hS hr K hK
              obtain ⟨⟨vl0, e0, g0⟩, -⟩ := hr
              obtain rfl := g0.1 _ rfl
              clear g0
              rw [if_pos (want_none rfl)]
              have d2 := hS.js.pu.wd
              unfold Oper.wp
              go_simp
              exact hK _ _ ⟨fun _ h => Option.some.inj h, fun _ h => no_some h⟩ hS (eby rfl (Below.refl _ _))
            · intro a u hS hr K hK
              obtain ⟨⟨vl0, e0, g0⟩, -⟩ := hr
              obtain rfl := g0.1 _ rfl
              clear g0
              rw [if_pos (want_none rfl)]
              unfold Oper.wp
              go_simp
              exact hK _ _ ⟨fun _ h => Option.some.inj h, fun _ h => no_some h⟩ hS (eby rfl (Below.refl _ _))
            · intro a u hS hr K hK
              obtain ⟨⟨vl0, e0, g0⟩, -⟩ := hr
              obtain rfl := g0.1 _ rfl
              clear g0
              rw [if_pos (want_none rfl)]
              have d1 := hS.js.tb.at_ (k := 1) rfl
              unfold Oper.wp
              go_simp
              exact hK _ _ ⟨fun _ h => Option.some.inj h, fun _ h => no_some h⟩ hS (eby rfl (Below.refl _ _))
            · intro a u hS hr K hK
              obtain ⟨⟨vl0, e0, g0⟩, -⟩ := hr
              obtain rfl := g0.1 _ rfl
              clear g0
              rw [if_pos (want_none rfl)]
              unfold Oper.wp
              go_simp
              exact hK _ _ ⟨fun _ h => Option.some.inj h, fun _ h => no_some h⟩ hS (eby rfl (Below.refl _ _))
            · intro a u hS hr K hK
              obtain ⟨⟨vl0, e0, g0⟩, ⟨vl1, e1, g1⟩, -⟩ := hr
              obtain rfl := g0.1 _ rfl
              clear g0
              obtain rfl := g1.1 _ rfl
              clear g1
              rw [if_pos (want_none rfl)]
              unfold Oper.wp
              go_simp
              exact hK _ _ ⟨fun _ h => Option.some.inj h, fun _ h => no_some h⟩ hS (eby rfl (Below.refl _ _))
            · intro a u hS hr K hK
              obtain ⟨⟨vl0, e0, g0⟩, -⟩ := hr
              obtain rfl := g0.1 _ rfl
              clear g0
              rw [if_pos (want_none rfl)]
              have d2 := hS.w2
              unfold Oper.wp
              go_simp
              exact hK _ _ ⟨fun _ h => Option.some.inj h, fun _ h => no_some h⟩ hS (eby rfl (Below.refl _ _))
            · intro a u hS hr K hK
              obtain ⟨⟨vl0, e0, g0⟩, ⟨vl1, e1, g1⟩, -⟩ := hr
              obtain rfl := g0.1 _ rfl
              clear g0
              obtain rfl := g1.1 _ rfl
              clear g1
              rw [if_pos (want_none rfl)]
              unfold Oper.wp
              go_simp
              exact hK _ _ ⟨fun _ h => Option.some.inj h, fun _ h => no_some h⟩ hS (eby rfl (Below.refl _ _))
            · intro a u hS hr K hK
              obtain ⟨⟨vl0, e0, g0⟩, ⟨vl1, e1, g1⟩, -⟩ := hr
              obtain rfl := g0.1 _ rfl
              clear g0
              obtain rfl := g1.1 _ rfl
              clear g1
              rw [if_pos (want_none rfl)]
              unfold Oper.wp
              go_simp
              exact hK _ _ ⟨fun _ h => Option.some.inj h, fun _ h => no_some h⟩ hS (eby rfl (Below.refl _ _))
          intro a u6 hS6 hts hd hkn hf
          obtain ⟨v32, e32, g32⟩ := hf 0 _ 32 (by decide) rfl rfl (fun _ => rfl)
          obtain ⟨v33, e33, g33⟩ := hf 1 _ 33 (by decide) rfl rfl (fun _ => rfl)
          obtain ⟨v34, e34, g34⟩ := hf 2 _ 34 (by decide) rfl rfl (fun _ => rfl)
          obtain ⟨v35, e35, g35⟩ := hf 3 _ 35 (by decide) rfl rfl (fun _ => rfl)
          obtain ⟨v36, e36, g36⟩ := hf 4 _ 36 (by decide) rfl rfl (fun _ => rfl)
          obtain ⟨v37, e37, g37⟩ := hf 5 _ 37 (by decide) rfl rfl (fun _ => rfl)
          obtain ⟨v38, e38, g38⟩ := hf 6 _ 38 (by decide) rfl rfl (fun _ => rfl)
          obtain ⟨v39, e39, g39⟩ := hf 7 _ 39 (by decide) rfl rfl (fun _ => rfl)
          obtain ⟨v40, e40, g40⟩ := hf 8 _ 40 (by decide) rfl rfl (fun _ => rfl)
          obtain ⟨v41, e41, g41⟩ := hf 9 _ 41 (by decide) rfl rfl (fun _ => rfl)
          obtain ⟨v42, e42, g42⟩ := hf 10 _ 42 (by decide) rfl rfl (fun _ => rfl)
          obtain ⟨v43, e43, g43⟩ := hf 11 _ 43 (by decide) rfl rfl (fun _ => rfl)
          have hA := act_putsH [(32, v32), (33, v33), (34, v34), (35, v35), (36, v36), (37, v37), (38, v38), (39, v39), (40, v40), (41, v41), (42, v42), (43, v43)] hts hd hkn (by kernel_rfl) (by simp [e32, e33, e34, e35, e36, e37, e38, e39, e40, e41, e42, e43])
          clear hf hts hd hkn e32 e33 e34 e35 e36 e37 e38 e39 e40 e41 e42 e43
          obtain rfl := g32.1 _ rfl
          clear g32
          obtain rfl := g33.1 _ rfl
          clear g33
          obtain rfl := g34.1 _ rfl
          clear g34
          obtain rfl := g35.1 _ rfl
          clear g35
          obtain rfl := g36.1 _ rfl
          clear g36
          obtain rfl := g37.1 _ rfl
          clear g37
          obtain rfl := g38.1 _ rfl
          clear g38
          obtain rfl := g39.1 _ rfl
          clear g39
          obtain rfl := g40.1 _ rfl
          clear g40
          obtain rfl := g41.1 _ rfl
          clear g41
          obtain rfl := g42.1 _ rfl
          clear g42
          obtain rfl := g43.1 _ rfl
          clear g43
          subst hA
          simp only [List.foldl, List.setIfInBounds_toArray, List.set_cons_zero, List.set_cons_succ]
          simp only [List.drop_succ_cons, List.drop_zero]
          have O6 := own_below HO.out hS6.js.pu.bel (Nat.le_refl _)
          have w6 := hS6.js.pu.wd
          have tg : u6.frozen? ⟨g, 0, none⟩ = false := own_thawed O6 rfl
          have R6 := HR3.out.below hS6.js.pu.bel HR3.out.lt
          have hne3 : u.heap.size + 1 + 1 ≠ g := fun e => own_neR O6 R6 (by decide) (by rw [e]; rfl)
          have HFIN : Hid (WoF u q5 (u.heap.size + 1 + 1) (.slice (some ⟨g, 0, none⟩) 1 c) (subB p r) (u6.setCell ⟨g, 0, none⟩ (.int .u64 (W (subB p r) 0)))) := by
            have o7 := own_put1 O6 (.int .u64 (W (subB p r) 0))
            refine ⟨hS6.js.pu.box.far (a := ⟨g, 0, none⟩) hqg _, R6.far (a := ⟨g, 0, none⟩) hne3 _, bel_set (HB.out.trans (hS6.js.pu.bel.mono HB.out.size)) _ _ hg1, ⟨HSUB.out, .inr ⟨g, c, rfl, hcc, (o7.lt g rfl).2, ?_⟩⟩, (fun b hb => by cases hb; exact hg1), by omega⟩
            have := o7.cells (g := g) rfl 0 _ rfl
            rw [addr_addO] at this
            exact this
          clear O6 hS6 S5 R6
          go_wp2
          exact ⟨.inr ⟨rfl, HFIN.out⟩, by simp [intOf]⟩
        · have hF := hidd hfin
          clear hfin S5
          have RR := hF.out.res
          have rr := pl_range hF.out.box
          have htr := trimmed_any _ _ wr hF.out.pz
          go_wp2_with (refine wpList_load_mid rfl 58 (.tmp 5) rfl q5 0 rfl [.int .i64 0, _] _ rr Tryd.underlying58 rfl (pl_info _ _) ?_)
          refine htr.mono ?_
          rintro e w9 ⟨b9, v9, rfl, hp9, hv9⟩
          obtain ⟨A9, n9, c9, rfl⟩ := pl_form hp9
          have R9 := RR.below b9 RR.lt
          have HFIN := hidd (hF.out.fin b9 hp9 hv9 #[.int .i64 0, .slice A9 n9 c9])
          have HRF := hidd (R9.row #[.int .i64 0, .slice A9 n9 c9])
          clear htr rr RR hp9 hv9 b9
          go_wp2_with (refine wpList_store_row rfl 58 (.tmp 4) (.tmp 46) rfl (u.heap.size + 1 + 1) #[.int .i64 0, .slice A9 n9 c9] rfl rfl 58 #[.int .i64 0, .slice none 0 0] R9 (pl_info _ _) rfl (ones2 rfl rfl) ?_)
          exact ret_places Tryd.results75 rfl HRF.out rfl HFIN.out
end Go.Proofs.YtcgondjekpcpgaaDoor.Sy.Lg.Wo
