/- Places: join. -/
import Derived.Test.YtcgondjekpcpgaaDoorPCf
namespace Go.Proofs.YtcgondjekpcpgaaDoor.Sy.Lg.Jo
open Go.RowKit Go.Proofs.YtcgondjekpcpgaaDoor.Sy.Ap Go.Proofs.YtcgondjekpcpgaaDoor.Sy.Ap.Wk Go.Proofs.YtcgondjekpcpgaaDoor.Sy.Lg.Pt
set_option maxRecDepth 100000
set_option linter.unusedVariables false

structure JoS (w : World) (q g c : Nat) (x : Int) (tq : Nat) (tv : Value) (u : World) : Prop where
  pu : PuS w q g c x u
  tb : RowA u tq 58 #[.int .i64 0, tv]
theorem JoS.below {w : World} {q g c : Nat} {x : Int} {tq : Nat} {tv : Value} {u u' : World} (h : JoS w q g c x tq tv u) (hb : Below u.heap.size u u') : JoS w q g c x tq tv u' := ⟨h.pu.below hb, h.tb.below hb h.tb.lt⟩
theorem eby {d : Option Nat} {u u' : World} (_ : true = true) (h : Below u.heap.size u u') : EbL d u u' := h
set_option linter.unusedVariables false in
def JoGV (q g c tq : Nat) (x y z : Int) (t : Nat) : Option Value :=
  match t with
  | 0 => some (.pointer (some ⟨q, 0, none⟩))
  | 3 => some (.pointer (some ⟨tq, 0, none⟩))
  | 4 => some (.int .i64 0)
  | 5 => some (.int .u64 y)
  | 26 => some (.pointer (some ⟨q, 0, none⟩))
  | 27 => some (.pointer (some ⟨q, 0, none⟩))
  | 28 => some (.pointer (some ⟨q, 1, none⟩))
  | 29 => some (.slice (some ⟨g, 0, none⟩) 1 c)
  | 30 => some (.pointer (some ⟨tq, 0, none⟩))
  | 31 => some (.int .i64 0)
  | 32 => some (.int .i64 0)
  | 33 => some (.int .i64 0)
  | 34 => some (.pointer (some ⟨q, 0, none⟩))
  | 35 => some (.pointer (some ⟨q, 0, none⟩))
  | 36 => some (.pointer (some ⟨q, 0, none⟩))
  | 37 => some (.int .i64 0)
  | 38 => some (.int .i64 0)
  | 39 => some (.pointer (some ⟨g, 0, none⟩))
  | 40 => some (.int .u64 x)
  | 41 => some (.int .u64 y)
  | 42 => some (.int .u64 z)
  | 43 => some (.pointer (some ⟨g, 0, none⟩))
  | _ => none
set_option linter.unusedVariables false in
def JoGP (q g c tq : Nat) (x y z : Int) (t : Nat) : Option (Value → World → Prop) :=
  match t with
  | _ => none
def JoG (q g c tq : Nat) (x y z : Int) (t : Nat) (v : Value) (u : World) : Prop := (∀ z9, JoGV q g c tq x y z t = some z9 → v = z9) ∧ ∀ R, JoGP q g c tq x y z t = some R → R v u
theorem or_none {p r : Nat → Bool} (h : noneB r) : orB p r = p := by
  funext x
  unfold orB
  rw [h x, Bool.or_false]
set_option maxHeartbeats 2000000 in
theorem join_any (base : Nat) (u : World) (q : Nat) (sv : Value) (p r : Nat → Bool) (tv : Value) (h : PB base u q sv p) (hbs : base ≤ u.heap.size) (ht : Pl u tv r) (hne : ∀ b, plB tv = some b → b ≠ q ∧ sv.ownBlock ≠ some b) :
    Calls Tryd.prog 48 #[.pointer (some ⟨q, 0, none⟩), tv] u fun e u' => PutR base u q sv (orB p r) e u' := by
  obtain ⟨ts, hts⟩ : ∃ ts, tv = .agg #[.int .i64 0, ts] := by
    rcases ht.2 with ⟨h1, _⟩ | ⟨b, c, i, h1, _⟩
    · exact ⟨_, h1⟩
    · exact ⟨_, h1⟩
  subst hts
  have B1 : Below u.heap.size u (u.alloc (.cells #[.int .i64 0, ts] 58)) := (Below.refl _ _).alloc (Nat.le_refl _) _
  have RT := RowA.new u 58 #[.int .i64 0, ts]
  have hno := none_any _ r _ (ht.below B1)
  have rt := pl_range RT
  have HT := hidd RT
  have HB1 := hidd B1
  have HH := hidd h
  have HP := hidd ht
  clear B1 RT h ht
  go_enter Tryd.func48, Tryd.ntmps48
  go_wp2_with (refine wpList_load_mid rfl 58 (.tmp 3) rfl u.heap.size 0 rfl [.int .i64 0, ts] _ rt Tryd.underlying58 rfl (pl_info _ _) ?_)
  refine hno.mono ?_
  rintro e u1 ⟨z, rfl, hz, b1⟩
  have B2 := HB1.out.trans (b1.mono HB1.out.size)
  have R2 := HT.out.below b1 HT.out.lt
  clear hno rt b1
  rcases HP.out.2 with ⟨h1, hnone⟩ | ⟨g2, c2, i2, h1, hc2, hg2, hcell, hi2⟩
  · have hzt : z = true := hz.2 hnone
    subst hzt
    have HFIN : Hid (PutR base u q sv (orB p r) (.returned (.tuple #[])) u1) := by
      refine ⟨rfl, sv, ?_, Keeps.of_below B2, lies_refl _ _⟩
      rw [or_none hnone]
      exact HH.out.below B2
    clear hz R2 B2
    go_wp2
    first
      | go_end0
      | (refine bodyPost_ret (results_none rfl _ _ _) rfl ?_)
    exact HFIN.out
  · have hzf : z = false := by
      cases z with
      | false => rfl
      | true =>
        have := (hz.1 rfl) i2
        rw [hi2] at this
        cases this
    subst hzf
    have e1 : ts = .slice (some ⟨g2, 0, none⟩) 1 c2 := by
      injection h1 with h1
      injection h1 with h1
      injection h1 with _ h1
      injection h1 with h1 _
    subst e1
    have hst := stretch_any base u1 q sv p (HH.out.below B2) (Nat.le_trans hbs B2.size)
    have t0 : u1.cell? ⟨u.heap.size, 0, none⟩ = some (.int .i64 0) := R2.at_ rfl
    have t1 : u1.cell? ⟨u.heap.size, 1, none⟩ = some (.slice (some ⟨g2, 0, none⟩) 1 c2) := R2.at_ rfl
    have HR2 := hidd R2
    have HB2 := hidd B2
    clear hz R2 B2
    go_wp2_with fail
    refine hst.mono ?_
    rintro e u3 ⟨rfl, sv', R3, O3, K3, L3⟩
    obtain ⟨g, c, rfl, hg1, hg3⟩ := own_pos O3 (by omega)
    obtain ⟨hb2, hb3⟩ := hne g2 rfl
    have hqlt := HH.out.1.lt
    have hsvl : ∀ k, sv.ownBlock = some k → k < u.heap.size := fun k hk => by
      rcases HH.out.2.2 with ⟨e, _⟩ | ⟨_, o⟩
      · rw [e] at hk; cases hk
      · exact (o.lt k hk).2
    have T3 : RowA u3 u.heap.size 58 #[.int .i64 0, .slice (some ⟨g2, 0, none⟩) 1 c2] := row_keeps HR2.out K3 (by
      rintro (e | e)
      · omega
      · have := hsvl _ e; omega)
    have hc1 : u1.cell? ⟨g2, 0, none⟩ = some (.int .u64 (W r 0)) := by rw [HB2.out.cell (by exact hg2)]; exact hcell
    have hc3 : u3.cell? ⟨g2, 0, none⟩ = some (.int .u64 (W r 0)) := by
      have hh := K3.block g2 (Nat.lt_of_lt_of_le hg2 HB2.out.size) (by
        rintro (e | e)
        · exact hb2 e
        · exact hb3 e)
      rw [← hc1]
      simp [World.cell?, hh]
    have hcw : u3.cell? ⟨g, 0, none⟩ = some (.int .u64 (W p 0)) := by
      have := O3.cells (g := g) rfl 0 _ rfl
      rw [addr_addO] at this
      exact this
    have S3 : JoS u3 q g c (W p 0) u.heap.size (.slice (some ⟨g2, 0, none⟩) 1 c2) u3 := ⟨⟨R3, hcw, hg3, Below.refl _ _⟩, T3⟩
    have hW := W_or p r 0
    have KK : Keeps (Pw q sv) u u3 := (Keeps.of_below HB2.out).trans K3 (fun k _ h => h)
    have LL : Lies u sv (.slice (some ⟨g, 0, none⟩) 1 c) := lies_trans HB2.out.size (lies_refl _ _) L3
    have hqg : q ≠ g := fun e => own_neR O3 R3 (by decide) (by rw [e]; rfl)
    have z1 : u3.cell? ⟨u.heap.size, 1, none⟩ = some (.slice (some ⟨g2, 0, none⟩) 1 c2) := T3.at_ rfl
    have HKK := hidd KK
    have HLL := hidd LL
    have HO3 := hidd O3
    clear hst t0 t1 T3 hc1 hcw KK LL K3 L3 O3 R3
    go_wp2
    go_loopw [21] (fun s21 wr => (s21 = .int .i64 0 ∧ u3 = wr) ∨ (s21 = .int .i64 1 ∧ PutR base u q sv (orB p r) (.returned (.tuple #[])) wr)) (fun s21 _ => 1 - (intOf s21).toNat)
    case atStart => exact .inl ⟨rfl, rfl⟩
    case round =>
      rcases hrel with ⟨rfl, rfl⟩ | ⟨rfl, hfin⟩
      · go_upto_region 6 with fail
        refine wp_region_slotsH 18 (by decide) (by kernel_rfl) (by kernel_rfl) (fun _ _ => true) (JoS u3 q g c (W p 0) u.heap.size (.slice (some ⟨g2, 0, none⟩) 1 c2)) (JoG q g c u.heap.size (W p 0) (W r 0) (W (orB p r) 0)) EbL (by kernel_rfl) (by kernel_rfl) (by kernel_rfl) (by kernel_rfl) ?_ (S3.below (bel_drew (Below.refl _ _))) [0, 3, 4, 5] (by kernel_rfl) ?_ ?_ ?_
        · intro t dd v u u' _ _ h hE
          refine ⟨h.1, fun R hR => ?_⟩
          unfold JoGP at hR
          cases hR
        · intro u _
          refine ⟨⟨_, rfl, ?_⟩, ⟨_, rfl, ?_⟩, ⟨_, rfl, ?_⟩, ⟨_, rfl, ?_⟩, trivial⟩ <;> exact ⟨fun _ h => Option.some.inj h, fun _ h => no_some h⟩
        · refine ⟨?_, ?_, ?_, ?_, ?_, ?_, ?_, ?_, ?_, ?_, ?_, ?_, ?_, ?_, ?_, ?_, ?_, ?_, trivial⟩
          · intro a u hS hr K hK
            obtain ⟨⟨vl0, e0, g0⟩, -⟩ := hr
            obtain rfl := g0.1 _ rfl
            clear g0
            rw [if_pos (want_none rfl)]
            unfold Oper.wp
            go_simp
            exact hK _ _ ⟨fun _ h => Option.some.inj h, fun _ h => no_some h⟩ hS (eby rfl (Below.refl _ _))
          · intro a u hS hr K hK
            obtain ⟨⟨vl0, e0, g0⟩, -⟩ := hr
            obtain rfl := g0.1 _ rfl
            clear g0
            rw [if_pos (want_none rfl)]
            unfold Oper.wp
            go_simp
            exact hK _ _ ⟨fun _ h => Option.some.inj h, fun _ h => no_some h⟩ hS (eby rfl (Below.refl _ _))
          · intro a u hS hr K hK
            obtain ⟨⟨vl0, e0, g0⟩, -⟩ := hr
            obtain rfl := g0.1 _ rfl
            clear g0
            rw [if_pos (want_none rfl)]
            unfold Oper.wp
            go_simp
            exact hK _ _ ⟨fun _ h => Option.some.inj h, fun _ h => no_some h⟩ hS (eby rfl (Below.refl _ _))
          · intro a u hS hr K hK
            obtain ⟨⟨vl0, e0, g0⟩, -⟩ := hr
            obtain rfl := g0.1 _ rfl
            clear g0
            rw [if_pos (want_none rfl)]
            have d1 := hS.pu.box.at_ (k := 1) rfl
            unfold Oper.wp
            go_simp
            exact hK _ _ ⟨fun _ h => Option.some.inj h, fun _ h => no_some h⟩ hS (eby rfl (Below.refl _ _))
          · intro a u hS hr K hK
            obtain ⟨⟨vl0, e0, g0⟩, -⟩ := hr
            obtain rfl := g0.1 _ rfl
            clear g0
            rw [if_pos (want_none rfl)]
            unfold Oper.wp
            go_simp
            exact hK _ _ ⟨fun _ h => Option.some.inj h, fun _ h => no_some h⟩ hS (eby rfl (Below.refl _ _))
          · intro a u hS hr K hK
            obtain ⟨⟨vl0, e0, g0⟩, -⟩ := hr
            obtain rfl := g0.1 _ rfl
            clear g0
            rw [if_pos (want_none rfl)]
            have d0 := hS.tb.at_ (k := 0) rfl
            unfold Oper.wp
            go_simp
            exact hK _ _ ⟨fun _ h => Option.some.inj h, fun _ h => no_some h⟩ hS (eby rfl (Below.refl _ _))
          · intro a u hS hr K hK
            obtain ⟨⟨vl0, e0, g0⟩, -⟩ := hr
            obtain rfl := g0.1 _ rfl
            clear g0
            rw [if_pos (want_none rfl)]
            unfold Oper.wp
            go_simp
            exact hK _ _ ⟨fun _ h => Option.some.inj h, fun _ h => no_some h⟩ hS (eby rfl (Below.refl _ _))
          · intro a u hS hr K hK
            obtain ⟨⟨vl0, e0, g0⟩, ⟨vl1, e1, g1⟩, -⟩ := hr
            obtain rfl := g0.1 _ rfl
            clear g0
            obtain rfl := g1.1 _ rfl
            clear g1
            rw [if_pos (want_none rfl)]
            unfold Oper.wp
            go_simp
            exact hK _ _ ⟨fun _ h => Option.some.inj h, fun _ h => no_some h⟩ hS (eby rfl (Below.refl _ _))
          · intro a u hS hr K hK
            obtain ⟨⟨vl0, e0, g0⟩, -⟩ := hr
            obtain rfl := g0.1 _ rfl
            clear g0
            rw [if_pos (want_none rfl)]
            unfold Oper.wp
            go_simp
            exact hK _ _ ⟨fun _ h => Option.some.inj h, fun _ h => no_some h⟩ hS (eby rfl (Below.refl _ _))
          · intro a u hS hr K hK
            obtain ⟨⟨vl0, e0, g0⟩, -⟩ := hr
            obtain rfl := g0.1 _ rfl
            clear g0
            rw [if_pos (want_none rfl)]
            unfold Oper.wp
            go_simp
            exact hK _ _ ⟨fun _ h => Option.some.inj h, fun _ h => no_some h⟩ hS (eby rfl (Below.refl _ _))
          · intro a u hS hr K hK
            obtain ⟨⟨vl0, e0, g0⟩, -⟩ := hr
            obtain rfl := g0.1 _ rfl
            clear g0
            rw [if_pos (want_none rfl)]
            unfold Oper.wp
            go_simp
            exact hK _ _ ⟨fun _ h => Option.some.inj h, fun _ h => no_some h⟩ hS (eby rfl (Below.refl _ _))
          · intro a u hS hr K hK
            obtain ⟨⟨vl0, e0, g0⟩, -⟩ := hr
            obtain rfl := g0.1 _ rfl
            clear g0
            rw [if_pos (want_none rfl)]
            have d0 := hS.pu.box.at_ (k := 0) rfl
            unfold Oper.wp
            go_simp
            exact hK _ _ ⟨fun _ h => Option.some.inj h, fun _ h => no_some h⟩ hS (eby rfl (Below.refl _ _))
          · intro a u hS hr K hK
            obtain ⟨⟨vl0, e0, g0⟩, ⟨vl1, e1, g1⟩, -⟩ := hr
            obtain rfl := g0.1 _ rfl
            clear g0
            obtain rfl := g1.1 _ rfl
            clear g1
            rw [if_pos (want_none rfl)]
            unfold Oper.wp
            go_simp
            exact hK _ _ ⟨fun _ h => Option.some.inj h, fun _ h => no_some h⟩ hS (eby rfl (Below.refl _ _))
          · intro a u hS hr K hK
            obtain ⟨⟨vl0, e0, g0⟩, ⟨vl1, e1, g1⟩, -⟩ := hr
            obtain rfl := g0.1 _ rfl
            clear g0
            obtain rfl := g1.1 _ rfl
            clear g1
            rw [if_pos (want_none rfl)]
            unfold Oper.wp
            go_simp
            exact hK _ _ ⟨fun _ h => Option.some.inj h, fun _ h => no_some h⟩ hS (eby rfl (Below.refl _ _))
          · intro a u hS hr K hK
            obtain ⟨⟨vl0, e0, g0⟩, -⟩ := hr
            obtain rfl := g0.1 _ rfl
            clear g0
            rw [if_pos (want_none rfl)]
            have d2 := hS.pu.wd
            unfold Oper.wp
            go_simp
            exact hK _ _ ⟨fun _ h => Option.some.inj h, fun _ h => no_some h⟩ hS (eby rfl (Below.refl _ _))
          · intro a u hS hr K hK
            obtain ⟨⟨vl0, e0, g0⟩, -⟩ := hr
            obtain rfl := g0.1 _ rfl
            clear g0
            rw [if_pos (want_none rfl)]
            unfold Oper.wp
            go_simp
            exact hK _ _ ⟨fun _ h => Option.some.inj h, fun _ h => no_some h⟩ hS (eby rfl (Below.refl _ _))
          · intro a u hS hr K hK
            obtain ⟨⟨vl0, e0, g0⟩, ⟨vl1, e1, g1⟩, -⟩ := hr
            obtain rfl := g0.1 _ rfl
            clear g0
            obtain rfl := g1.1 _ rfl
            clear g1
            rw [if_pos (want_none rfl)]
            unfold Oper.wp
            go_simp
            exact hK _ _ ⟨fun _ h => Option.some.inj h, fun _ h => no_some h⟩ hS (eby rfl (Below.refl _ _))
          · intro a u hS hr K hK
            obtain ⟨⟨vl0, e0, g0⟩, ⟨vl1, e1, g1⟩, -⟩ := hr
            obtain rfl := g0.1 _ rfl
            clear g0
            obtain rfl := g1.1 _ rfl
            clear g1
            rw [if_pos (want_none rfl)]
            unfold Oper.wp
            go_simp
            exact hK _ _ ⟨fun _ h => Option.some.inj h, fun _ h => no_some h⟩ hS (eby rfl (Below.refl _ _))
        intro a u4 hS4 hts hd hkn hf
        obtain ⟨v26, e26, g26⟩ := hf 0 _ 26 (by decide) rfl rfl (fun _ => rfl)
        obtain ⟨v27, e27, g27⟩ := hf 1 _ 27 (by decide) rfl rfl (fun _ => rfl)
        obtain ⟨v28, e28, g28⟩ := hf 2 _ 28 (by decide) rfl rfl (fun _ => rfl)
        obtain ⟨v29, e29, g29⟩ := hf 3 _ 29 (by decide) rfl rfl (fun _ => rfl)
        obtain ⟨v30, e30, g30⟩ := hf 4 _ 30 (by decide) rfl rfl (fun _ => rfl)
        obtain ⟨v31, e31, g31⟩ := hf 5 _ 31 (by decide) rfl rfl (fun _ => rfl)
        obtain ⟨v32, e32, g32⟩ := hf 6 _ 32 (by decide) rfl rfl (fun _ => rfl)
        obtain ⟨v33, e33, g33⟩ := hf 7 _ 33 (by decide) rfl rfl (fun _ => rfl)
        obtain ⟨v34, e34, g34⟩ := hf 8 _ 34 (by decide) rfl rfl (fun _ => rfl)
        obtain ⟨v35, e35, g35⟩ := hf 9 _ 35 (by decide) rfl rfl (fun _ => rfl)
        obtain ⟨v36, e36, g36⟩ := hf 10 _ 36 (by decide) rfl rfl (fun _ => rfl)
        obtain ⟨v37, e37, g37⟩ := hf 11 _ 37 (by decide) rfl rfl (fun _ => rfl)
        obtain ⟨v38, e38, g38⟩ := hf 12 _ 38 (by decide) rfl rfl (fun _ => rfl)
        obtain ⟨v39, e39, g39⟩ := hf 13 _ 39 (by decide) rfl rfl (fun _ => rfl)
        obtain ⟨v40, e40, g40⟩ := hf 14 _ 40 (by decide) rfl rfl (fun _ => rfl)
        obtain ⟨v41, e41, g41⟩ := hf 15 _ 41 (by decide) rfl rfl (fun _ => rfl)
        obtain ⟨v42, e42, g42⟩ := hf 16 _ 42 (by decide) rfl rfl (fun _ => rfl)
        obtain ⟨v43, e43, g43⟩ := hf 17 _ 43 (by decide) rfl rfl (fun _ => rfl)
        have hA := act_putsH [(26, v26), (27, v27), (28, v28), (29, v29), (30, v30), (31, v31), (32, v32), (33, v33), (34, v34), (35, v35), (36, v36), (37, v37), (38, v38), (39, v39), (40, v40), (41, v41), (42, v42), (43, v43)] hts hd hkn (by kernel_rfl) (by simp [e26, e27, e28, e29, e30, e31, e32, e33, e34, e35, e36, e37, e38, e39, e40, e41, e42, e43])
        clear hf hts hd hkn e26 e27 e28 e29 e30 e31 e32 e33 e34 e35 e36 e37 e38 e39 e40 e41 e42 e43
        obtain rfl := g26.1 _ rfl
        clear g26
        obtain rfl := g27.1 _ rfl
        clear g27
        obtain rfl := g28.1 _ rfl
        clear g28
        obtain rfl := g29.1 _ rfl
        clear g29
        obtain rfl := g30.1 _ rfl
        clear g30
        obtain rfl := g31.1 _ rfl
        clear g31
        obtain rfl := g32.1 _ rfl
        clear g32
        obtain rfl := g33.1 _ rfl
        clear g33
        obtain rfl := g34.1 _ rfl
        clear g34
        obtain rfl := g35.1 _ rfl
        clear g35
        obtain rfl := g36.1 _ rfl
        clear g36
        obtain rfl := g37.1 _ rfl
        clear g37
        obtain rfl := g38.1 _ rfl
        clear g38
        obtain rfl := g39.1 _ rfl
        clear g39
        obtain rfl := g40.1 _ rfl
        clear g40
        obtain rfl := g41.1 _ rfl
        clear g41
        obtain rfl := g42.1 _ rfl
        clear g42
        obtain rfl := g43.1 _ rfl
        clear g43
        subst hA
        simp only [List.foldl, List.setIfInBounds_toArray, List.set_cons_zero, List.set_cons_succ]
        simp only [List.drop_succ_cons, List.drop_zero]
        have O4 := own_below HO3.out hS4.pu.bel (Nat.le_refl _)
        have w4 := hS4.pu.wd
        have tg : u4.frozen? ⟨g, 0, none⟩ = false := own_thawed O4 rfl
        have HFIN : Hid (PutR base u q sv (orB p r) (.returned (.tuple #[])) (u4.setCell ⟨g, 0, none⟩ (.int .u64 (W (orB p r) 0)))) := by
          refine ⟨rfl, .slice (some ⟨g, 0, none⟩) 1 c, ⟨hS4.pu.box.far (a := ⟨g, 0, none⟩) hqg _, fun i hi => ?_, .inr ⟨⟨i2, by simp [orB, hi2]⟩, own_put1 O4 _⟩⟩, ?_, HLL.out⟩
          · unfold orB at hi
            rw [Bool.or_eq_true] at hi
            rcases hi with hi | hi
            · exact HH.out.2.1 i hi
            · exact HP.out.1 i hi
          · refine keeps_set (HKK.out.trans (Keeps.of_below (P := Pw q sv) hS4.pu.bel) (fun k _ h => h)) _ _ ?_
            rcases HLL.out with h | ⟨k, h, h2⟩
            · exact .inl (.inr h.symm)
            · have e : g = k := Option.some.inj h
              subst e
              exact .inr h2
        clear O4 hS4 S3
        go_wp2
        exact ⟨.inr ⟨rfl, HFIN.out⟩, by simp [intOf]⟩
      · have HFIN := hidd hfin
        clear hfin
        go_wp2
        go_end0
        exact HFIN.out
end Go.Proofs.YtcgondjekpcpgaaDoor.Sy.Lg.Jo
