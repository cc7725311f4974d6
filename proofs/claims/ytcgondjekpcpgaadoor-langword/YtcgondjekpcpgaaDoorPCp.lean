/- The matcher: needed. -/
import Derived.Test.YtcgondjekpcpgaaDoorPCo
namespace Go.Proofs.YtcgondjekpcpgaaDoor.Sy.Lg
open Go.RowKit Go.Proofs.YtcgondjekpcpgaaDoor.Sy.Ap Go.Proofs.YtcgondjekpcpgaaDoor.Sy.Ap.Wk
set_option maxRecDepth 100000
set_option linter.unusedVariables false

/-- A node's cells. -/
abbrev ndC (g : Gd) (kA : Option Addr) (mm kc : Nat) : Array Value := #[.int .u8 g.op, .int .u64 (W g.s 0), .int .u64 (W g.s 1), .int .u64 (W g.s 2), .int .u64 (W g.s 3), .slice kA mm kc, .int .i64 g.lo, .int .i64 g.hi, .string g.nm]
def EbM (M : MC) (d : Option Nat) (u u' : World) : Prop := Keeps (MP M u) u u'
def NewQ (w : World) (z : Value) (u : World) : Prop := ∃ q, z = .pointer (some ⟨q, 0, none⟩) ∧ RowA u q 58 #[.int .i64 0, .slice none 0 0] ∧ w.heap.size ≤ q
theorem FS.newQ {M : MC} {F : Nat → Prop} {w : World} {L : List Row3} {v : Value} {X : Nat → Prop} {u u' : World} (h : FS M F w L v X u) {z : Value} {w0 : World} (hz : NewQ w0 z u) (hk : Keeps (MP M u) u u') : NewQ w0 z u' := by
  obtain ⟨cs, ms, hm⟩ := h.mi
  obtain ⟨q, h1, h2, h3⟩ := hz
  exact ⟨q, h1, mi_row hm h2 (by decide) (by decide) hk, h3⟩
def PlO (F : Nat → Prop) (Y : Nat → Prop) (z : Value) (u : World) : Prop := PlX u z Y ∧ Off F z
theorem FS.plO {M : MC} {F : Nat → Prop} {w : World} {L : List Row3} {v : Value} {X Y : Nat → Prop} {u u' : World} (h : FS M F w L v X u) {z : Value} (hz : PlO F Y z u) (hk : Keeps (MP M u) u u') : PlO F Y z u' := by
  obtain ⟨cs, ms, hm⟩ := h.mi
  exact ⟨hz.1.keeps hm hk, hz.2⟩
namespace Ne
theorem eby {M : MC} {d : Option Nat} {u u' : World} (_ : true = true) (h : Below u.heap.size u u') : EbM M d u u' := Keeps.of_below h
set_option linter.unusedVariables false in
def NeGV (M : MC) (F : Nat → Prop) (w : World) (Y : Nat → Prop) (n0 : Nat) (b o k : Nat) (kc : Nat) (vv : Value) (t : Nat) : Option Value :=
  match t with
  | 0 => some (.pointer (some ⟨M.mq, 0, none⟩))
  | 4 => some (.pointer (some ⟨n0, 0, none⟩))
  | 5 => some (.pointer (some ⟨n0 + 1, 0, none⟩))
  | 12 => some (.pointer (some ⟨M.mq, 0, none⟩))
  | 13 => some (.pointer (some ⟨n0, 5, none⟩))
  | 14 => some (.slice (some ⟨b, o, none⟩) 1 kc)
  | 15 => some (.pointer (some ⟨b, o, none⟩))
  | 16 => some (.int .i64 (k : Int))
  | 17 => some (vv)
  | _ => none
set_option linter.unusedVariables false in
def NeGP (M : MC) (F : Nat → Prop) (w : World) (Y : Nat → Prop) (n0 : Nat) (b o k : Nat) (kc : Nat) (vv : Value) (t : Nat) : Option (Value → World → Prop) :=
  match t with
  | 7 => some (NewQ w)
  | 18 => some (PlO F Y)
  | _ => none
def NeG (M : MC) (F : Nat → Prop) (w : World) (Y : Nat → Prop) (n0 : Nat) (b o k : Nat) (kc : Nat) (vv : Value) (t : Nat) (v : Value) (u : World) : Prop := (∀ z9, NeGV M F w Y n0 b o k kc vv t = some z9 → v = z9) ∧ ∀ R, NeGP M F w Y n0 b o k kc vv t = some R → R v u
end Ne
/-- The result is laid and returned. -/
theorem FS.done {M : MC} {F : Nat → Prop} {w : World} {x y : Row3} {q : Nat} {c c' : Array Value} {v : Value} {X Y : Nat → Prop} {u : World} (h : FS M F w [x, y, (q, 58, c)] v X u) (hq : w.heap.size ≤ q) (hx : x.1 ≠ q) (hy : y.1 ≠ q) (hc : c[0]? = some (.int .i64 0)) (hY : ∀ j, X j ↔ Y j) : RetQ M F w Y (.returned v) (u.setRow q c') := by
  have h2 : FS M F w [(q, 58, c), x, y] v X u := h.sub (fun z hz => by simp at hz ⊢; rcases hz with e | e | e <;> simp [e])
  have h3 := h2.setRow (c' := c') hq (fun z hz => by simp at hz; rcases hz with e | e <;> (rw [e]; assumption)) hc
  exact ⟨v, rfl, h3.mi, h3.keep, h3.pl.congr hY, h3.off⟩
namespace Ne
set_option maxHeartbeats 2000000 in
theorem needed_any {M : MC} (hM : M.Ok) {k : Nat} (hE : EndsC M k) (g : Gd) (kA : Option Addr) (kc : Nat) (hkA : KidAt M kA 0 k) (hlo : 0 ≤ g.lo) (hlo2 : g.lo ≤ 4096) (hin : ∀ i j, M.R k i j → i ≤ M.s.size → j ≤ M.s.size) (F : Nat → Prop) (u : World) (v : Value) (X : Nat → Prop) (h : Inp M F u v X) :
    Calls Tryd.prog 66 #[.pointer (some ⟨M.mq, 0, none⟩), .agg #[.int .u8 g.op, .int .u64 (W g.s 0), .int .u64 (W g.s 1), .int .u64 (W g.s 2), .int .u64 (W g.s 3), .slice kA 1 kc, .int .i64 g.lo, .int .i64 g.hi, .string g.nm], v] u (RetQ M F u (img (powR (M.R k) g.lo.toNat) X)) := by
  obtain ⟨b, o, rfl, hkb, hkc⟩ := hkA
  obtain ⟨A, n, c, rfl⟩ := h.pl.form
  have hfl := h.fl
  have F0 := FS.start h
  have hB := F0.lo
  have hX := h.le
  clear h
  go_enter Tryd.func66, Tryd.ntmps66
  go_upto_region 1 with fail
  have F1 := F0.three 43 (by decide) (by decide) (ndC g (some ⟨b, o, none⟩) 1 kc) #[.int .i64 0, .slice A n c] #[.int .i64 0, .slice none 0 0]
  rw [Nat.add_zero] at hkc
  generalize ((u.alloc (.cells (ndC g (some ⟨b, o, none⟩) 1 kc) 43)).alloc (.cells #[.int .i64 0, .slice A n c] 58)).alloc (.cells #[.int .i64 0, .slice none 0 0] 58) = u1 at *
  have d3 : u1.cell? ⟨u.heap.size, 6, none⟩ = some (.int .i64 g.lo) := F1.r0.at_ rfl
  clear F0
  have HF1 := hidd F1
  have HX0 := hidd hX
  have HIN := hidd hin
  clear F1 hX hin
  go_wp2
  go_loopw [10] (fun s10 wr => ∃ (t : Nat) (A : Option Addr) (n c : Nat), s10 = .int .i64 (t : Int) ∧ (t : Int) ≤ g.lo ∧ FS M F u [(u.heap.size, 43, ndC g (some ⟨b, o, none⟩) 1 kc), (u.heap.size + 1, 58, #[.int .i64 0, .slice A n c]), (u.heap.size + 1 + 1, 58, #[.int .i64 0, .slice none 0 0])] (.agg #[.int .i64 0, .slice A n c]) (img (powR (M.R k) t) X) wr) (fun s10 _ => (g.lo - intOf s10).toNat)
  case atStart => exact ⟨0, A, n, c, rfl, by omega, HF1.out.turn (HF1.out.pl.congr fun j => (img_zero _ _ j).symm) HF1.out.off⟩
  case round =>
    clear HF1 d3
    obtain ⟨t, A9, n9, c9, rfl, ht, hf⟩ := hrel
    have HLE : Hid (∀ t j, img (powR (M.R k) t) X j → j ≤ M.s.size) := fun t j ⟨i, h1, h2⟩ => powR_le (N := M.s.size) HIN.out t i j h2 (HX0.out i h1)
    by_cases hlt : (t : Int) < g.lo
    · have hF := hidd hf
      have hS0 := hf.again
      have hfl1 : ∀ f, F f → f < wr.heap.size := fun f q => Nat.lt_of_lt_of_le (hfl f q) hf.keep.size
      have hle := HLE.out t
      clear hf
      go_upto_region 3 with fail
      refine wp_region_slotsH 8 (by decide) (by kernel_rfl) (by kernel_rfl) (fun _ _ => true) (FS M F wr [(u.heap.size, 43, ndC g (some ⟨b, o, none⟩) 1 kc), (u.heap.size + 1, 58, #[.int .i64 0, .slice A9 n9 c9]), (u.heap.size + 1 + 1, 58, #[.int .i64 0, .slice none 0 0])] (.agg #[.int .i64 0, .slice A9 n9 c9]) (img (powR (M.R k) t) X)) (NeG M F wr (img (M.R k) (img (powR (M.R k) t) X)) u.heap.size b o k kc (.agg #[.int .i64 0, .slice A9 n9 c9])) (EbM M) (by kernel_rfl) (by kernel_rfl) (by kernel_rfl) (by kernel_rfl) ?_ (hS0.below (bel_drew (Below.refl _ _))) [0, 4, 5] (by kernel_rfl) ?_ ?_ ?_
      · intro t dd v u u' _ hS h hE
        refine ⟨h.1, fun R hR => ?_⟩
        have h2 := h.2 R hR
        unfold NeGP at hR
        split at hR
        · cases hR; exact hS.newQ h2 hE
        · cases hR; exact hS.plO h2 hE
        · cases hR
      · intro u _
        refine ⟨⟨_, rfl, ?_⟩, ⟨_, rfl, ?_⟩, ⟨_, rfl, ?_⟩, trivial⟩ <;> exact ⟨fun _ h => Option.some.inj h, fun _ h => no_some h⟩
      · clear hfl
        have hfl := hfl1
        clear hfl1
        refine ⟨?_, ?_, ?_, ?_, ?_, ?_, ?_, ?_, trivial⟩
        · intro a u hS hr K hK
          obtain ⟨⟨vl0, e0, g0⟩, -⟩ := hr
          obtain rfl := g0.1 _ rfl
          clear g0
          rw [if_pos (want_none rfl)]
          unfold Oper.wp
          go_simp
          exact hK _ _ ⟨fun _ h => Option.some.inj h, fun _ h => no_some h⟩ hS (eby rfl (Below.refl _ _))
        · intro a u hS hr K hK
          obtain ⟨⟨vl0, e0, g0⟩, -⟩ := hr
          obtain rfl := g0.1 _ rfl
          clear g0
          rw [if_pos (want_none rfl)]
          unfold Oper.wp
          go_simp
          exact hK _ _ ⟨fun _ h => Option.some.inj h, fun _ h => no_some h⟩ hS (eby rfl (Below.refl _ _))
        · intro a u hS hr K hK
          obtain ⟨⟨vl0, e0, g0⟩, -⟩ := hr
          obtain rfl := g0.1 _ rfl
          clear g0
          rw [if_pos (want_none rfl)]
          have d0 := hS.r0.at_ (k := 5) rfl
          unfold Oper.wp
          go_simp
          exact hK _ _ ⟨fun _ h => Option.some.inj h, fun _ h => no_some h⟩ hS (eby rfl (Below.refl _ _))
        · intro a u hS hr K hK
          obtain ⟨⟨vl0, e0, g0⟩, -⟩ := hr
          obtain rfl := g0.1 _ rfl
          clear g0
          rw [if_pos (want_none rfl)]
          unfold Oper.wp
          go_simp
          exact hK _ _ ⟨fun _ h => Option.some.inj h, fun _ h => no_some h⟩ hS (eby rfl (Below.refl _ _))
        · intro a u hS hr K hK
          obtain ⟨⟨vl0, e0, g0⟩, -⟩ := hr
          obtain rfl := g0.1 _ rfl
          clear g0
          rw [if_pos (want_none rfl)]
          have d0 := hS.kid hkb hkc
          unfold Oper.wp
          go_simp
          exact hK _ _ ⟨fun _ h => Option.some.inj h, fun _ h => no_some h⟩ hS (eby rfl (Below.refl _ _))
        · intro a u hS hr K hK
          obtain ⟨⟨vl0, e0, g0⟩, -⟩ := hr
          obtain rfl := g0.1 _ rfl
          clear g0
          rw [if_pos (want_none rfl)]
          have d0 := hS.r1.at_ (k := 0) rfl
          have d1 := hS.r1.at_ (k := 1) rfl
          unfold Oper.wp
          go_simp
          exact hK _ _ ⟨fun _ h => Option.some.inj h, fun _ h => no_some h⟩ hS (eby rfl (Below.refl _ _))
        · intro a u hS hr K hK
          obtain ⟨⟨vl0, e0, g0⟩, ⟨vl1, e1, g1⟩, ⟨vl2, e2, g2⟩, -⟩ := hr
          obtain rfl := g0.1 _ rfl
          clear g0
          obtain rfl := g1.1 _ rfl
          clear g1
          obtain rfl := g2.1 _ rfl
          clear g2
          rw [if_pos (want_none rfl)]
          unfold Oper.wp
          go_simp
          refine (hE F u _ _ (hS.inp hfl hle)).mono ?_
          rintro e u1 ⟨v1, rfl, hm1, hk1, hp1, ho1⟩
          exact hK _ _ ⟨fun _ h => no_some h, fun _ h => spec_ok h ⟨hp1, ho1⟩⟩ (hS.step hm1 hk1) hk1
        · intro a u hS hr K hK
          rw [if_pos (want_none rfl)]
          unfold Oper.wp
          go_simp
          exact hK _ _ ⟨fun _ h => no_some h, fun _ h => spec_ok h (⟨_, rfl, RowA.new _ _ _, hS.keep.size⟩)⟩ (hS.below ((Below.refl _ _).alloc (Nat.le_refl _) _)) (eby rfl ((Below.refl _ _).alloc (Nat.le_refl _) _))
      intro a u2 hS2 hts hd hkn hf
      obtain ⟨v12, e12, g12⟩ := hf 0 _ 12 (by decide) rfl rfl (fun _ => rfl)
      obtain ⟨v13, e13, g13⟩ := hf 1 _ 13 (by decide) rfl rfl (fun _ => rfl)
      obtain ⟨v14, e14, g14⟩ := hf 2 _ 14 (by decide) rfl rfl (fun _ => rfl)
      obtain ⟨v15, e15, g15⟩ := hf 3 _ 15 (by decide) rfl rfl (fun _ => rfl)
      obtain ⟨v16, e16, g16⟩ := hf 4 _ 16 (by decide) rfl rfl (fun _ => rfl)
      obtain ⟨v17, e17, g17⟩ := hf 5 _ 17 (by decide) rfl rfl (fun _ => rfl)
      obtain ⟨v18, e18, g18⟩ := hf 6 _ 18 (by decide) rfl rfl (fun _ => rfl)
      obtain ⟨v7, e7, g7⟩ := hf 7 _ 7 (by decide) rfl rfl (fun _ => rfl)
      have hA := act_putsH [(12, v12), (13, v13), (14, v14), (15, v15), (16, v16), (17, v17), (18, v18), (7, v7)] hts hd hkn (by kernel_rfl) (by simp [e12, e13, e14, e15, e16, e17, e18, e7])
      clear hf hts hd hkn e12 e13 e14 e15 e16 e17 e18 e7
      obtain rfl := g12.1 _ rfl
      clear g12
      obtain rfl := g13.1 _ rfl
      clear g13
      obtain rfl := g14.1 _ rfl
      clear g14
      obtain rfl := g15.1 _ rfl
      clear g15
      obtain rfl := g16.1 _ rfl
      clear g16
      obtain rfl := g17.1 _ rfl
      clear g17
      replace g18 := g18.2 _ rfl
      replace g7 := g7.2 _ rfl
      subst hA
      simp only [List.foldl, List.setIfInBounds_toArray, List.set_cons_zero, List.set_cons_succ]
      simp only [List.drop_succ_cons, List.drop_zero]
      obtain ⟨q7, rfl, R7, hq7⟩ := g7
      obtain ⟨hp, ho⟩ := g18
      obtain ⟨A1, n1, c1, rfl⟩ := hp.form
      have G1 := ((hS2.put (x := (q7, 58, #[.int .i64 0, .slice none 0 0])) R7 (show (58 : TypeId) ≠ 3 by decide) (show (58 : TypeId) ≠ 94 by decide)).setRow (c' := #[.int .i64 0, .slice A1 n1 c1]) hq7 (fun x hx => by
        have := hS0.rows x hx
        have := this.1.lt
        omega) rfl)
      have G2 := (((hS2.turn hp ho).put (x := (q7, 58, #[.int .i64 0, .slice none 0 0])) R7 (show (58 : TypeId) ≠ 3 by decide) (show (58 : TypeId) ≠ 94 by decide)).setRow (c' := #[.int .i64 0, .slice A1 n1 c1]) hq7 (fun x hx => by
        have := hS0.rows x hx
        have := this.1.lt
        omega) rfl)
      go_upto_region 4 with (refine wpList_store_row rfl 58 (.tmp 7) (.tmp 18) rfl q7 #[.int .i64 0, .slice A1 n1 c1] rfl rfl 58 #[.int .i64 0, .slice none 0 0] R7 (pl_info _ _) rfl (ones2 rfl rfl) ?_)
      rw [put_none]
      generalize u2.setRow q7 #[.int .i64 0, .slice A1 n1 c1] = u3 at *
      clear hS2 hp ho R7
      obtain ⟨p1, hp1, hx1⟩ := G2.pl
      obtain ⟨p0, hp0, hx0⟩ := G1.pl
      have hsame := same_any _ _ p1 p0 u3 hp1 hp0
      have rr7 := pl_range G1.r0
      have rr5 := pl_range G1.r2
      have HE : Hid ((∀ i, p1 i = p0 i) ↔ ∀ j, img (M.R k) (img (powR (M.R k) t) X) j ↔ img (powR (M.R k) t) X j) := by
        constructor
        · intro h j
          rw [← hx1, ← hx0, h]
        · intro h j
          have := h j
          rw [← hx1, ← hx0] at this
          cases e : p1 j <;> cases e2 : p0 j <;> simp_all
      have HG1 := hidd G1
      have HG2 := hidd G2
      clear G1 G2 hp1 hp0 hx1 hx0
      go_wp2_with (first
        | refine wpList_load_mid rfl 58 (.tmp 7) rfl q7 0 rfl [.int .i64 0, .slice A1 n1 c1] _ rr7 Tryd.underlying58 rfl (pl_info _ _) ?_
        | refine wpList_load_mid rfl 58 (.tmp 5) rfl (u.heap.size + 1) 0 rfl [.int .i64 0, .slice A9 n9 c9] _ rr5 Tryd.underlying58 rfl (pl_info _ _) ?_)
      refine hsame.mono ?_
      rintro e u4 ⟨z, rfl, hz, b4⟩
      have G4 := HG1.out.below b4
      have G5 := HG2.out.below b4
      clear hsame rr7 rr5 b4
      cases z with
      | true =>
        have HSAME := hidd (HE.out.1 (hz.1 rfl))
        have hF2 : Hid (FS M F u [(u.heap.size, 43, ndC g (some ⟨b, o, none⟩) 1 kc), (u.heap.size + 1, 58, #[.int .i64 0, .slice A9 n9 c9]), (u.heap.size + 1 + 1, 58, #[.int .i64 0, .slice none 0 0])] (.agg #[.int .i64 0, .slice A9 n9 c9]) (img (powR (M.R k) t) X) u4) := (hF.out.chain G4).sub (fun x hx => by simp at hx ⊢; rcases hx with e | e | e <;> simp [e])
        have HY : Hid (∀ j, img (powR (M.R k) t) X j ↔ img (powR (M.R k) g.lo.toNat) X j) := fun j => by
          have := img_same HSAME.out (g.lo.toNat - t) j
          rw [show t + (g.lo.toNat - t) = g.lo.toNat from by omega] at this
          exact this.symm
        clear hz G4 G5 hF
        have R2 := hF2.out.r2
        have rr1 := pl_range hF2.out.r1
        have HFIN : Hid (RetQ M F u (img (powR (M.R k) g.lo.toNat) X) (.returned (.agg #[.int .i64 0, .slice A9 n9 c9])) (u4.setRow (u.heap.size + 1 + 1) #[.int .i64 0, .slice A9 n9 c9])) := hF2.out.done (by omega) (by simp; omega) (by simp) rfl HY.out
        have HRF := hidd (R2.row #[.int .i64 0, .slice A9 n9 c9])
        go_wp2_with (first
          | refine wpList_load_mid rfl 58 (.tmp 5) rfl (u.heap.size + 1) 0 rfl [.int .i64 0, .slice A9 n9 c9] _ rr1 Tryd.underlying58 rfl (pl_info _ _) ?_
          | refine wpList_store_row rfl 58 (.tmp 6) (.tmp 24) rfl (u.heap.size + 1 + 1) #[.int .i64 0, .slice A9 n9 c9] rfl rfl 58 #[.int .i64 0, .slice none 0 0] R2 (pl_info _ _) rfl (ones2 rfl rfl) ?_)
        exact ret_places Tryd.results66 rfl HRF.out rfl HFIN.out
      | false =>
        have hF3 := ((hF.out.chain G5).sub (L' := [(u.heap.size, 43, ndC g (some ⟨b, o, none⟩) 1 kc), (u.heap.size + 1, 58, #[.int .i64 0, .slice A9 n9 c9]), (u.heap.size + 1 + 1, 58, #[.int .i64 0, .slice none 0 0])]) (fun x hx => by simp at hx ⊢; rcases hx with e | e | e <;> simp [e]))
        have R7 := G4.r0
        have rr7 := pl_range R7
        have R5 := hF3.r1
        have G6 := ((hF3.sub (L' := [(u.heap.size + 1, 58, #[.int .i64 0, .slice A9 n9 c9]), (u.heap.size, 43, ndC g (some ⟨b, o, none⟩) 1 kc), (u.heap.size + 1 + 1, 58, #[.int .i64 0, .slice none 0 0])]) (fun x hx => by simp at hx ⊢; rcases hx with e | e | e <;> simp [e])).setRow (c' := #[.int .i64 0, .slice A1 n1 c1]) (by omega) (fun x hx => by simp at hx; rcases hx with e | e <;> (rw [e]; simp)) rfl)
        have HG6 : Hid (FS M F u [(u.heap.size, 43, ndC g (some ⟨b, o, none⟩) 1 kc), (u.heap.size + 1, 58, #[.int .i64 0, .slice A1 n1 c1]), (u.heap.size + 1 + 1, 58, #[.int .i64 0, .slice none 0 0])] (.agg #[.int .i64 0, .slice A1 n1 c1]) (img (powR (M.R k) (t + 1)) X) (u4.setRow (u.heap.size + 1) #[.int .i64 0, .slice A1 n1 c1])) := by
          have g7 := G6.sub (L' := [(u.heap.size, 43, ndC g (some ⟨b, o, none⟩) 1 kc), (u.heap.size + 1, 58, #[.int .i64 0, .slice A1 n1 c1]), (u.heap.size + 1 + 1, 58, #[.int .i64 0, .slice none 0 0])]) (fun x hx => by simp at hx ⊢; rcases hx with e | e | e <;> simp [e])
          exact g7.turn (g7.pl.congr fun j => (img_pow _ _ _ _).symm) g7.off
        clear hz G4 G5 hF hF3 G6
        go_wp2_with (first
          | refine wpList_load_mid rfl 58 (.tmp 7) rfl q7 0 rfl [.int .i64 0, .slice A1 n1 c1] _ rr7 Tryd.underlying58 rfl (pl_info _ _) ?_
          | refine wpList_store_row rfl 58 (.tmp 5) (.tmp 22) rfl (u.heap.size + 1) #[.int .i64 0, .slice A1 n1 c1] rfl rfl 58 #[.int .i64 0, .slice A9 n9 c9] R5 (pl_info _ _) rfl (ones2 rfl rfl) ?_)
        exact ⟨⟨t + 1, A1, n1, c1, rfl, by omega, HG6.out⟩, by simp [intOf]; omega⟩
    · have hF2 := hidd hf
      have HY : Hid (∀ j, img (powR (M.R k) t) X j ↔ img (powR (M.R k) g.lo.toNat) X j) := fun j => by
        rw [show t = g.lo.toNat from by omega]
      clear hf
      have R2 := hF2.out.r2
      have rr1 := pl_range hF2.out.r1
      have HFIN : Hid (RetQ M F u (img (powR (M.R k) g.lo.toNat) X) (.returned (.agg #[.int .i64 0, .slice A9 n9 c9])) (wr.setRow (u.heap.size + 1 + 1) #[.int .i64 0, .slice A9 n9 c9])) := hF2.out.done (by omega) (by simp; omega) (by simp) rfl HY.out
      have HRF := hidd (R2.row #[.int .i64 0, .slice A9 n9 c9])
      go_wp2_with (first
        | refine wpList_load_mid rfl 58 (.tmp 5) rfl (u.heap.size + 1) 0 rfl [.int .i64 0, .slice A9 n9 c9] _ rr1 Tryd.underlying58 rfl (pl_info _ _) ?_
        | refine wpList_store_row rfl 58 (.tmp 6) (.tmp 24) rfl (u.heap.size + 1 + 1) #[.int .i64 0, .slice A9 n9 c9] rfl rfl 58 #[.int .i64 0, .slice none 0 0] R2 (pl_info _ _) rfl (ones2 rfl rfl) ?_)
      exact ret_places Tryd.results66 rfl HRF.out rfl HFIN.out
end Ne
end Go.Proofs.YtcgondjekpcpgaaDoor.Sy.Lg
