/- The matcher: from one place. -/
import Derived.Test.YtcgondjekpcpgaaDoorPCv
import Derived.Maps.OwnSet
import Derived.WalkSpells
namespace Go.Proofs.YtcgondjekpcpgaaDoor.Sy.Lg.Ef
open Go.RowKit Go.Proofs.YtcgondjekpcpgaaDoor.Sy.Ap Go.Proofs.YtcgondjekpcpgaaDoor.Sy.Ap.Wk Go.Proofs.YtcgondjekpcpgaaDoor.Sy.Lg.Oq Go.Proofs.YtcgondjekpcpgaaDoor.Sy.Lg.Wl
set_option maxRecDepth 100000
set_option linter.unusedVariables false

abbrev zeroP : Value := .agg #[.int .i64 0, .slice none 0 0]
theorem zero_pl (u : World) : PlX u zeroP (fun _ => False) := ⟨noB, ⟨(fun i h => by cases h), .inl ⟨rfl, fun i => rfl⟩⟩, fun j => ⟨(fun h => by cases h), fun h => h.elim⟩⟩
theorem zero_off (F : Nat → Prop) : Off F zeroP := fun b hb => by cases hb
theorem zero_places (w : World) : (zeroValue 58).run Tryd.prog w = .ok zeroP w := by kernel_rfl
theorem look_nil (pl : Nat) (h : pl < 64) (w : World) : (Instr.lookup 94 (.map none) (.int .i64 (pl : Int)) true).run Tryd.prog w = .ok (.tuple #[zeroP, .bool false]) w := by
  simpa using Maps.look_nil (w := w) true int_key Tryd.underlying94 (zero_places w) (keyI_of h)
/-- The result is laid and returned. -/
theorem FS.done1 {M : MC} {F : Nat → Prop} {w : World} {q : Nat} {c c' : Array Value} {v : Value} {X Y : Nat → Prop} {L : List Row3} {u : World} (h : FS M F w ((q, 58, c) :: L) v X u) (hq : w.heap.size ≤ q) (hL : ∀ x ∈ L, x.1 ≠ q) (hc : c[0]? = some (.int .i64 0)) (hY : ∀ j, X j ↔ Y j) : RetQ M F w Y (.returned v) (u.setRow q c') := by
  have h3 := h.setRow (c' := c') hq hL hc
  exact ⟨v, rfl, h3.mi, h3.keep, h3.pl.congr hY, h3.off⟩
/-- Where the node k lies. -/
def NodeIn (M : MC) (k : Nat) (g : Gd) (kA : Option Addr) (mm kc : Nat) : Prop := ∃ bt ot, M.tA = some ⟨bt, ot, none⟩ ∧ bt < M.B ∧ M.W0.rangeAt bt (ot + k * 9) [.int .u8 g.op, .int .u64 (W g.s 0), .int .u64 (W g.s 1), .int .u64 (W g.s 2), .int .u64 (W g.s 3), .slice kA mm kc, .int .i64 g.lo, .int .i64 g.hi, .string g.nm]
theorem FS.row {M : MC} {F : Nat → Prop} {w : World} {L : List Row3} {v : Value} {X : Nat → Prop} {u : World} (h : FS M F w L v X u) {b o : Nat} {l : List Value} (hb : b < M.B) (hr : M.W0.rangeAt b o l) : u.rangeAt b o l := fun j z hz => by
  rw [h.bel.cell (by exact hb)]
  exact hr j z hz
theorem nd_info (g : Gd) (kA : Option Addr) (mm kc : Nat) : (Tryd.prog.info? 43).map (·.size) = some ([.int .u8 g.op, .int .u64 (W g.s 0), .int .u64 (W g.s 1), .int .u64 (W g.s 2), .int .u64 (W g.s 3), .slice kA mm kc, .int .i64 g.lo, .int .i64 g.hi, .string g.nm] : List Value).length := by
  show _ = some 9
  kernel_rfl
set_option linter.unusedVariables false in
def FrGV (M : MC) (F : Nat → Prop) (w : World) (Y1 Y2 : Nat → Prop) (k pl bt ot : Nat) (g : Gd) (kA : Option Addr) (mm kc : Nat) (t : Nat) : Option Value :=
  match t with
  | 0 => some (.pointer (some ⟨M.mq, 0, none⟩))
  | 1 => some (.int .i64 (k : Int))
  | 2 => some (.int .i64 (pl : Int))
  | 24 => some (.pointer (some ⟨M.mq, 0, none⟩))
  | 25 => some (.pointer (some ⟨M.mq, 0, none⟩))
  | 26 => some (.pointer (some ⟨M.mq, 0, none⟩))
  | 27 => some (.pointer (some ⟨M.mq, 0, none⟩))
  | 28 => some (.slice (some ⟨bt, ot, none⟩) M.n M.tc)
  | 29 => some (.int .i64 (k : Int))
  | 30 => some (.pointer (some ⟨bt, ot + k * 9, none⟩))
  | 31 => some (.agg #[.int .u8 g.op, .int .u64 (W g.s 0), .int .u64 (W g.s 1), .int .u64 (W g.s 2), .int .u64 (W g.s 3), .slice kA mm kc, .int .i64 g.lo, .int .i64 g.hi, .string g.nm])
  | 32 => some (.int .i64 (pl : Int))
  | _ => none
set_option linter.unusedVariables false in
def FrGP (M : MC) (F : Nat → Prop) (w : World) (Y1 Y2 : Nat → Prop) (k pl bt ot : Nat) (g : Gd) (kA : Option Addr) (mm kc : Nat) (t : Nat) : Option (Value → World → Prop) :=
  match t with
  | 9 => some (NewQ w)
  | 33 => some (PlO F Y1)
  | 34 => some (PlO F Y2)
  | _ => none
def FrG (M : MC) (F : Nat → Prop) (w : World) (Y1 Y2 : Nat → Prop) (k pl bt ot : Nat) (g : Gd) (kA : Option Addr) (mm kc : Nat) (t : Nat) (v : Value) (u : World) : Prop := (∀ z9, FrGV M F w Y1 Y2 k pl bt ot g kA mm kc t = some z9 → v = z9) ∧ ∀ R, FrGP M F w Y1 Y2 k pl bt ot g kA mm kc t = some R → R v u
set_option linter.unusedVariables false in
def FkGV (M : MC) (k pl q9 b6 : Nat) (vv : Value) (t : Nat) : Option Value :=
  match t with
  | 0 => some (.pointer (some ⟨M.mq, 0, none⟩))
  | 1 => some (.int .i64 (k : Int))
  | 2 => some (.int .i64 (pl : Int))
  | 9 => some (.pointer (some ⟨q9, 0, none⟩))
  | 50 => some (.pointer (some ⟨M.mq, 0, none⟩))
  | 51 => some (.pointer (some ⟨M.mq, 0, none⟩))
  | 52 => some (.pointer (some ⟨M.mq, 3, none⟩))
  | 53 => some (.slice (some ⟨M.kb, 0, none⟩) M.n M.n)
  | 54 => some (.int .i64 (k : Int))
  | 55 => some (.pointer (some ⟨M.kb, k, none⟩))
  | 56 => some (.map (some b6))
  | 57 => some (.int .i64 (pl : Int))
  | 58 => some (vv)
  | _ => none
set_option linter.unusedVariables false in
def FkGP (M : MC) (k pl q9 b6 : Nat) (vv : Value) (t : Nat) : Option (Value → World → Prop) :=
  match t with
  | _ => none
def FkG (M : MC) (k pl q9 b6 : Nat) (vv : Value) (t : Nat) (v : Value) (u : World) : Prop := (∀ z9, FkGV M k pl q9 b6 vv t = some z9 → v = z9) ∧ ∀ R, FkGP M k pl q9 b6 vv t = some R → R v u
set_option maxHeartbeats 2000000 in
theorem from_any {M : MC} (hM : M.Ok) {k : Nat} {g : Gd} {n : Nd} {kA : Option Addr} {mm kc : Nat} (hN : NodeAt M k g n kA) (hin : NodeIn M k g kA mm kc) (hW : WalkC M k g kA mm kc) (F : Nat → Prop) (u : World) (pl : Nat) (hmi : ∃ (cs : List Nat) (ms : List (Option Nat)), MI M F cs ms u) (hfl : ∀ f, F f → f < u.heap.size) (hpl : pl ≤ M.s.size) :
    Calls Tryd.prog 49 #[.pointer (some ⟨M.mq, 0, none⟩), .int .i64 (k : Int), .int .i64 (pl : Int)] u (RetQ M F u (M.R k pl)) := by
  obtain ⟨bt, ot, htA, hbt, hrow⟩ := hin
  have F0 : FS M F u [] zeroP (fun _ => False) u := FS.start ⟨hmi, hfl, zero_pl u, zero_off F, fun j h => h.elim⟩
  have hB := F0.lo
  have hfew := hM.few
  have hpl64 : pl < 64 := by omega
  have hlt := hN.lt
  clear hmi
  go_enter Tryd.func49, Tryd.ntmps49
  go_upto_region 1 with fail
  have F1 := F0.new 58 #[.int .i64 0, .slice none 0 0] (by decide) (by decide)
  generalize u.alloc (.cells #[.int .i64 0, .slice none 0 0] 58) = u1 at *
  obtain ⟨cs, ms, hm⟩ := F1.mi
  have d3 : u1.cell? ⟨M.mq, 3, none⟩ = some (.slice (some ⟨M.kb, 0, none⟩) M.n M.n) := hm.box.at_ rfl
  obtain ⟨x, hx⟩ : ∃ x, ms[k]? = some x := ⟨_, List.getElem?_eq_getElem (by rw [hm.mlen]; exact hlt)⟩
  have dk : u1.cell? ⟨M.kb, k, none⟩ = some (.map x) := hm.known.at_ (by rw [List.getElem?_toArray, List.getElem?_map, hx]; rfl)
  have hki : (k : Int) < (M.n : Int) := by omega
  have HF1 := hidd F1
  have HM1 := hidd hm
  have HXX := hidd hx
  have hz := zero_places
  clear F0 F1 hm hx
  have hnil := look_nil pl hpl64
  have hmkm : ∀ w : World, (Instr.makeMap 94 none).run Tryd.prog w = .ok (.map (some w.heap.size)) (w.alloc (.map #[] 0)) := fun w => rfl
  have heq : ∀ (w : World) (r : Option Nat), (binOp .eql 94 (.map r) (.map none)).run Tryd.prog w = .ok (.bool r.isNone) w := fun w r => run_eql_map_nil w _ _ _ r Tryd.underlying94
  cases x with
  | none =>
    have Z7 := RowA.new u1 58 #[.int .i64 0, .slice none 0 0]
    have F2 := HF1.out.new 58 #[.int .i64 0, .slice none 0 0] (by decide) (by decide)
    have hq7 : u.heap.size < u1.heap.size := HF1.out.r0.lt
    have F3 := (F2.setRow (c' := #[.int .i64 0, .slice none 0 0]) (by omega) (fun x hx => by simp at hx; subst hx; simp; omega) rfl).sub (L' := [(u.heap.size, 58, #[.int .i64 0, .slice none 0 0])]) (fun x hx => by simp at hx ⊢; simp [hx])
    clear F2
    go_upto_region 2 with (refine wpList_store_row rfl 58 (.tmp 7) (.tmp 20) rfl u1.heap.size #[.int .i64 0, .slice none 0 0] rfl rfl 58 #[.int .i64 0, .slice none 0 0] Z7 (pl_info _ _) rfl (ones2 rfl rfl) ?_)
    generalize (u1.alloc (.cells #[.int .i64 0, .slice none 0 0] 58)).setRow u1.heap.size #[.int .i64 0, .slice none 0 0] = u3 at *
    have HF3 := hidd F3
    have hS0 := F3.again
    have HFL := hidd hfl
    clear hfl
    have hfl : ∀ f, F f → f < u3.heap.size := fun f q => Nat.lt_of_lt_of_le (HFL.out f q) F3.keep.size
    have hY1 : ∀ j, oneB pl j = true ↔ j = pl := fun j => by unfold oneB; simp
    have hle : ∀ j, j = pl → j ≤ M.s.size := fun j hj => by omega
    have hY2 : ∀ j, img (M.R k) (fun j => j = pl) j ↔ M.R k pl j := fun j => ⟨fun ⟨i, hi, q⟩ => hi ▸ q, fun q => ⟨pl, rfl, q⟩⟩
    clear F3 d3 dk
    go_upto_region 4 with fail
    refine wp_region_slotsH 12 (by decide) (by kernel_rfl) (by kernel_rfl) (fun _ _ => true) (FS M F u3 [(u.heap.size, 58, #[.int .i64 0, .slice none 0 0])] zeroP (fun _ => False)) (FrG M F u3 (fun j => j = pl) (M.R k pl) k pl bt ot g kA mm kc) (EbM M) (by kernel_rfl) (by kernel_rfl) (by kernel_rfl) (by kernel_rfl) ?_ (hS0.below (bel_drew (Below.refl _ _))) [0, 1, 2] (by kernel_rfl) ?_ ?_ ?_
    · intro t dd v u u' _ hS h hE
      refine ⟨h.1, fun R hR => ?_⟩
      have h2 := h.2 R hR
      unfold FrGP at hR
      split at hR
      · cases hR; exact hS.newQ h2 hE
      · cases hR; exact hS.plO h2 hE
      · cases hR; exact hS.plO h2 hE
      · cases hR
    · intro u _
      refine ⟨⟨_, rfl, ?_⟩, ⟨_, rfl, ?_⟩, ⟨_, rfl, ?_⟩, trivial⟩ <;> exact ⟨fun _ h => Option.some.inj h, fun _ h => no_some h⟩
    · refine ⟨?_, ?_, ?_, ?_, ?_, ?_, ?_, ?_, ?_, ?_, ?_, ?_, trivial⟩
      · intro a u hS hr K hK
        obtain ⟨⟨vl0, e0, g0⟩, -⟩ := hr
        obtain rfl := g0.1 _ rfl
        clear g0
        rw [if_pos (want_none rfl)]
        unfold Oper.wp
        go_simp
        exact hK _ _ ⟨fun _ h => Option.some.inj h, fun _ h => no_some h⟩ hS (eby rfl (Below.refl _ _))
      · intro a u hS hr K hK
        obtain ⟨⟨vl0, e0, g0⟩, -⟩ := hr
        obtain rfl := g0.1 _ rfl
        clear g0
        rw [if_pos (want_none rfl)]
        unfold Oper.wp
        go_simp
        exact hK _ _ ⟨fun _ h => Option.some.inj h, fun _ h => no_some h⟩ hS (eby rfl (Below.refl _ _))
      · intro a u hS hr K hK
        obtain ⟨⟨vl0, e0, g0⟩, -⟩ := hr
        obtain rfl := g0.1 _ rfl
        clear g0
        rw [if_pos (want_none rfl)]
        unfold Oper.wp
        go_simp
        exact hK _ _ ⟨fun _ h => Option.some.inj h, fun _ h => no_some h⟩ hS (eby rfl (Below.refl _ _))
      · intro a u hS hr K hK
        obtain ⟨⟨vl0, e0, g0⟩, -⟩ := hr
        obtain rfl := g0.1 _ rfl
        clear g0
        rw [if_pos (want_none rfl)]
        unfold Oper.wp
        go_simp
        exact hK _ _ ⟨fun _ h => Option.some.inj h, fun _ h => no_some h⟩ hS (eby rfl (Below.refl _ _))
      · intro a u hS hr K hK
        obtain ⟨⟨vl0, e0, g0⟩, -⟩ := hr
        obtain rfl := g0.1 _ rfl
        clear g0
        rw [if_pos (want_none rfl)]
        have d0 : u.cell? ⟨M.mq, 0, none⟩ = some (.slice M.tA M.n M.tc) := hS.mbox.at_ rfl
        rw [htA] at d0
        unfold Oper.wp
        go_simp
        exact hK _ _ ⟨fun _ h => Option.some.inj h, fun _ h => no_some h⟩ hS (eby rfl (Below.refl _ _))
      · intro a u hS hr K hK
        obtain ⟨⟨vl0, e0, g0⟩, -⟩ := hr
        obtain rfl := g0.1 _ rfl
        clear g0
        rw [if_pos (want_none rfl)]
        unfold Oper.wp
        go_simp
        exact hK _ _ ⟨fun _ h => Option.some.inj h, fun _ h => no_some h⟩ hS (eby rfl (Below.refl _ _))
      · intro a u hS hr K hK
        obtain ⟨⟨vl0, e0, g0⟩, ⟨vl1, e1, g1⟩, -⟩ := hr
        obtain rfl := g0.1 _ rfl
        clear g0
        obtain rfl := g1.1 _ rfl
        clear g1
        rw [if_pos (want_none rfl)]
        unfold Oper.wp
        go_simp
        exact hK _ _ ⟨fun _ h => Option.some.inj h, fun _ h => no_some h⟩ hS (eby rfl (Below.refl _ _))
      · intro a u hS hr K hK
        obtain ⟨⟨vl0, e0, g0⟩, -⟩ := hr
        obtain rfl := g0.1 _ rfl
        clear g0
        rw [if_pos (want_none rfl)]
        refine wp_load_mid 43 (.tmp 30) rfl bt (ot + k * 9) (eval_at e0) [.int .u8 g.op, .int .u64 (W g.s 0), .int .u64 (W g.s 1), .int .u64 (W g.s 2), .int .u64 (W g.s 3), .slice kA mm kc, .int .i64 g.lo, .int .i64 g.hi, .string g.nm] _ (FS.row hS hbt hrow) Tryd.underlying43 rfl (nd_info g kA mm kc) ?_
        exact hK _ _ ⟨fun _ h => Option.some.inj h, fun _ h => no_some h⟩ hS (eby rfl (Below.refl _ _))
      · intro a u hS hr K hK
        obtain ⟨⟨vl0, e0, g0⟩, -⟩ := hr
        obtain rfl := g0.1 _ rfl
        clear g0
        rw [if_pos (want_none rfl)]
        unfold Oper.wp
        go_simp
        exact hK _ _ ⟨fun _ h => Option.some.inj h, fun _ h => no_some h⟩ hS (eby rfl (Below.refl _ _))
      · intro a u hS hr K hK
        obtain ⟨⟨vl0, e0, g0⟩, -⟩ := hr
        obtain rfl := g0.1 _ rfl
        clear g0
        rw [if_pos (want_none rfl)]
        unfold Oper.wp
        go_simp
        refine (only_any pl hpl64 u).mono ?_
        rintro e u1 ⟨hb, v1, rfl, hp1, hn1⟩
        exact hK _ _ ⟨fun _ h => no_some h, fun _ h => spec_ok h ⟨⟨_, hp1, hY1⟩, fun b hb2 hf => by have := hn1 b hb2; have := hfl b hf; have := hS.keep.size; omega⟩⟩ (hS.below hb) (eby rfl hb)
      · intro a u hS hr K hK
        obtain ⟨⟨vl0, e0, g0⟩, ⟨vl1, e1, g1⟩, ⟨vl2, e2, g2⟩, -⟩ := hr
        obtain rfl := g0.1 _ rfl
        clear g0
        obtain rfl := g1.1 _ rfl
        clear g1
        replace g2 := g2.2 _ rfl
        rw [if_pos (want_none rfl)]
        unfold Oper.wp
        go_simp
        refine (hW F u _ _ ⟨hS.mi, (fun f hf => Nat.lt_of_lt_of_le (hfl f hf) hS.keep.size), g2.1, g2.2, hle⟩).mono ?_
        rintro e u1 ⟨v1, rfl, hm1, hk1, hp1, ho1⟩
        exact hK _ _ ⟨fun _ h => no_some h, fun _ h => spec_ok h ⟨hp1.congr hY2, ho1⟩⟩ (hS.step hm1 hk1) hk1
      · intro a u hS hr K hK
        rw [if_pos (want_none rfl)]
        unfold Oper.wp
        go_simp
        exact hK _ _ ⟨fun _ h => no_some h, fun _ h => spec_ok h (⟨_, rfl, RowA.new _ _ _, hS.keep.size⟩)⟩ (hS.below ((Below.refl _ _).alloc (Nat.le_refl _) _)) (eby rfl ((Below.refl _ _).alloc (Nat.le_refl _) _))
    intro a u4 hS4 hts hd hkn hf
    obtain ⟨v24, e24, g24⟩ := hf 0 _ 24 (by decide) rfl rfl (fun _ => rfl)
    obtain ⟨v25, e25, g25⟩ := hf 1 _ 25 (by decide) rfl rfl (fun _ => rfl)
    obtain ⟨v26, e26, g26⟩ := hf 2 _ 26 (by decide) rfl rfl (fun _ => rfl)
    obtain ⟨v27, e27, g27⟩ := hf 3 _ 27 (by decide) rfl rfl (fun _ => rfl)
    obtain ⟨v28, e28, g28⟩ := hf 4 _ 28 (by decide) rfl rfl (fun _ => rfl)
    obtain ⟨v29, e29, g29⟩ := hf 5 _ 29 (by decide) rfl rfl (fun _ => rfl)
    obtain ⟨v30, e30, g30⟩ := hf 6 _ 30 (by decide) rfl rfl (fun _ => rfl)
    obtain ⟨v31, e31, g31⟩ := hf 7 _ 31 (by decide) rfl rfl (fun _ => rfl)
    obtain ⟨v32, e32, g32⟩ := hf 8 _ 32 (by decide) rfl rfl (fun _ => rfl)
    obtain ⟨v33, e33, g33⟩ := hf 9 _ 33 (by decide) rfl rfl (fun _ => rfl)
    obtain ⟨v34, e34, g34⟩ := hf 10 _ 34 (by decide) rfl rfl (fun _ => rfl)
    obtain ⟨v9, e9, g9⟩ := hf 11 _ 9 (by decide) rfl rfl (fun _ => rfl)
    have hA := act_putsH [(24, v24), (25, v25), (26, v26), (27, v27), (28, v28), (29, v29), (30, v30), (31, v31), (32, v32), (33, v33), (34, v34), (9, v9)] hts hd hkn (by kernel_rfl) (by simp [e24, e25, e26, e27, e28, e29, e30, e31, e32, e33, e34, e9])
    clear hf hts hd hkn e24 e25 e26 e27 e28 e29 e30 e31 e32 e33 e34 e9
    obtain rfl := g24.1 _ rfl
    clear g24
    obtain rfl := g25.1 _ rfl
    clear g25
    obtain rfl := g26.1 _ rfl
    clear g26
    obtain rfl := g27.1 _ rfl
    clear g27
    obtain rfl := g28.1 _ rfl
    clear g28
    obtain rfl := g29.1 _ rfl
    clear g29
    obtain rfl := g30.1 _ rfl
    clear g30
    obtain rfl := g31.1 _ rfl
    clear g31
    obtain rfl := g32.1 _ rfl
    clear g32
    replace g33 := g33.2 _ rfl
    replace g34 := g34.2 _ rfl
    replace g9 := g9.2 _ rfl
    subst hA
    simp only [List.foldl, List.setIfInBounds_toArray, List.set_cons_zero, List.set_cons_succ]
    simp only [List.drop_succ_cons, List.drop_zero]
    obtain ⟨q9, rfl, R9, hq9⟩ := g9
    obtain ⟨hp34, ho34⟩ := g34
    obtain ⟨A1, n1, c1, rfl⟩ := hp34.form
    have hs3 := HF3.out.keep.size
    have hr6 := HF3.out.r0.lt
    have G1 := ((((HF3.out.chain hS4).turn hp34 ho34).put (x := (q9, 58, #[.int .i64 0, .slice none 0 0])) R9 (show (58 : TypeId) ≠ 3 by decide) (show (58 : TypeId) ≠ 94 by decide)).setRow (c' := #[.int .i64 0, .slice A1 n1 c1]) (by omega) (fun x hx => by simp at hx; subst hx; simp; omega) rfl)
    clear hS4 hS0 hp34 ho34 g33
    go_upto_region 5 with (refine wpList_store_row rfl 58 (.tmp 9) (.tmp 34) rfl q9 #[.int .i64 0, .slice A1 n1 c1] rfl rfl 58 #[.int .i64 0, .slice none 0 0] R9 (pl_info _ _) rfl (ones2 rfl rfl) ?_)
    rw [put_none]
    generalize u4.setRow q9 #[.int .i64 0, .slice A1 n1 c1] = u5 at *
    clear R9
    obtain ⟨cs5, ms5, hm5⟩ := G1.mi
    have d35 : u5.cell? ⟨M.mq, 3, none⟩ = some (.slice (some ⟨M.kb, 0, none⟩) M.n M.n) := hm5.box.at_ rfl
    obtain ⟨x5, hx5⟩ : ∃ x, ms5[k]? = some x := ⟨_, List.getElem?_eq_getElem (by rw [hm5.mlen]; exact hlt)⟩
    have dk5 : u5.cell? ⟨M.kb, k, none⟩ = some (.map x5) := hm5.known.at_ (by rw [List.getElem?_toArray, List.getElem?_map, hx5]; rfl)
    cases x5 with
    | none =>
      have hmk := mi_make hM hm5 hx5
      have ht5 : (u5.alloc (.map #[] 0)).frozen? ⟨M.kb, k, none⟩ = false := (hm5.known.alloc _).thawed _
      have dk6 : (u5.alloc (.map #[] 0)).cell? ⟨M.kb, k, none⟩ = some (.map none) := (hm5.known.alloc _).at_ (by rw [List.getElem?_toArray, List.getElem?_map, hx5]; rfl)
      have dm5 : (u5.alloc (.map #[] 0)).cell? ⟨M.mq, 3, none⟩ = some (.slice (some ⟨M.kb, 0, none⟩) M.n M.n) := (hm5.box.alloc _).at_ rfl
      have G6 := G1.step ⟨_, _, hmk.1⟩ hmk.2
      have hm6 := hmk.1
      have hx6 : (ms5.set k (some u5.heap.size))[k]? = some (some u5.heap.size) := List.getElem?_set_self (List.getElem?_eq_some_iff.1 hx5).1
      clear hmk hx5 hm5 G1
      go_upto_region 7 with fail
      generalize hb6 : u5.heap.size = b6 at *
      clear hb6
      generalize (u5.alloc (.map #[] 0)).setCell ⟨M.kb, k, none⟩ (.map (some b6)) = u6 at *
      clear ht5 d35 dk5 dm5 dk6
      have HM6 := hidd hm6
      have HG6 := hidd G6
      have hk6 : ∀ u', Below u6.heap.size u6 u' → u'.cell? ⟨M.kb, k, none⟩ = some (.map (some b6)) := fun u' hb => (hm6.known.below hb hm6.known.lt).at_ (by rw [List.getElem?_toArray, List.getElem?_map, hx6]; rfl)
      have HX6 := hidd hx6
      clear hm6 G6 hx6
      refine wp_region_slotsH 9 (by decide) (by kernel_rfl) (by kernel_rfl) (fun _ _ => true) (Below u6.heap.size u6) (FkG M k pl q9 b6 (.agg #[.int .i64 0, .slice A1 n1 c1])) EbL (by kernel_rfl) (by kernel_rfl) (by kernel_rfl) (by kernel_rfl) ?_ (bel_drew (Below.refl _ _)) [0, 1, 2, 9] (by kernel_rfl) ?_ ?_ ?_
      · intro t dd v u u' _ _ h hE
        refine ⟨h.1, fun R hR => ?_⟩
        unfold FkGP at hR
        cases hR
      · intro u _
        refine ⟨⟨_, rfl, ?_⟩, ⟨_, rfl, ?_⟩, ⟨_, rfl, ?_⟩, ⟨_, rfl, ?_⟩, trivial⟩ <;> exact ⟨fun _ h => Option.some.inj h, fun _ h => no_some h⟩
      · refine ⟨?_, ?_, ?_, ?_, ?_, ?_, ?_, ?_, ?_, trivial⟩
        · intro a u hS hr K hK
          obtain ⟨⟨vl0, e0, g0⟩, -⟩ := hr
          obtain rfl := g0.1 _ rfl
          clear g0
          rw [if_pos (want_none rfl)]
          unfold Oper.wp
          go_simp
          exact hK _ _ ⟨fun _ h => Option.some.inj h, fun _ h => no_some h⟩ hS (eby rfl (Below.refl _ _))
        · intro a u hS hr K hK
          obtain ⟨⟨vl0, e0, g0⟩, -⟩ := hr
          obtain rfl := g0.1 _ rfl
          clear g0
          rw [if_pos (want_none rfl)]
          unfold Oper.wp
          go_simp
          exact hK _ _ ⟨fun _ h => Option.some.inj h, fun _ h => no_some h⟩ hS (eby rfl (Below.refl _ _))
        · intro a u hS hr K hK
          obtain ⟨⟨vl0, e0, g0⟩, -⟩ := hr
          obtain rfl := g0.1 _ rfl
          clear g0
          rw [if_pos (want_none rfl)]
          unfold Oper.wp
          go_simp
          exact hK _ _ ⟨fun _ h => Option.some.inj h, fun _ h => no_some h⟩ hS (eby rfl (Below.refl _ _))
        · intro a u hS hr K hK
          obtain ⟨⟨vl0, e0, g0⟩, -⟩ := hr
          obtain rfl := g0.1 _ rfl
          clear g0
          rw [if_pos (want_none rfl)]
          have d0 := (HM6.out.box.below hS HM6.out.box.lt).at_ (k := 3) rfl
          unfold Oper.wp
          go_simp
          exact hK _ _ ⟨fun _ h => Option.some.inj h, fun _ h => no_some h⟩ hS (eby rfl (Below.refl _ _))
        · intro a u hS hr K hK
          obtain ⟨⟨vl0, e0, g0⟩, -⟩ := hr
          obtain rfl := g0.1 _ rfl
          clear g0
          rw [if_pos (want_none rfl)]
          unfold Oper.wp
          go_simp
          exact hK _ _ ⟨fun _ h => Option.some.inj h, fun _ h => no_some h⟩ hS (eby rfl (Below.refl _ _))
        · intro a u hS hr K hK
          obtain ⟨⟨vl0, e0, g0⟩, ⟨vl1, e1, g1⟩, -⟩ := hr
          obtain rfl := g0.1 _ rfl
          clear g0
          obtain rfl := g1.1 _ rfl
          clear g1
          rw [if_pos (want_none rfl)]
          unfold Oper.wp
          go_simp
          exact hK _ _ ⟨fun _ h => Option.some.inj h, fun _ h => no_some h⟩ hS (eby rfl (Below.refl _ _))
        · intro a u hS hr K hK
          obtain ⟨⟨vl0, e0, g0⟩, -⟩ := hr
          obtain rfl := g0.1 _ rfl
          clear g0
          rw [if_pos (want_none rfl)]
          have d0 := hk6 u hS
          unfold Oper.wp
          go_simp
          exact hK _ _ ⟨fun _ h => Option.some.inj h, fun _ h => no_some h⟩ hS (eby rfl (Below.refl _ _))
        · intro a u hS hr K hK
          obtain ⟨⟨vl0, e0, g0⟩, -⟩ := hr
          obtain rfl := g0.1 _ rfl
          clear g0
          rw [if_pos (want_none rfl)]
          unfold Oper.wp
          go_simp
          exact hK _ _ ⟨fun _ h => Option.some.inj h, fun _ h => no_some h⟩ hS (eby rfl (Below.refl _ _))
        · intro a u hS hr K hK
          obtain ⟨⟨vl0, e0, g0⟩, -⟩ := hr
          obtain rfl := g0.1 _ rfl
          clear g0
          rw [if_pos (want_none rfl)]
          have r0 := HG6.out.r0.below hS HG6.out.r0.lt
          have d0 := r0.at_ (k := 0) rfl
          have d1 := r0.at_ (k := 1) rfl
          unfold Oper.wp
          go_simp
          exact hK _ _ ⟨fun _ h => Option.some.inj h, fun _ h => no_some h⟩ hS (eby rfl (Below.refl _ _))
      intro a u7 hS7 hts hd hkn hf
      obtain ⟨v50, e50, g50⟩ := hf 0 _ 50 (by decide) rfl rfl (fun _ => rfl)
      obtain ⟨v51, e51, g51⟩ := hf 1 _ 51 (by decide) rfl rfl (fun _ => rfl)
      obtain ⟨v52, e52, g52⟩ := hf 2 _ 52 (by decide) rfl rfl (fun _ => rfl)
      obtain ⟨v53, e53, g53⟩ := hf 3 _ 53 (by decide) rfl rfl (fun _ => rfl)
      obtain ⟨v54, e54, g54⟩ := hf 4 _ 54 (by decide) rfl rfl (fun _ => rfl)
      obtain ⟨v55, e55, g55⟩ := hf 5 _ 55 (by decide) rfl rfl (fun _ => rfl)
      obtain ⟨v56, e56, g56⟩ := hf 6 _ 56 (by decide) rfl rfl (fun _ => rfl)
      obtain ⟨v57, e57, g57⟩ := hf 7 _ 57 (by decide) rfl rfl (fun _ => rfl)
      obtain ⟨v58, e58, g58⟩ := hf 8 _ 58 (by decide) rfl rfl (fun _ => rfl)
      have hA := act_putsH [(50, v50), (51, v51), (52, v52), (53, v53), (54, v54), (55, v55), (56, v56), (57, v57), (58, v58)] hts hd hkn (by kernel_rfl) (by simp [e50, e51, e52, e53, e54, e55, e56, e57, e58])
      clear hf hts hd hkn e50 e51 e52 e53 e54 e55 e56 e57 e58
      obtain rfl := g50.1 _ rfl
      clear g50
      obtain rfl := g51.1 _ rfl
      clear g51
      obtain rfl := g52.1 _ rfl
      clear g52
      obtain rfl := g53.1 _ rfl
      clear g53
      obtain rfl := g54.1 _ rfl
      clear g54
      obtain rfl := g55.1 _ rfl
      clear g55
      obtain rfl := g56.1 _ rfl
      clear g56
      obtain rfl := g57.1 _ rfl
      clear g57
      obtain rfl := g58.1 _ rfl
      clear g58
      subst hA
      simp only [List.foldl, List.setIfInBounds_toArray, List.set_cons_zero, List.set_cons_succ]
      simp only [List.drop_succ_cons, List.drop_zero]
      have hm7 := HM6.out.below hS7
      obtain ⟨hb7, f7, hf7, hst7⟩ := hm7.kept k b6 HX6.out
      have HG7 := hidd (HG6.out.below hS7)
      have HST := hidd hst7
      have HM7 := hidd hm7
      clear hm7 hst7 hk6 hS7
      go_wp2_with (at_mapUpdate; refine wp_mputI 94 58 rfl rfl Tryd.underlying94 b6 f7 rfl hf7 pl (.agg #[.int .i64 0, .slice A1 n1 c1]) rfl rfl hpl64 ?_; intro u8 hm8 ht8; refine Hid.out ?_)
      have hpt := mi_put hM HM7.out HX6.out HST.out HG7.out.pl HG7.out.off ht8 hm8
      have G8 := HG7.out.step ⟨_, _, hpt.1⟩ hpt.2
      have R6 := G8.r1
      have rr9 := pl_range G8.r0
      have hq9u : u.heap.size ≠ q9 := by omega
      have HFIN : Hid (RetQ M F u (M.R k pl) (.returned (.agg #[.int .i64 0, .slice A1 n1 c1])) (u8.setRow u.heap.size #[.int .i64 0, .slice A1 n1 c1])) := FS.done1 (G8.sub (L' := [(u.heap.size, 58, #[.int .i64 0, .slice none 0 0])]) (fun x hx => by simp at hx ⊢; simp [hx])) (Nat.le_refl _) (fun x hx => by cases hx) rfl (fun j => Iff.rfl)
      have HRF := hidd (R6.row #[.int .i64 0, .slice A1 n1 c1])
      clear hpt G8 hm8 ht8 hf7
      refine Lib.hid ?_
      go_wp2_with (first
        | refine wpList_load_mid rfl 58 (.tmp 9) rfl q9 0 rfl [.int .i64 0, .slice A1 n1 c1] _ rr9 Tryd.underlying58 rfl (pl_info _ _) ?_
        | refine wpList_store_row rfl 58 (.tmp 6) (.tmp 59) rfl u.heap.size #[.int .i64 0, .slice A1 n1 c1] rfl rfl 58 #[.int .i64 0, .slice none 0 0] R6 (pl_info _ _) rfl (ones2 rfl rfl) ?_)
      exact ret_places Tryd.results49 rfl HRF.out rfl HFIN.out
    | some b6 =>
      have G6 := G1
      have hm6 := hm5
      have hx6 := hx5
      clear G1 hm5 hx5
      go_upto_region 7 with fail
      clear d35 dk5
      obtain ⟨u6, hu6⟩ : ∃ u6, u5 = u6 := ⟨_, rfl⟩
      subst hu6
      generalize u5 = u6 at *
      have HM6 := hidd hm6
      have HG6 := hidd G6
      have hk6 : ∀ u', Below u6.heap.size u6 u' → u'.cell? ⟨M.kb, k, none⟩ = some (.map (some b6)) := fun u' hb => (hm6.known.below hb hm6.known.lt).at_ (by rw [List.getElem?_toArray, List.getElem?_map, hx6]; rfl)
      have HX6 := hidd hx6
      clear hm6 G6 hx6
      refine wp_region_slotsH 9 (by decide) (by kernel_rfl) (by kernel_rfl) (fun _ _ => true) (Below u6.heap.size u6) (FkG M k pl q9 b6 (.agg #[.int .i64 0, .slice A1 n1 c1])) EbL (by kernel_rfl) (by kernel_rfl) (by kernel_rfl) (by kernel_rfl) ?_ (bel_drew (Below.refl _ _)) [0, 1, 2, 9] (by kernel_rfl) ?_ ?_ ?_
      · intro t dd v u u' _ _ h hE
        refine ⟨h.1, fun R hR => ?_⟩
        unfold FkGP at hR
        cases hR
      · intro u _
        refine ⟨⟨_, rfl, ?_⟩, ⟨_, rfl, ?_⟩, ⟨_, rfl, ?_⟩, ⟨_, rfl, ?_⟩, trivial⟩ <;> exact ⟨fun _ h => Option.some.inj h, fun _ h => no_some h⟩
      · refine ⟨?_, ?_, ?_, ?_, ?_, ?_, ?_, ?_, ?_, trivial⟩
        · intro a u hS hr K hK
          obtain ⟨⟨vl0, e0, g0⟩, -⟩ := hr
          obtain rfl := g0.1 _ rfl
          clear g0
          rw [if_pos (want_none rfl)]
          unfold Oper.wp
          go_simp
          exact hK _ _ ⟨fun _ h => Option.some.inj h, fun _ h => no_some h⟩ hS (eby rfl (Below.refl _ _))
        · intro a u hS hr K hK
          obtain ⟨⟨vl0, e0, g0⟩, -⟩ := hr
          obtain rfl := g0.1 _ rfl
          clear g0
          rw [if_pos (want_none rfl)]
          unfold Oper.wp
          go_simp
          exact hK _ _ ⟨fun _ h => Option.some.inj h, fun _ h => no_some h⟩ hS (eby rfl (Below.refl _ _))
        · intro a u hS hr K hK
          obtain ⟨⟨vl0, e0, g0⟩, -⟩ := hr
          obtain rfl := g0.1 _ rfl
          clear g0
          rw [if_pos (want_none rfl)]
          unfold Oper.wp
          go_simp
          exact hK _ _ ⟨fun _ h => Option.some.inj h, fun _ h => no_some h⟩ hS (eby rfl (Below.refl _ _))
        · intro a u hS hr K hK
          obtain ⟨⟨vl0, e0, g0⟩, -⟩ := hr
          obtain rfl := g0.1 _ rfl
          clear g0
          rw [if_pos (want_none rfl)]
          have d0 := (HM6.out.box.below hS HM6.out.box.lt).at_ (k := 3) rfl
          unfold Oper.wp
          go_simp
          exact hK _ _ ⟨fun _ h => Option.some.inj h, fun _ h => no_some h⟩ hS (eby rfl (Below.refl _ _))
        · intro a u hS hr K hK
          obtain ⟨⟨vl0, e0, g0⟩, -⟩ := hr
          obtain rfl := g0.1 _ rfl
          clear g0
          rw [if_pos (want_none rfl)]
          unfold Oper.wp
          go_simp
          exact hK _ _ ⟨fun _ h => Option.some.inj h, fun _ h => no_some h⟩ hS (eby rfl (Below.refl _ _))
        · intro a u hS hr K hK
          obtain ⟨⟨vl0, e0, g0⟩, ⟨vl1, e1, g1⟩, -⟩ := hr
          obtain rfl := g0.1 _ rfl
          clear g0
          obtain rfl := g1.1 _ rfl
          clear g1
          rw [if_pos (want_none rfl)]
          unfold Oper.wp
          go_simp
          exact hK _ _ ⟨fun _ h => Option.some.inj h, fun _ h => no_some h⟩ hS (eby rfl (Below.refl _ _))
        · intro a u hS hr K hK
          obtain ⟨⟨vl0, e0, g0⟩, -⟩ := hr
          obtain rfl := g0.1 _ rfl
          clear g0
          rw [if_pos (want_none rfl)]
          have d0 := hk6 u hS
          unfold Oper.wp
          go_simp
          exact hK _ _ ⟨fun _ h => Option.some.inj h, fun _ h => no_some h⟩ hS (eby rfl (Below.refl _ _))
        · intro a u hS hr K hK
          obtain ⟨⟨vl0, e0, g0⟩, -⟩ := hr
          obtain rfl := g0.1 _ rfl
          clear g0
          rw [if_pos (want_none rfl)]
          unfold Oper.wp
          go_simp
          exact hK _ _ ⟨fun _ h => Option.some.inj h, fun _ h => no_some h⟩ hS (eby rfl (Below.refl _ _))
        · intro a u hS hr K hK
          obtain ⟨⟨vl0, e0, g0⟩, -⟩ := hr
          obtain rfl := g0.1 _ rfl
          clear g0
          rw [if_pos (want_none rfl)]
          have r0 := HG6.out.r0.below hS HG6.out.r0.lt
          have d0 := r0.at_ (k := 0) rfl
          have d1 := r0.at_ (k := 1) rfl
          unfold Oper.wp
          go_simp
          exact hK _ _ ⟨fun _ h => Option.some.inj h, fun _ h => no_some h⟩ hS (eby rfl (Below.refl _ _))
      intro a u7 hS7 hts hd hkn hf
      obtain ⟨v50, e50, g50⟩ := hf 0 _ 50 (by decide) rfl rfl (fun _ => rfl)
      obtain ⟨v51, e51, g51⟩ := hf 1 _ 51 (by decide) rfl rfl (fun _ => rfl)
      obtain ⟨v52, e52, g52⟩ := hf 2 _ 52 (by decide) rfl rfl (fun _ => rfl)
      obtain ⟨v53, e53, g53⟩ := hf 3 _ 53 (by decide) rfl rfl (fun _ => rfl)
      obtain ⟨v54, e54, g54⟩ := hf 4 _ 54 (by decide) rfl rfl (fun _ => rfl)
      obtain ⟨v55, e55, g55⟩ := hf 5 _ 55 (by decide) rfl rfl (fun _ => rfl)
      obtain ⟨v56, e56, g56⟩ := hf 6 _ 56 (by decide) rfl rfl (fun _ => rfl)
      obtain ⟨v57, e57, g57⟩ := hf 7 _ 57 (by decide) rfl rfl (fun _ => rfl)
      obtain ⟨v58, e58, g58⟩ := hf 8 _ 58 (by decide) rfl rfl (fun _ => rfl)
      have hA := act_putsH [(50, v50), (51, v51), (52, v52), (53, v53), (54, v54), (55, v55), (56, v56), (57, v57), (58, v58)] hts hd hkn (by kernel_rfl) (by simp [e50, e51, e52, e53, e54, e55, e56, e57, e58])
      clear hf hts hd hkn e50 e51 e52 e53 e54 e55 e56 e57 e58
      obtain rfl := g50.1 _ rfl
      clear g50
      obtain rfl := g51.1 _ rfl
      clear g51
      obtain rfl := g52.1 _ rfl
      clear g52
      obtain rfl := g53.1 _ rfl
      clear g53
      obtain rfl := g54.1 _ rfl
      clear g54
      obtain rfl := g55.1 _ rfl
      clear g55
      obtain rfl := g56.1 _ rfl
      clear g56
      obtain rfl := g57.1 _ rfl
      clear g57
      obtain rfl := g58.1 _ rfl
      clear g58
      subst hA
      simp only [List.foldl, List.setIfInBounds_toArray, List.set_cons_zero, List.set_cons_succ]
      simp only [List.drop_succ_cons, List.drop_zero]
      have hm7 := HM6.out.below hS7
      obtain ⟨hb7, f7, hf7, hst7⟩ := hm7.kept k b6 HX6.out
      have HG7 := hidd (HG6.out.below hS7)
      have HST := hidd hst7
      have HM7 := hidd hm7
      clear hm7 hst7 hk6 hS7
      go_wp2_with (at_mapUpdate; refine wp_mputI 94 58 rfl rfl Tryd.underlying94 b6 f7 rfl hf7 pl (.agg #[.int .i64 0, .slice A1 n1 c1]) rfl rfl hpl64 ?_; intro u8 hm8 ht8; refine Hid.out ?_)
      have hpt := mi_put hM HM7.out HX6.out HST.out HG7.out.pl HG7.out.off ht8 hm8
      have G8 := HG7.out.step ⟨_, _, hpt.1⟩ hpt.2
      have R6 := G8.r1
      have rr9 := pl_range G8.r0
      have hq9u : u.heap.size ≠ q9 := by omega
      have HFIN : Hid (RetQ M F u (M.R k pl) (.returned (.agg #[.int .i64 0, .slice A1 n1 c1])) (u8.setRow u.heap.size #[.int .i64 0, .slice A1 n1 c1])) := FS.done1 (G8.sub (L' := [(u.heap.size, 58, #[.int .i64 0, .slice none 0 0])]) (fun x hx => by simp at hx ⊢; simp [hx])) (Nat.le_refl _) (fun x hx => by cases hx) rfl (fun j => Iff.rfl)
      have HRF := hidd (R6.row #[.int .i64 0, .slice A1 n1 c1])
      clear hpt G8 hm8 ht8 hf7
      refine Lib.hid ?_
      go_wp2_with (first
        | refine wpList_load_mid rfl 58 (.tmp 9) rfl q9 0 rfl [.int .i64 0, .slice A1 n1 c1] _ rr9 Tryd.underlying58 rfl (pl_info _ _) ?_
        | refine wpList_store_row rfl 58 (.tmp 6) (.tmp 59) rfl u.heap.size #[.int .i64 0, .slice A1 n1 c1] rfl rfl 58 #[.int .i64 0, .slice none 0 0] R6 (pl_info _ _) rfl (ones2 rfl rfl) ?_)
      exact ret_places Tryd.results49 rfl HRF.out rfl HFIN.out
  | some b =>
    obtain ⟨hbB, f, hf, hst⟩ := HM1.out.kept k b HXX.out
    cases hfp : f pl with
    | some v0 =>
      obtain ⟨hp0, ho0⟩ := hst pl v0 hfp
      obtain ⟨A9, n9, c9, rfl⟩ := hp0.form
      have Z7 := RowA.new u1 58 #[.int .i64 0, .slice none 0 0]
      have F2 := (HF1.out.turn hp0 ho0).new 58 #[.int .i64 0, .slice none 0 0] (by decide) (by decide)
      have hq7 : u.heap.size < u1.heap.size := HF1.out.r0.lt
      have F3 := F2.setRow (c' := #[.int .i64 0, .slice A9 n9 c9]) (by omega) (fun x hx => by simp at hx; subst hx; simp; omega) rfl
      clear F2 hst
      go_upto_region 2 with (first
        | (at_lookup; refine wp_lookI 94 58 rfl rfl Tryd.underlying94 (hz _) b f rfl hf pl rfl hpl64 ?_; rw [hfp])
        | refine wpList_store_row rfl 58 (.tmp 7) (.tmp 20) rfl u1.heap.size #[.int .i64 0, .slice A9 n9 c9] rfl rfl 58 #[.int .i64 0, .slice none 0 0] Z7 (pl_info _ _) rfl (ones2 rfl rfl) ?_)
      generalize (u1.alloc (.cells #[.int .i64 0, .slice none 0 0] 58)).setRow u1.heap.size #[.int .i64 0, .slice A9 n9 c9] = u3 at *
      have R6 := F3.r1
      have rr7 := pl_range F3.r0
      have HFIN : Hid (RetQ M F u (M.R k pl) (.returned (.agg #[.int .i64 0, .slice A9 n9 c9])) (u3.setRow u.heap.size #[.int .i64 0, .slice A9 n9 c9])) := FS.done1 (F3.sub (L' := [(u.heap.size, 58, #[.int .i64 0, .slice none 0 0])]) (fun x hx => by simp at hx ⊢; simp [hx])) (Nat.le_refl _) (fun x hx => by cases hx) rfl (fun j => Iff.rfl)
      have HRF := hidd (R6.row #[.int .i64 0, .slice A9 n9 c9])
      clear F3 hf hp0 ho0
      go_wp2_with (first
        | refine wpList_load_mid rfl 58 (.tmp 7) rfl u1.heap.size 0 rfl [.int .i64 0, .slice A9 n9 c9] _ rr7 Tryd.underlying58 rfl (pl_info _ _) ?_
        | refine wpList_store_row rfl 58 (.tmp 6) (.tmp 23) rfl u.heap.size #[.int .i64 0, .slice A9 n9 c9] rfl rfl 58 #[.int .i64 0, .slice none 0 0] R6 (pl_info _ _) rfl (ones2 rfl rfl) ?_)
      exact ret_places Tryd.results49 rfl HRF.out rfl HFIN.out
    | none =>
      have Z7 := RowA.new u1 58 #[.int .i64 0, .slice none 0 0]
      have F2 := HF1.out.new 58 #[.int .i64 0, .slice none 0 0] (by decide) (by decide)
      have hq7 : u.heap.size < u1.heap.size := HF1.out.r0.lt
      have F3 := (F2.setRow (c' := #[.int .i64 0, .slice none 0 0]) (by omega) (fun x hx => by simp at hx; subst hx; simp; omega) rfl).sub (L' := [(u.heap.size, 58, #[.int .i64 0, .slice none 0 0])]) (fun x hx => by simp at hx ⊢; simp [hx])
      clear F2
      go_upto_region 2 with (first
        | (at_lookup; refine wp_lookI 94 58 rfl rfl Tryd.underlying94 (hz _) b f rfl hf pl rfl hpl64 ?_; rw [hfp])
        | refine wpList_store_row rfl 58 (.tmp 7) (.tmp 20) rfl u1.heap.size #[.int .i64 0, .slice none 0 0] rfl rfl 58 #[.int .i64 0, .slice none 0 0] Z7 (pl_info _ _) rfl (ones2 rfl rfl) ?_)
      generalize (u1.alloc (.cells #[.int .i64 0, .slice none 0 0] 58)).setRow u1.heap.size #[.int .i64 0, .slice none 0 0] = u3 at *
      have HF3 := hidd F3
      have hS0 := F3.again
      have HFL := hidd hfl
      clear hfl
      have hfl : ∀ f, F f → f < u3.heap.size := fun f q => Nat.lt_of_lt_of_le (HFL.out f q) F3.keep.size
      have hY1 : ∀ j, oneB pl j = true ↔ j = pl := fun j => by unfold oneB; simp
      have hle : ∀ j, j = pl → j ≤ M.s.size := fun j hj => by omega
      have hY2 : ∀ j, img (M.R k) (fun j => j = pl) j ↔ M.R k pl j := fun j => ⟨fun ⟨i, hi, q⟩ => hi ▸ q, fun q => ⟨pl, rfl, q⟩⟩
      clear F3 d3 dk
      go_upto_region 4 with fail
      refine wp_region_slotsH 12 (by decide) (by kernel_rfl) (by kernel_rfl) (fun _ _ => true) (FS M F u3 [(u.heap.size, 58, #[.int .i64 0, .slice none 0 0])] zeroP (fun _ => False)) (FrG M F u3 (fun j => j = pl) (M.R k pl) k pl bt ot g kA mm kc) (EbM M) (by kernel_rfl) (by kernel_rfl) (by kernel_rfl) (by kernel_rfl) ?_ (hS0.below (bel_drew (Below.refl _ _))) [0, 1, 2] (by kernel_rfl) ?_ ?_ ?_
      · intro t dd v u u' _ hS h hE
        refine ⟨h.1, fun R hR => ?_⟩
        have h2 := h.2 R hR
        unfold FrGP at hR
        split at hR
        · cases hR; exact hS.newQ h2 hE
        · cases hR; exact hS.plO h2 hE
        · cases hR; exact hS.plO h2 hE
        · cases hR
      · intro u _
        refine ⟨⟨_, rfl, ?_⟩, ⟨_, rfl, ?_⟩, ⟨_, rfl, ?_⟩, trivial⟩ <;> exact ⟨fun _ h => Option.some.inj h, fun _ h => no_some h⟩
      · refine ⟨?_, ?_, ?_, ?_, ?_, ?_, ?_, ?_, ?_, ?_, ?_, ?_, trivial⟩
        · intro a u hS hr K hK
          obtain ⟨⟨vl0, e0, g0⟩, -⟩ := hr
          obtain rfl := g0.1 _ rfl
          clear g0
          rw [if_pos (want_none rfl)]
          unfold Oper.wp
          go_simp
          exact hK _ _ ⟨fun _ h => Option.some.inj h, fun _ h => no_some h⟩ hS (eby rfl (Below.refl _ _))
        · intro a u hS hr K hK
          obtain ⟨⟨vl0, e0, g0⟩, -⟩ := hr
          obtain rfl := g0.1 _ rfl
          clear g0
          rw [if_pos (want_none rfl)]
          unfold Oper.wp
          go_simp
          exact hK _ _ ⟨fun _ h => Option.some.inj h, fun _ h => no_some h⟩ hS (eby rfl (Below.refl _ _))
        · intro a u hS hr K hK
          obtain ⟨⟨vl0, e0, g0⟩, -⟩ := hr
          obtain rfl := g0.1 _ rfl
          clear g0
          rw [if_pos (want_none rfl)]
          unfold Oper.wp
          go_simp
          exact hK _ _ ⟨fun _ h => Option.some.inj h, fun _ h => no_some h⟩ hS (eby rfl (Below.refl _ _))
        · intro a u hS hr K hK
          obtain ⟨⟨vl0, e0, g0⟩, -⟩ := hr
          obtain rfl := g0.1 _ rfl
          clear g0
          rw [if_pos (want_none rfl)]
          unfold Oper.wp
          go_simp
          exact hK _ _ ⟨fun _ h => Option.some.inj h, fun _ h => no_some h⟩ hS (eby rfl (Below.refl _ _))
        · intro a u hS hr K hK
          obtain ⟨⟨vl0, e0, g0⟩, -⟩ := hr
          obtain rfl := g0.1 _ rfl
          clear g0
          rw [if_pos (want_none rfl)]
          have d0 : u.cell? ⟨M.mq, 0, none⟩ = some (.slice M.tA M.n M.tc) := hS.mbox.at_ rfl
          rw [htA] at d0
          unfold Oper.wp
          go_simp
          exact hK _ _ ⟨fun _ h => Option.some.inj h, fun _ h => no_some h⟩ hS (eby rfl (Below.refl _ _))
        · intro a u hS hr K hK
          obtain ⟨⟨vl0, e0, g0⟩, -⟩ := hr
          obtain rfl := g0.1 _ rfl
          clear g0
          rw [if_pos (want_none rfl)]
          unfold Oper.wp
          go_simp
          exact hK _ _ ⟨fun _ h => Option.some.inj h, fun _ h => no_some h⟩ hS (eby rfl (Below.refl _ _))
        · intro a u hS hr K hK
          obtain ⟨⟨vl0, e0, g0⟩, ⟨vl1, e1, g1⟩, -⟩ := hr
          obtain rfl := g0.1 _ rfl
          clear g0
          obtain rfl := g1.1 _ rfl
          clear g1
          rw [if_pos (want_none rfl)]
          unfold Oper.wp
          go_simp
          exact hK _ _ ⟨fun _ h => Option.some.inj h, fun _ h => no_some h⟩ hS (eby rfl (Below.refl _ _))
        · intro a u hS hr K hK
          obtain ⟨⟨vl0, e0, g0⟩, -⟩ := hr
          obtain rfl := g0.1 _ rfl
          clear g0
          rw [if_pos (want_none rfl)]
          refine wp_load_mid 43 (.tmp 30) rfl bt (ot + k * 9) (eval_at e0) [.int .u8 g.op, .int .u64 (W g.s 0), .int .u64 (W g.s 1), .int .u64 (W g.s 2), .int .u64 (W g.s 3), .slice kA mm kc, .int .i64 g.lo, .int .i64 g.hi, .string g.nm] _ (FS.row hS hbt hrow) Tryd.underlying43 rfl (nd_info g kA mm kc) ?_
          exact hK _ _ ⟨fun _ h => Option.some.inj h, fun _ h => no_some h⟩ hS (eby rfl (Below.refl _ _))
        · intro a u hS hr K hK
          obtain ⟨⟨vl0, e0, g0⟩, -⟩ := hr
          obtain rfl := g0.1 _ rfl
          clear g0
          rw [if_pos (want_none rfl)]
          unfold Oper.wp
          go_simp
          exact hK _ _ ⟨fun _ h => Option.some.inj h, fun _ h => no_some h⟩ hS (eby rfl (Below.refl _ _))
        · intro a u hS hr K hK
          obtain ⟨⟨vl0, e0, g0⟩, -⟩ := hr
          obtain rfl := g0.1 _ rfl
          clear g0
          rw [if_pos (want_none rfl)]
          unfold Oper.wp
          go_simp
          refine (only_any pl hpl64 u).mono ?_
          rintro e u1 ⟨hb, v1, rfl, hp1, hn1⟩
          exact hK _ _ ⟨fun _ h => no_some h, fun _ h => spec_ok h ⟨⟨_, hp1, hY1⟩, fun b hb2 hf => by have := hn1 b hb2; have := hfl b hf; have := hS.keep.size; omega⟩⟩ (hS.below hb) (eby rfl hb)
        · intro a u hS hr K hK
          obtain ⟨⟨vl0, e0, g0⟩, ⟨vl1, e1, g1⟩, ⟨vl2, e2, g2⟩, -⟩ := hr
          obtain rfl := g0.1 _ rfl
          clear g0
          obtain rfl := g1.1 _ rfl
          clear g1
          replace g2 := g2.2 _ rfl
          rw [if_pos (want_none rfl)]
          unfold Oper.wp
          go_simp
          refine (hW F u _ _ ⟨hS.mi, (fun f hf => Nat.lt_of_lt_of_le (hfl f hf) hS.keep.size), g2.1, g2.2, hle⟩).mono ?_
          rintro e u1 ⟨v1, rfl, hm1, hk1, hp1, ho1⟩
          exact hK _ _ ⟨fun _ h => no_some h, fun _ h => spec_ok h ⟨hp1.congr hY2, ho1⟩⟩ (hS.step hm1 hk1) hk1
        · intro a u hS hr K hK
          rw [if_pos (want_none rfl)]
          unfold Oper.wp
          go_simp
          exact hK _ _ ⟨fun _ h => no_some h, fun _ h => spec_ok h (⟨_, rfl, RowA.new _ _ _, hS.keep.size⟩)⟩ (hS.below ((Below.refl _ _).alloc (Nat.le_refl _) _)) (eby rfl ((Below.refl _ _).alloc (Nat.le_refl _) _))
      intro a u4 hS4 hts hd hkn hf
      obtain ⟨v24, e24, g24⟩ := hf 0 _ 24 (by decide) rfl rfl (fun _ => rfl)
      obtain ⟨v25, e25, g25⟩ := hf 1 _ 25 (by decide) rfl rfl (fun _ => rfl)
      obtain ⟨v26, e26, g26⟩ := hf 2 _ 26 (by decide) rfl rfl (fun _ => rfl)
      obtain ⟨v27, e27, g27⟩ := hf 3 _ 27 (by decide) rfl rfl (fun _ => rfl)
      obtain ⟨v28, e28, g28⟩ := hf 4 _ 28 (by decide) rfl rfl (fun _ => rfl)
      obtain ⟨v29, e29, g29⟩ := hf 5 _ 29 (by decide) rfl rfl (fun _ => rfl)
      obtain ⟨v30, e30, g30⟩ := hf 6 _ 30 (by decide) rfl rfl (fun _ => rfl)
      obtain ⟨v31, e31, g31⟩ := hf 7 _ 31 (by decide) rfl rfl (fun _ => rfl)
      obtain ⟨v32, e32, g32⟩ := hf 8 _ 32 (by decide) rfl rfl (fun _ => rfl)
      obtain ⟨v33, e33, g33⟩ := hf 9 _ 33 (by decide) rfl rfl (fun _ => rfl)
      obtain ⟨v34, e34, g34⟩ := hf 10 _ 34 (by decide) rfl rfl (fun _ => rfl)
      obtain ⟨v9, e9, g9⟩ := hf 11 _ 9 (by decide) rfl rfl (fun _ => rfl)
      have hA := act_putsH [(24, v24), (25, v25), (26, v26), (27, v27), (28, v28), (29, v29), (30, v30), (31, v31), (32, v32), (33, v33), (34, v34), (9, v9)] hts hd hkn (by kernel_rfl) (by simp [e24, e25, e26, e27, e28, e29, e30, e31, e32, e33, e34, e9])
      clear hf hts hd hkn e24 e25 e26 e27 e28 e29 e30 e31 e32 e33 e34 e9
      obtain rfl := g24.1 _ rfl
      clear g24
      obtain rfl := g25.1 _ rfl
      clear g25
      obtain rfl := g26.1 _ rfl
      clear g26
      obtain rfl := g27.1 _ rfl
      clear g27
      obtain rfl := g28.1 _ rfl
      clear g28
      obtain rfl := g29.1 _ rfl
      clear g29
      obtain rfl := g30.1 _ rfl
      clear g30
      obtain rfl := g31.1 _ rfl
      clear g31
      obtain rfl := g32.1 _ rfl
      clear g32
      replace g33 := g33.2 _ rfl
      replace g34 := g34.2 _ rfl
      replace g9 := g9.2 _ rfl
      subst hA
      simp only [List.foldl, List.setIfInBounds_toArray, List.set_cons_zero, List.set_cons_succ]
      simp only [List.drop_succ_cons, List.drop_zero]
      obtain ⟨q9, rfl, R9, hq9⟩ := g9
      obtain ⟨hp34, ho34⟩ := g34
      obtain ⟨A1, n1, c1, rfl⟩ := hp34.form
      have hs3 := HF3.out.keep.size
      have hr6 := HF3.out.r0.lt
      have G1 := ((((HF3.out.chain hS4).turn hp34 ho34).put (x := (q9, 58, #[.int .i64 0, .slice none 0 0])) R9 (show (58 : TypeId) ≠ 3 by decide) (show (58 : TypeId) ≠ 94 by decide)).setRow (c' := #[.int .i64 0, .slice A1 n1 c1]) (by omega) (fun x hx => by simp at hx; subst hx; simp; omega) rfl)
      clear hS4 hS0 hp34 ho34 g33
      go_upto_region 5 with (refine wpList_store_row rfl 58 (.tmp 9) (.tmp 34) rfl q9 #[.int .i64 0, .slice A1 n1 c1] rfl rfl 58 #[.int .i64 0, .slice none 0 0] R9 (pl_info _ _) rfl (ones2 rfl rfl) ?_)
      rw [put_none]
      generalize u4.setRow q9 #[.int .i64 0, .slice A1 n1 c1] = u5 at *
      clear R9
      obtain ⟨cs5, ms5, hm5⟩ := G1.mi
      have d35 : u5.cell? ⟨M.mq, 3, none⟩ = some (.slice (some ⟨M.kb, 0, none⟩) M.n M.n) := hm5.box.at_ rfl
      obtain ⟨x5, hx5⟩ : ∃ x, ms5[k]? = some x := ⟨_, List.getElem?_eq_getElem (by rw [hm5.mlen]; exact hlt)⟩
      have dk5 : u5.cell? ⟨M.kb, k, none⟩ = some (.map x5) := hm5.known.at_ (by rw [List.getElem?_toArray, List.getElem?_map, hx5]; rfl)
      cases x5 with
      | none =>
        have hmk := mi_make hM hm5 hx5
        have ht5 : (u5.alloc (.map #[] 0)).frozen? ⟨M.kb, k, none⟩ = false := (hm5.known.alloc _).thawed _
        have dk6 : (u5.alloc (.map #[] 0)).cell? ⟨M.kb, k, none⟩ = some (.map none) := (hm5.known.alloc _).at_ (by rw [List.getElem?_toArray, List.getElem?_map, hx5]; rfl)
        have dm5 : (u5.alloc (.map #[] 0)).cell? ⟨M.mq, 3, none⟩ = some (.slice (some ⟨M.kb, 0, none⟩) M.n M.n) := (hm5.box.alloc _).at_ rfl
        have G6 := G1.step ⟨_, _, hmk.1⟩ hmk.2
        have hm6 := hmk.1
        have hx6 : (ms5.set k (some u5.heap.size))[k]? = some (some u5.heap.size) := List.getElem?_set_self (List.getElem?_eq_some_iff.1 hx5).1
        clear hmk hx5 hm5 G1
        go_upto_region 7 with fail
        generalize hb6 : u5.heap.size = b6 at *
        clear hb6
        generalize (u5.alloc (.map #[] 0)).setCell ⟨M.kb, k, none⟩ (.map (some b6)) = u6 at *
        clear ht5 d35 dk5 dm5 dk6
        have HM6 := hidd hm6
        have HG6 := hidd G6
        have hk6 : ∀ u', Below u6.heap.size u6 u' → u'.cell? ⟨M.kb, k, none⟩ = some (.map (some b6)) := fun u' hb => (hm6.known.below hb hm6.known.lt).at_ (by rw [List.getElem?_toArray, List.getElem?_map, hx6]; rfl)
        have HX6 := hidd hx6
        clear hm6 G6 hx6
        refine wp_region_slotsH 9 (by decide) (by kernel_rfl) (by kernel_rfl) (fun _ _ => true) (Below u6.heap.size u6) (FkG M k pl q9 b6 (.agg #[.int .i64 0, .slice A1 n1 c1])) EbL (by kernel_rfl) (by kernel_rfl) (by kernel_rfl) (by kernel_rfl) ?_ (bel_drew (Below.refl _ _)) [0, 1, 2, 9] (by kernel_rfl) ?_ ?_ ?_
        · intro t dd v u u' _ _ h hE
          refine ⟨h.1, fun R hR => ?_⟩
          unfold FkGP at hR
          cases hR
        · intro u _
          refine ⟨⟨_, rfl, ?_⟩, ⟨_, rfl, ?_⟩, ⟨_, rfl, ?_⟩, ⟨_, rfl, ?_⟩, trivial⟩ <;> exact ⟨fun _ h => Option.some.inj h, fun _ h => no_some h⟩
        · refine ⟨?_, ?_, ?_, ?_, ?_, ?_, ?_, ?_, ?_, trivial⟩
          · intro a u hS hr K hK
            obtain ⟨⟨vl0, e0, g0⟩, -⟩ := hr
            obtain rfl := g0.1 _ rfl
            clear g0
            rw [if_pos (want_none rfl)]
            unfold Oper.wp
            go_simp
            exact hK _ _ ⟨fun _ h => Option.some.inj h, fun _ h => no_some h⟩ hS (eby rfl (Below.refl _ _))
          · intro a u hS hr K hK
            obtain ⟨⟨vl0, e0, g0⟩, -⟩ := hr
            obtain rfl := g0.1 _ rfl
            clear g0
            rw [if_pos (want_none rfl)]
            unfold Oper.wp
            go_simp
            exact hK _ _ ⟨fun _ h => Option.some.inj h, fun _ h => no_some h⟩ hS (eby rfl (Below.refl _ _))
          · intro a u hS hr K hK
            obtain ⟨⟨vl0, e0, g0⟩, -⟩ := hr
            obtain rfl := g0.1 _ rfl
            clear g0
            rw [if_pos (want_none rfl)]
            unfold Oper.wp
            go_simp
            exact hK _ _ ⟨fun _ h => Option.some.inj h, fun _ h => no_some h⟩ hS (eby rfl (Below.refl _ _))
          · intro a u hS hr K hK
            obtain ⟨⟨vl0, e0, g0⟩, -⟩ := hr
            obtain rfl := g0.1 _ rfl
            clear g0
            rw [if_pos (want_none rfl)]
            have d0 := (HM6.out.box.below hS HM6.out.box.lt).at_ (k := 3) rfl
            unfold Oper.wp
            go_simp
            exact hK _ _ ⟨fun _ h => Option.some.inj h, fun _ h => no_some h⟩ hS (eby rfl (Below.refl _ _))
          · intro a u hS hr K hK
            obtain ⟨⟨vl0, e0, g0⟩, -⟩ := hr
            obtain rfl := g0.1 _ rfl
            clear g0
            rw [if_pos (want_none rfl)]
            unfold Oper.wp
            go_simp
            exact hK _ _ ⟨fun _ h => Option.some.inj h, fun _ h => no_some h⟩ hS (eby rfl (Below.refl _ _))
          · intro a u hS hr K hK
            obtain ⟨⟨vl0, e0, g0⟩, ⟨vl1, e1, g1⟩, -⟩ := hr
            obtain rfl := g0.1 _ rfl
            clear g0
            obtain rfl := g1.1 _ rfl
            clear g1
            rw [if_pos (want_none rfl)]
            unfold Oper.wp
            go_simp
            exact hK _ _ ⟨fun _ h => Option.some.inj h, fun _ h => no_some h⟩ hS (eby rfl (Below.refl _ _))
          · intro a u hS hr K hK
            obtain ⟨⟨vl0, e0, g0⟩, -⟩ := hr
            obtain rfl := g0.1 _ rfl
            clear g0
            rw [if_pos (want_none rfl)]
            have d0 := hk6 u hS
            unfold Oper.wp
            go_simp
            exact hK _ _ ⟨fun _ h => Option.some.inj h, fun _ h => no_some h⟩ hS (eby rfl (Below.refl _ _))
          · intro a u hS hr K hK
            obtain ⟨⟨vl0, e0, g0⟩, -⟩ := hr
            obtain rfl := g0.1 _ rfl
            clear g0
            rw [if_pos (want_none rfl)]
            unfold Oper.wp
            go_simp
            exact hK _ _ ⟨fun _ h => Option.some.inj h, fun _ h => no_some h⟩ hS (eby rfl (Below.refl _ _))
          · intro a u hS hr K hK
            obtain ⟨⟨vl0, e0, g0⟩, -⟩ := hr
            obtain rfl := g0.1 _ rfl
            clear g0
            rw [if_pos (want_none rfl)]
            have r0 := HG6.out.r0.below hS HG6.out.r0.lt
            have d0 := r0.at_ (k := 0) rfl
            have d1 := r0.at_ (k := 1) rfl
            unfold Oper.wp
            go_simp
            exact hK _ _ ⟨fun _ h => Option.some.inj h, fun _ h => no_some h⟩ hS (eby rfl (Below.refl _ _))
        intro a u7 hS7 hts hd hkn hf
        obtain ⟨v50, e50, g50⟩ := hf 0 _ 50 (by decide) rfl rfl (fun _ => rfl)
        obtain ⟨v51, e51, g51⟩ := hf 1 _ 51 (by decide) rfl rfl (fun _ => rfl)
        obtain ⟨v52, e52, g52⟩ := hf 2 _ 52 (by decide) rfl rfl (fun _ => rfl)
        obtain ⟨v53, e53, g53⟩ := hf 3 _ 53 (by decide) rfl rfl (fun _ => rfl)
        obtain ⟨v54, e54, g54⟩ := hf 4 _ 54 (by decide) rfl rfl (fun _ => rfl)
        obtain ⟨v55, e55, g55⟩ := hf 5 _ 55 (by decide) rfl rfl (fun _ => rfl)
        obtain ⟨v56, e56, g56⟩ := hf 6 _ 56 (by decide) rfl rfl (fun _ => rfl)
        obtain ⟨v57, e57, g57⟩ := hf 7 _ 57 (by decide) rfl rfl (fun _ => rfl)
        obtain ⟨v58, e58, g58⟩ := hf 8 _ 58 (by decide) rfl rfl (fun _ => rfl)
        have hA := act_putsH [(50, v50), (51, v51), (52, v52), (53, v53), (54, v54), (55, v55), (56, v56), (57, v57), (58, v58)] hts hd hkn (by kernel_rfl) (by simp [e50, e51, e52, e53, e54, e55, e56, e57, e58])
        clear hf hts hd hkn e50 e51 e52 e53 e54 e55 e56 e57 e58
        obtain rfl := g50.1 _ rfl
        clear g50
        obtain rfl := g51.1 _ rfl
        clear g51
        obtain rfl := g52.1 _ rfl
        clear g52
        obtain rfl := g53.1 _ rfl
        clear g53
        obtain rfl := g54.1 _ rfl
        clear g54
        obtain rfl := g55.1 _ rfl
        clear g55
        obtain rfl := g56.1 _ rfl
        clear g56
        obtain rfl := g57.1 _ rfl
        clear g57
        obtain rfl := g58.1 _ rfl
        clear g58
        subst hA
        simp only [List.foldl, List.setIfInBounds_toArray, List.set_cons_zero, List.set_cons_succ]
        simp only [List.drop_succ_cons, List.drop_zero]
        have hm7 := HM6.out.below hS7
        obtain ⟨hb7, f7, hf7, hst7⟩ := hm7.kept k b6 HX6.out
        have HG7 := hidd (HG6.out.below hS7)
        have HST := hidd hst7
        have HM7 := hidd hm7
        clear hm7 hst7 hk6 hS7
        go_wp2_with (at_mapUpdate; refine wp_mputI 94 58 rfl rfl Tryd.underlying94 b6 f7 rfl hf7 pl (.agg #[.int .i64 0, .slice A1 n1 c1]) rfl rfl hpl64 ?_; intro u8 hm8 ht8; refine Hid.out ?_)
        have hpt := mi_put hM HM7.out HX6.out HST.out HG7.out.pl HG7.out.off ht8 hm8
        have G8 := HG7.out.step ⟨_, _, hpt.1⟩ hpt.2
        have R6 := G8.r1
        have rr9 := pl_range G8.r0
        have hq9u : u.heap.size ≠ q9 := by omega
        have HFIN : Hid (RetQ M F u (M.R k pl) (.returned (.agg #[.int .i64 0, .slice A1 n1 c1])) (u8.setRow u.heap.size #[.int .i64 0, .slice A1 n1 c1])) := FS.done1 (G8.sub (L' := [(u.heap.size, 58, #[.int .i64 0, .slice none 0 0])]) (fun x hx => by simp at hx ⊢; simp [hx])) (Nat.le_refl _) (fun x hx => by cases hx) rfl (fun j => Iff.rfl)
        have HRF := hidd (R6.row #[.int .i64 0, .slice A1 n1 c1])
        clear hpt G8 hm8 ht8 hf7
        refine Lib.hid ?_
        go_wp2_with (first
          | refine wpList_load_mid rfl 58 (.tmp 9) rfl q9 0 rfl [.int .i64 0, .slice A1 n1 c1] _ rr9 Tryd.underlying58 rfl (pl_info _ _) ?_
          | refine wpList_store_row rfl 58 (.tmp 6) (.tmp 59) rfl u.heap.size #[.int .i64 0, .slice A1 n1 c1] rfl rfl 58 #[.int .i64 0, .slice none 0 0] R6 (pl_info _ _) rfl (ones2 rfl rfl) ?_)
        exact ret_places Tryd.results49 rfl HRF.out rfl HFIN.out
      | some b6 =>
        have G6 := G1
        have hm6 := hm5
        have hx6 := hx5
        clear G1 hm5 hx5
        go_upto_region 7 with fail
        clear d35 dk5
        obtain ⟨u6, hu6⟩ : ∃ u6, u5 = u6 := ⟨_, rfl⟩
        subst hu6
        generalize u5 = u6 at *
        have HM6 := hidd hm6
        have HG6 := hidd G6
        have hk6 : ∀ u', Below u6.heap.size u6 u' → u'.cell? ⟨M.kb, k, none⟩ = some (.map (some b6)) := fun u' hb => (hm6.known.below hb hm6.known.lt).at_ (by rw [List.getElem?_toArray, List.getElem?_map, hx6]; rfl)
        have HX6 := hidd hx6
        clear hm6 G6 hx6
        refine wp_region_slotsH 9 (by decide) (by kernel_rfl) (by kernel_rfl) (fun _ _ => true) (Below u6.heap.size u6) (FkG M k pl q9 b6 (.agg #[.int .i64 0, .slice A1 n1 c1])) EbL (by kernel_rfl) (by kernel_rfl) (by kernel_rfl) (by kernel_rfl) ?_ (bel_drew (Below.refl _ _)) [0, 1, 2, 9] (by kernel_rfl) ?_ ?_ ?_
        · intro t dd v u u' _ _ h hE
          refine ⟨h.1, fun R hR => ?_⟩
          unfold FkGP at hR
          cases hR
        · intro u _
          refine ⟨⟨_, rfl, ?_⟩, ⟨_, rfl, ?_⟩, ⟨_, rfl, ?_⟩, ⟨_, rfl, ?_⟩, trivial⟩ <;> exact ⟨fun _ h => Option.some.inj h, fun _ h => no_some h⟩
        · refine ⟨?_, ?_, ?_, ?_, ?_, ?_, ?_, ?_, ?_, trivial⟩
          · intro a u hS hr K hK
            obtain ⟨⟨vl0, e0, g0⟩, -⟩ := hr
            obtain rfl := g0.1 _ rfl
            clear g0
            rw [if_pos (want_none rfl)]
            unfold Oper.wp
            go_simp
            exact hK _ _ ⟨fun _ h => Option.some.inj h, fun _ h => no_some h⟩ hS (eby rfl (Below.refl _ _))
          · intro a u hS hr K hK
            obtain ⟨⟨vl0, e0, g0⟩, -⟩ := hr
            obtain rfl := g0.1 _ rfl
            clear g0
            rw [if_pos (want_none rfl)]
            unfold Oper.wp
            go_simp
            exact hK _ _ ⟨fun _ h => Option.some.inj h, fun _ h => no_some h⟩ hS (eby rfl (Below.refl _ _))
          · intro a u hS hr K hK
            obtain ⟨⟨vl0, e0, g0⟩, -⟩ := hr
            obtain rfl := g0.1 _ rfl
            clear g0
            rw [if_pos (want_none rfl)]
            unfold Oper.wp
            go_simp
            exact hK _ _ ⟨fun _ h => Option.some.inj h, fun _ h => no_some h⟩ hS (eby rfl (Below.refl _ _))
          · intro a u hS hr K hK
            obtain ⟨⟨vl0, e0, g0⟩, -⟩ := hr
            obtain rfl := g0.1 _ rfl
            clear g0
            rw [if_pos (want_none rfl)]
            have d0 := (HM6.out.box.below hS HM6.out.box.lt).at_ (k := 3) rfl
            unfold Oper.wp
            go_simp
            exact hK _ _ ⟨fun _ h => Option.some.inj h, fun _ h => no_some h⟩ hS (eby rfl (Below.refl _ _))
          · intro a u hS hr K hK
            obtain ⟨⟨vl0, e0, g0⟩, -⟩ := hr
            obtain rfl := g0.1 _ rfl
            clear g0
            rw [if_pos (want_none rfl)]
            unfold Oper.wp
            go_simp
            exact hK _ _ ⟨fun _ h => Option.some.inj h, fun _ h => no_some h⟩ hS (eby rfl (Below.refl _ _))
          · intro a u hS hr K hK
            obtain ⟨⟨vl0, e0, g0⟩, ⟨vl1, e1, g1⟩, -⟩ := hr
            obtain rfl := g0.1 _ rfl
            clear g0
            obtain rfl := g1.1 _ rfl
            clear g1
            rw [if_pos (want_none rfl)]
            unfold Oper.wp
            go_simp
            exact hK _ _ ⟨fun _ h => Option.some.inj h, fun _ h => no_some h⟩ hS (eby rfl (Below.refl _ _))
          · intro a u hS hr K hK
            obtain ⟨⟨vl0, e0, g0⟩, -⟩ := hr
            obtain rfl := g0.1 _ rfl
            clear g0
            rw [if_pos (want_none rfl)]
            have d0 := hk6 u hS
            unfold Oper.wp
            go_simp
            exact hK _ _ ⟨fun _ h => Option.some.inj h, fun _ h => no_some h⟩ hS (eby rfl (Below.refl _ _))
          · intro a u hS hr K hK
            obtain ⟨⟨vl0, e0, g0⟩, -⟩ := hr
            obtain rfl := g0.1 _ rfl
            clear g0
            rw [if_pos (want_none rfl)]
            unfold Oper.wp
            go_simp
            exact hK _ _ ⟨fun _ h => Option.some.inj h, fun _ h => no_some h⟩ hS (eby rfl (Below.refl _ _))
          · intro a u hS hr K hK
            obtain ⟨⟨vl0, e0, g0⟩, -⟩ := hr
            obtain rfl := g0.1 _ rfl
            clear g0
            rw [if_pos (want_none rfl)]
            have r0 := HG6.out.r0.below hS HG6.out.r0.lt
            have d0 := r0.at_ (k := 0) rfl
            have d1 := r0.at_ (k := 1) rfl
            unfold Oper.wp
            go_simp
            exact hK _ _ ⟨fun _ h => Option.some.inj h, fun _ h => no_some h⟩ hS (eby rfl (Below.refl _ _))
        intro a u7 hS7 hts hd hkn hf
        obtain ⟨v50, e50, g50⟩ := hf 0 _ 50 (by decide) rfl rfl (fun _ => rfl)
        obtain ⟨v51, e51, g51⟩ := hf 1 _ 51 (by decide) rfl rfl (fun _ => rfl)
        obtain ⟨v52, e52, g52⟩ := hf 2 _ 52 (by decide) rfl rfl (fun _ => rfl)
        obtain ⟨v53, e53, g53⟩ := hf 3 _ 53 (by decide) rfl rfl (fun _ => rfl)
        obtain ⟨v54, e54, g54⟩ := hf 4 _ 54 (by decide) rfl rfl (fun _ => rfl)
        obtain ⟨v55, e55, g55⟩ := hf 5 _ 55 (by decide) rfl rfl (fun _ => rfl)
        obtain ⟨v56, e56, g56⟩ := hf 6 _ 56 (by decide) rfl rfl (fun _ => rfl)
        obtain ⟨v57, e57, g57⟩ := hf 7 _ 57 (by decide) rfl rfl (fun _ => rfl)
        obtain ⟨v58, e58, g58⟩ := hf 8 _ 58 (by decide) rfl rfl (fun _ => rfl)
        have hA := act_putsH [(50, v50), (51, v51), (52, v52), (53, v53), (54, v54), (55, v55), (56, v56), (57, v57), (58, v58)] hts hd hkn (by kernel_rfl) (by simp [e50, e51, e52, e53, e54, e55, e56, e57, e58])
        clear hf hts hd hkn e50 e51 e52 e53 e54 e55 e56 e57 e58
        obtain rfl := g50.1 _ rfl
        clear g50
        obtain rfl := g51.1 _ rfl
        clear g51
        obtain rfl := g52.1 _ rfl
        clear g52
        obtain rfl := g53.1 _ rfl
        clear g53
        obtain rfl := g54.1 _ rfl
        clear g54
        obtain rfl := g55.1 _ rfl
        clear g55
        obtain rfl := g56.1 _ rfl
        clear g56
        obtain rfl := g57.1 _ rfl
        clear g57
        obtain rfl := g58.1 _ rfl
        clear g58
        subst hA
        simp only [List.foldl, List.setIfInBounds_toArray, List.set_cons_zero, List.set_cons_succ]
        simp only [List.drop_succ_cons, List.drop_zero]
        have hm7 := HM6.out.below hS7
        obtain ⟨hb7, f7, hf7, hst7⟩ := hm7.kept k b6 HX6.out
        have HG7 := hidd (HG6.out.below hS7)
        have HST := hidd hst7
        have HM7 := hidd hm7
        clear hm7 hst7 hk6 hS7
        go_wp2_with (at_mapUpdate; refine wp_mputI 94 58 rfl rfl Tryd.underlying94 b6 f7 rfl hf7 pl (.agg #[.int .i64 0, .slice A1 n1 c1]) rfl rfl hpl64 ?_; intro u8 hm8 ht8; refine Hid.out ?_)
        have hpt := mi_put hM HM7.out HX6.out HST.out HG7.out.pl HG7.out.off ht8 hm8
        have G8 := HG7.out.step ⟨_, _, hpt.1⟩ hpt.2
        have R6 := G8.r1
        have rr9 := pl_range G8.r0
        have hq9u : u.heap.size ≠ q9 := by omega
        have HFIN : Hid (RetQ M F u (M.R k pl) (.returned (.agg #[.int .i64 0, .slice A1 n1 c1])) (u8.setRow u.heap.size #[.int .i64 0, .slice A1 n1 c1])) := FS.done1 (G8.sub (L' := [(u.heap.size, 58, #[.int .i64 0, .slice none 0 0])]) (fun x hx => by simp at hx ⊢; simp [hx])) (Nat.le_refl _) (fun x hx => by cases hx) rfl (fun j => Iff.rfl)
        have HRF := hidd (R6.row #[.int .i64 0, .slice A1 n1 c1])
        clear hpt G8 hm8 ht8 hf7
        refine Lib.hid ?_
        go_wp2_with (first
          | refine wpList_load_mid rfl 58 (.tmp 9) rfl q9 0 rfl [.int .i64 0, .slice A1 n1 c1] _ rr9 Tryd.underlying58 rfl (pl_info _ _) ?_
          | refine wpList_store_row rfl 58 (.tmp 6) (.tmp 59) rfl u.heap.size #[.int .i64 0, .slice A1 n1 c1] rfl rfl 58 #[.int .i64 0, .slice none 0 0] R6 (pl_info _ _) rfl (ones2 rfl rfl) ?_)
        exact ret_places Tryd.results49 rfl HRF.out rfl HFIN.out
end Go.Proofs.YtcgondjekpcpgaaDoor.Sy.Lg.Ef
