/- The matcher: from some places; all nodes. -/
import Derived.Test.YtcgondjekpcpgaaDoorPCw
namespace Go.Proofs.YtcgondjekpcpgaaDoor.Sy.Lg.Ef
open Go.RowKit Go.Proofs.YtcgondjekpcpgaaDoor.Sy.Ap Go.Proofs.YtcgondjekpcpgaaDoor.Sy.Ap.Wk Go.Proofs.YtcgondjekpcpgaaDoor.Sy.Lg.Oq Go.Proofs.YtcgondjekpcpgaaDoor.Sy.Lg.Wl
set_option maxRecDepth 100000
set_option linter.unusedVariables false

def FromC (M : MC) (k : Nat) : Prop := ∀ (F : Nat → Prop) (u : World) (pl : Nat), (∃ (cs : List Nat) (ms : List (Option Nat)), MI M F cs ms u) → (∀ f, F f → f < u.heap.size) → pl ≤ M.s.size →
  Calls Tryd.prog 49 #[.pointer (some ⟨M.mq, 0, none⟩), .int .i64 (k : Int), .int .i64 (pl : Int)] u (RetQ M F u (M.R k pl))
theorem OpS.done1 {M : MC} {F : Nat → Prop} {w : World} {L : List Row3} {q r : Nat} {sv : Value} {p : Nat → Bool} {c c' : Array Value} {v : Value} {X Y : Nat → Prop} {u : World} (h : OpS M F w.heap.size w ((r, 58, c) :: L) q sv p v X u) (hf : ∀ f, F f → f < w.heap.size) (hr : w.heap.size ≤ r) (hL : ∀ x ∈ L, x.1 ≠ r) (hc : c[0]? = some (.int .i64 0)) (hY : ∀ j, p j = true ↔ Y j) : RetQ M F w Y (.returned (.agg #[.int .i64 0, sv])) (u.setRow r c') := by
  have h3 := h.setRow (c' := c') hr hL hc
  obtain ⟨cs, ms, hm⟩ := h3.fs.mi
  refine ⟨_, rfl, ⟨cs, ms, hm.less fun k hk => .inl (.inl hk)⟩, h3.fs.keep, ⟨p, h3.pb.pl, hY⟩, fun b hb hk => ?_⟩
  have h4 : sv.ownBlock = some b := hb
  have := h3.own_lo b h4
  have := hf b hk
  omega
set_option linter.unusedVariables false in
def EnGV (M : MC) (n0 k bt ot : Nat) (g : Gd) (kA : Option Addr) (mm kc : Nat) (vv : Value) (t : Nat) : Option Value :=
  match t with
  | 0 => some (.pointer (some ⟨M.mq, 0, none⟩))
  | 1 => some (.int .i64 (k : Int))
  | 5 => some (.pointer (some ⟨n0, 0, none⟩))
  | 30 => some (.pointer (some ⟨M.mq, 0, none⟩))
  | 31 => some (.pointer (some ⟨M.mq, 0, none⟩))
  | 32 => some (.pointer (some ⟨M.mq, 0, none⟩))
  | 33 => some (.pointer (some ⟨M.mq, 0, none⟩))
  | 34 => some (.slice (some ⟨bt, ot, none⟩) M.n M.tc)
  | 35 => some (.int .i64 (k : Int))
  | 36 => some (.pointer (some ⟨bt, ot + k * 9, none⟩))
  | 37 => some (.agg #[.int .u8 g.op, .int .u64 (W g.s 0), .int .u64 (W g.s 1), .int .u64 (W g.s 2), .int .u64 (W g.s 3), .slice kA mm kc, .int .i64 g.lo, .int .i64 g.hi, .string g.nm])
  | 38 => some (vv)
  | _ => none
set_option linter.unusedVariables false in
def EnGP (M : MC) (n0 k bt ot : Nat) (g : Gd) (kA : Option Addr) (mm kc : Nat) (vv : Value) (t : Nat) : Option (Value → World → Prop) :=
  match t with
  | _ => none
def EnG (M : MC) (n0 k bt ot : Nat) (g : Gd) (kA : Option Addr) (mm kc : Nat) (vv : Value) (t : Nat) (v : Value) (u : World) : Prop := (∀ z9, EnGV M n0 k bt ot g kA mm kc vv t = some z9 → v = z9) ∧ ∀ R, EnGP M n0 k bt ot g kA mm kc vv t = some R → R v u
set_option maxHeartbeats 4000000 in
theorem ends_step {M : MC} (hM : M.Ok) {k : Nat} {g : Gd} {n : Nd} {kA : Option Addr} {mm kc : Nat} (hN : NodeAt M k g n kA) (hin : NodeIn M k g kA mm kc) (hW : WalkC M k g kA mm kc) (hFr : FromC M k) : EndsC M k := by
  intro F u v X h
  obtain ⟨bt, ot, htA, hbt, hrow⟩ := hin
  obtain ⟨A9, n9, c9, rfl⟩ := h.pl.form
  have hfl := h.fl
  have F0 := FS.start h
  have hB := F0.lo
  have hX := h.le
  have hlt := hN.lt
  have hfew := hM.few
  have hki : (k : Int) < (M.n : Int) := by omega
  clear h
  go_enter Tryd.func31, Tryd.ntmps31
  go_upto_region 1 with fail
  have s1 : (u.alloc (.cells #[.int .i64 0, .slice A9 n9 c9] 58)).heap.size = u.heap.size + 1 := World.size_alloc ..
  have F1 := (F0.new 58 #[.int .i64 0, .slice A9 n9 c9] (by decide) (by decide)).new 58 #[.int .i64 0, .slice none 0 0] (by decide) (by decide)
  rw [s1] at F1
  generalize (u.alloc (.cells #[.int .i64 0, .slice A9 n9 c9] 58)).alloc (.cells #[.int .i64 0, .slice none 0 0] 58) = u1 at *
  obtain ⟨p0, hp0, hx0⟩ := F1.pl
  have hno := none_any _ p0 u1 hp0
  have rr5 := pl_range F1.r1
  have HF1 := hidd F1
  have HX := hidd hX
  have HFL := hidd hfl
  have HX0 := hidd hx0
  clear F0 F1 hX hfl hp0 hx0 s1
  go_wp2_with (refine wpList_load_mid rfl 58 (.tmp 5) rfl u.heap.size 0 rfl [.int .i64 0, .slice A9 n9 c9] _ rr5 Tryd.underlying58 rfl (pl_info _ _) ?_)
  refine hno.mono ?_
  rintro e u2 ⟨z, rfl, hz, b2⟩
  have F2 := HF1.out.below b2
  clear hno rr5 b2 HF1
  cases z with
  | true =>
    have R6 := F2.r0
    have hnone := hz.1 rfl
    have HFIN : Hid (RetQ M F u (img (M.R k) X) (.returned zeroP) (u2.setRow (u.heap.size + 1) #[.int .i64 0, .slice none 0 0])) := FS.done1 (F2.turn (zero_pl u2) (zero_off F)) (by omega) (fun x hx => by simp at hx; subst hx; simp) rfl (fun j => ⟨(fun h => h.elim), fun ⟨i, hi, _⟩ => by
      have := (HX0.out i).2 hi
      rw [hnone i] at this
      cases this⟩)
    have HRF := hidd (R6.row #[.int .i64 0, .slice none 0 0])
    clear F2 hz hnone
    go_wp2_with (refine wpList_store_row rfl 58 (.tmp 6) (.tmp 12) rfl (u.heap.size + 1) #[.int .i64 0, .slice none 0 0] rfl rfl 58 #[.int .i64 0, .slice none 0 0] R6 (pl_info _ _) rfl (ones2 rfl rfl) ?_)
    exact ret_places Tryd.results31 rfl HRF.out rfl HFIN.out
  | false =>
    clear hz
    obtain ⟨cs, ms, hm⟩ := F2.mi
    have d2 : u2.cell? ⟨M.mq, 2, none⟩ = some (.slice (some ⟨M.wb, 0, none⟩) M.n M.n) := hm.box.at_ rfl
    obtain ⟨c, hc⟩ : ∃ c, cs[k]? = some c := ⟨_, List.getElem?_eq_getElem (by rw [hm.clen]; exact hlt)⟩
    have dk : u2.cell? ⟨M.wb, k, none⟩ = some (.int .i64 (c : Int)) := hm.walks.at_ (by rw [List.getElem?_toArray, List.getElem?_map, hc]; rfl)
    have hc256 := hm.cfew c (List.mem_of_getElem? hc)
    have HF2 := hidd F2
    have HM2 := hidd hm
    have HC := hidd hc
    have htw := hm.walks.thawed k
    clear F2 hm hc
    by_cases hcl : c < 256
    · have hcli : (c : Int) < 256 := by omega
      have hmw := mi_walk hM HM2.out HC.out hcl
      have F3 := HF2.out.step ⟨_, _, hmw.1⟩ hmw.2
      clear hmw
      go_upto_region 5 with fail
      generalize u2.setCell ⟨M.wb, k, none⟩ (.int .i64 ((c : Int) + 1)) = u3 at *
      clear d2 dk htw
      have hS0 := F3.again
      have HF3 := hidd F3
      clear F3
      refine wp_region_slotsH 9 (by decide) (by kernel_rfl) (by kernel_rfl) (fun _ _ => true) (FS M F u3 [(u.heap.size + 1, 58, #[.int .i64 0, .slice none 0 0]), (u.heap.size, 58, #[.int .i64 0, .slice A9 n9 c9])] (.agg #[.int .i64 0, .slice A9 n9 c9]) X) (EnG M u.heap.size k bt ot g kA mm kc (.agg #[.int .i64 0, .slice A9 n9 c9])) (EbM M) (by kernel_rfl) (by kernel_rfl) (by kernel_rfl) (by kernel_rfl) ?_ (hS0.below (bel_drew (Below.refl _ _))) [0, 1, 5] (by kernel_rfl) ?_ ?_ ?_
      · intro t dd v u u' _ hS h hE
        refine ⟨h.1, fun R hR => ?_⟩
        unfold EnGP at hR
        cases hR
      · intro u _
        refine ⟨⟨_, rfl, ?_⟩, ⟨_, rfl, ?_⟩, ⟨_, rfl, ?_⟩, trivial⟩ <;> exact ⟨fun _ h => Option.some.inj h, fun _ h => no_some h⟩
      · refine ⟨?_, ?_, ?_, ?_, ?_, ?_, ?_, ?_, ?_, trivial⟩
        · intro a u hS hr K hK
          obtain ⟨⟨vl0, e0, g0⟩, -⟩ := hr
          obtain rfl := g0.1 _ rfl
          clear g0
          rw [if_pos (want_none rfl)]
          unfold Oper.wp
          go_simp
          exact hK _ _ ⟨fun _ h => Option.some.inj h, fun _ h => no_some h⟩ hS (eby rfl (Below.refl _ _))
        · intro a u hS hr K hK
          obtain ⟨⟨vl0, e0, g0⟩, -⟩ := hr
          obtain rfl := g0.1 _ rfl
          clear g0
          rw [if_pos (want_none rfl)]
          unfold Oper.wp
          go_simp
          exact hK _ _ ⟨fun _ h => Option.some.inj h, fun _ h => no_some h⟩ hS (eby rfl (Below.refl _ _))
        · intro a u hS hr K hK
          obtain ⟨⟨vl0, e0, g0⟩, -⟩ := hr
          obtain rfl := g0.1 _ rfl
          clear g0
          rw [if_pos (want_none rfl)]
          unfold Oper.wp
          go_simp
          exact hK _ _ ⟨fun _ h => Option.some.inj h, fun _ h => no_some h⟩ hS (eby rfl (Below.refl _ _))
        · intro a u hS hr K hK
          obtain ⟨⟨vl0, e0, g0⟩, -⟩ := hr
          obtain rfl := g0.1 _ rfl
          clear g0
          rw [if_pos (want_none rfl)]
          unfold Oper.wp
          go_simp
          exact hK _ _ ⟨fun _ h => Option.some.inj h, fun _ h => no_some h⟩ hS (eby rfl (Below.refl _ _))
        · intro a u hS hr K hK
          obtain ⟨⟨vl0, e0, g0⟩, -⟩ := hr
          obtain rfl := g0.1 _ rfl
          clear g0
          rw [if_pos (want_none rfl)]
          have d0 : u.cell? ⟨M.mq, 0, none⟩ = some (.slice M.tA M.n M.tc) := hS.mbox.at_ rfl
          rw [htA] at d0
          unfold Oper.wp
          go_simp
          exact hK _ _ ⟨fun _ h => Option.some.inj h, fun _ h => no_some h⟩ hS (eby rfl (Below.refl _ _))
        · intro a u hS hr K hK
          obtain ⟨⟨vl0, e0, g0⟩, -⟩ := hr
          obtain rfl := g0.1 _ rfl
          clear g0
          rw [if_pos (want_none rfl)]
          unfold Oper.wp
          go_simp
          exact hK _ _ ⟨fun _ h => Option.some.inj h, fun _ h => no_some h⟩ hS (eby rfl (Below.refl _ _))
        · intro a u hS hr K hK
          obtain ⟨⟨vl0, e0, g0⟩, ⟨vl1, e1, g1⟩, -⟩ := hr
          obtain rfl := g0.1 _ rfl
          clear g0
          obtain rfl := g1.1 _ rfl
          clear g1
          rw [if_pos (want_none rfl)]
          unfold Oper.wp
          go_simp
          exact hK _ _ ⟨fun _ h => Option.some.inj h, fun _ h => no_some h⟩ hS (eby rfl (Below.refl _ _))
        · intro a u hS hr K hK
          obtain ⟨⟨vl0, e0, g0⟩, -⟩ := hr
          obtain rfl := g0.1 _ rfl
          clear g0
          rw [if_pos (want_none rfl)]
          refine wp_load_mid 43 (.tmp 36) rfl bt (ot + k * 9) (eval_at e0) [.int .u8 g.op, .int .u64 (W g.s 0), .int .u64 (W g.s 1), .int .u64 (W g.s 2), .int .u64 (W g.s 3), .slice kA mm kc, .int .i64 g.lo, .int .i64 g.hi, .string g.nm] _ (FS.row hS hbt hrow) Tryd.underlying43 rfl (nd_info g kA mm kc) ?_
          exact hK _ _ ⟨fun _ h => Option.some.inj h, fun _ h => no_some h⟩ hS (eby rfl (Below.refl _ _))
        · intro a u hS hr K hK
          obtain ⟨⟨vl0, e0, g0⟩, -⟩ := hr
          obtain rfl := g0.1 _ rfl
          clear g0
          rw [if_pos (want_none rfl)]
          have d0 := hS.r1.at_ (k := 0) rfl
          have d1 := hS.r1.at_ (k := 1) rfl
          unfold Oper.wp
          go_simp
          exact hK _ _ ⟨fun _ h => Option.some.inj h, fun _ h => no_some h⟩ hS (eby rfl (Below.refl _ _))
      intro a u4 hS4 hts hd hkn hf
      obtain ⟨v30, e30, g30⟩ := hf 0 _ 30 (by decide) rfl rfl (fun _ => rfl)
      obtain ⟨v31, e31, g31⟩ := hf 1 _ 31 (by decide) rfl rfl (fun _ => rfl)
      obtain ⟨v32, e32, g32⟩ := hf 2 _ 32 (by decide) rfl rfl (fun _ => rfl)
      obtain ⟨v33, e33, g33⟩ := hf 3 _ 33 (by decide) rfl rfl (fun _ => rfl)
      obtain ⟨v34, e34, g34⟩ := hf 4 _ 34 (by decide) rfl rfl (fun _ => rfl)
      obtain ⟨v35, e35, g35⟩ := hf 5 _ 35 (by decide) rfl rfl (fun _ => rfl)
      obtain ⟨v36, e36, g36⟩ := hf 6 _ 36 (by decide) rfl rfl (fun _ => rfl)
      obtain ⟨v37, e37, g37⟩ := hf 7 _ 37 (by decide) rfl rfl (fun _ => rfl)
      obtain ⟨v38, e38, g38⟩ := hf 8 _ 38 (by decide) rfl rfl (fun _ => rfl)
      have hA := act_putsH [(30, v30), (31, v31), (32, v32), (33, v33), (34, v34), (35, v35), (36, v36), (37, v37), (38, v38)] hts hd hkn (by kernel_rfl) (by simp [e30, e31, e32, e33, e34, e35, e36, e37, e38])
      clear hf hts hd hkn e30 e31 e32 e33 e34 e35 e36 e37 e38
      obtain rfl := g30.1 _ rfl
      clear g30
      obtain rfl := g31.1 _ rfl
      clear g31
      obtain rfl := g32.1 _ rfl
      clear g32
      obtain rfl := g33.1 _ rfl
      clear g33
      obtain rfl := g34.1 _ rfl
      clear g34
      obtain rfl := g35.1 _ rfl
      clear g35
      obtain rfl := g36.1 _ rfl
      clear g36
      obtain rfl := g37.1 _ rfl
      clear g37
      obtain rfl := g38.1 _ rfl
      clear g38
      subst hA
      simp only [List.foldl, List.setIfInBounds_toArray, List.set_cons_zero, List.set_cons_succ]
      simp only [List.drop_succ_cons, List.drop_zero]
      have G4 := HF3.out.chain hS4
      have hwk := hW F u4 _ X (G4.inp HFL.out HX.out)
      have HG4 := hidd G4
      clear G4 hS4 hS0
      go_wp2_with fail
      refine hwk.mono ?_
      rintro e u5 ⟨v5, rfl, hm5, hk5, hp5, ho5⟩
      obtain ⟨A1, n1, c1, rfl⟩ := hp5.form
      have G5 := (HG4.out.step hm5 hk5).turn hp5 ho5
      have R6 := G5.r0
      have HFIN : Hid (RetQ M F u (img (M.R k) X) (.returned (.agg #[.int .i64 0, .slice A1 n1 c1])) (u5.setRow (u.heap.size + 1) #[.int .i64 0, .slice A1 n1 c1])) := FS.done1 G5 (by omega) (fun x hx => by simp at hx; subst hx; simp) rfl (fun j => Iff.rfl)
      have HRF := hidd (R6.row #[.int .i64 0, .slice A1 n1 c1])
      clear hwk G5 hm5 hk5 hp5 ho5
      go_wp2_with (refine wpList_store_row rfl 58 (.tmp 6) (.tmp 39) rfl (u.heap.size + 1) #[.int .i64 0, .slice A1 n1 c1] rfl rfl 58 #[.int .i64 0, .slice none 0 0] R6 (pl_info _ _) rfl (ones2 rfl rfl) ?_)
      exact ret_places Tryd.results31 rfl HRF.out rfl HFIN.out
    · have hcli : ¬ (c : Int) < 256 := by omega
      have hwb : M.wb < u2.heap.size := HM2.out.walks.lt
      have hkb : M.kb < u2.heap.size := HM2.out.known.lt
      have hqu : u.heap.size + 1 < u2.heap.size := HF2.out.r0.lt
      have F3 := HF2.out.new 58 #[.int .i64 0, .slice none 0 0] (by decide) (by decide)
      have O3 : OpS M F u.heap.size u [(u.heap.size + 1, 58, #[.int .i64 0, .slice none 0 0]), (u.heap.size, 58, #[.int .i64 0, .slice A9 n9 c9])] u2.heap.size (.slice none 0 0) noB (.agg #[.int .i64 0, .slice A9 n9 c9]) X (u2.alloc (.cells #[.int .i64 0, .slice none 0 0] 58)) := by
        refine ⟨FS.toF (F3.sub (fun x hx => by simp at hx ⊢; rcases hx with e | e <;> simp [e])) (fun k hk => ?_), ⟨F3.r0, (fun i hi => by cases hi), .inl ⟨rfl, fun i => rfl⟩⟩, by omega, hB, fun x hx => ?_⟩
        · rcases hk with hk | hk
          · exact hk
          · cases hk
        · simp at hx
          rcases hx with e | e <;> (subst e; simp; omega)
      go_upto_region 7 with fail
      clear d2 dk htw F3 hcl hcli hc256
      generalize u2.alloc (.cells #[.int .i64 0, .slice none 0 0] 58) = u4 at *
      obtain ⟨q7, hq7⟩ : ∃ q7, u2.heap.size = q7 := ⟨_, rfl⟩
      rw [hq7] at O3 hwb hkb hqu
      rw [hq7]
      clear hq7
      obtain ⟨p4, hp4, hx4⟩ := O3.fs.pl
      have hli := Li.list_any _ p4 u4 hp4 (hM.db.below O3.fs.bel)
      have rr5 := pl_range O3.fs.r1
      have hq4 : q7 < u4.heap.size := O3.pb.1.lt
      have HO3 := hidd O3
      have h64 := bits_len p4
      have HMEM : Hid (∀ j, j ∈ bitsL p4 ↔ X j) := fun j => by
        rw [← hx4 j]
        unfold bitsL
        rw [List.mem_filter, List.mem_range]
        exact ⟨fun h => h.2, fun h => ⟨hp4.1 j h, h⟩⟩
      clear O3 hp4 hx4
      go_wp2_with (refine wpList_load_mid rfl 58 (.tmp 5) rfl u.heap.size 0 rfl [.int .i64 0, .slice A9 n9 c9] _ rr5 Tryd.underlying58 rfl (pl_info _ _) ?_)
      refine hli.mono ?_
      rintro e u5 ⟨b5, A5, c5, rfl, own5⟩
      have HO5 := hidd (HO3.out.below b5)
      have HB5 := hidd b5.size
      clear hli rr5 b5
      generalize bitsL p4 = L at *
      have HOW := hidd own5
      clear own5
      obtain ⟨N, hNL⟩ : ∃ N, L.length = N := ⟨_, rfl⟩
      rw [hNL] at h64 HOW
      rw [hNL]
      have HNL := hidd hNL
      clear hNL
      go_wp2
      go_loopw [43] (fun s43 wr => ∃ (i : Nat) (sv : Value) (p : Nat → Bool), s43 = .int .i64 (i : Int) ∧ i ≤ N ∧ OpS M F u.heap.size u [(u.heap.size + 1, 58, #[.int .i64 0, .slice none 0 0]), (u.heap.size, 58, #[.int .i64 0, .slice A9 n9 c9])] q7 sv p (.agg #[.int .i64 0, .slice A9 n9 c9]) X wr ∧ wr.ownsRow u4.heap.size 3 1 (.slice A5 N c5) N (i64s L) ∧ ∀ j, p j = true ↔ ∃ x ∈ L.take i, M.R k x j) (fun s43 _ => N - (intOf s43).toNat)
      case atStart => exact ⟨0, _, _, rfl, Nat.zero_le _, HO5.out, HOW.out, fun j => ⟨(fun h => by cases h), fun ⟨c, hc, _⟩ => by cases hc⟩⟩
      case round =>
        clear HO5 HOW
        obtain ⟨i, sv, p, rfl, hi, hO, how, hp⟩ := hrel
        by_cases hlt2 : i < N
        · have hiL : i < L.length := by rw [HNL.out]; exact hlt2
          obtain ⟨A6, c6, e6, hNt⟩ := Nts.of_own (by rw [HNL.out]; exact how : wr.ownsRow u4.heap.size 3 1 (.slice A5 N c5) L.length (i64s L))
          injection e6 with e6 e7 e8
          subst e6 e8
          clear e7
          obtain ⟨g5, o5, rfl, hg5, hcell⟩ := hNt.at_ hiL
          have hii : (i : Int) < (N : Int) := by omega
          have hmem : L.getD i 0 ∈ L := by
            rw [List.getD_eq_getElem?_getD, List.getElem?_eq_getElem hiL]
            exact List.getElem_mem hiL
          have HTK : Hid (L.take (i + 1) = L.take i ++ [L.getD i 0]) := take_next hiL
          have hfr := hFr (Fo F sv) wr (L.getD i 0) hO.fs.mi (fun f hf => by
            rcases hf with hf | hf
            · exact Nat.lt_of_lt_of_le (HFL.out f hf) hO.fs.keep.size
            · exact hO.own_lt f hf) (HX.out _ ((HMEM.out _).1 hmem))
          obtain ⟨cs2, ms2, hm2⟩ := hO.fs.mi
          have hoff : ∀ j, (Value.slice (some ⟨g5, o5, none⟩) N c5).ownBlock = some j → ¬ MP M wr j := fun j hj hp => by
            obtain ⟨cur, hc⟩ := own_blk how hj
            have h1 := (how.lt j hj).1
            have h2 := HB5.out
            rcases hp with e | e | ⟨_, es, cl, e⟩
            · omega
            · omega
            · rw [hc] at e; cases e
          have HO := hidd hO
          have HOW := hidd how
          have HP := hidd hp
          have HM2' := hidd hm2
          have HOFF := hidd hoff
          clear hmem hO how hp hNt hm2 hoff
          generalize L.getD i 0 = x at *
          go_wp2_with fail
          refine hfr.mono ?_
          rintro e w2 ⟨v2, rfl, hm3, hk2, ⟨p3, hp3, hx3⟩, ho2⟩
          have O3 := HO.out.step hm3 hk2
          have ow3 := own_keeps HOW.out hk2 HOFF.out
          have hjo := Jo.join_any u.heap.size w2 q7 sv p p3 _ O3.pb O3.fs.keep.size hp3 (fun b hb => ⟨hp3.off O3.pb.1 rfl (fun x q => by cases q) hb, fun q => ho2 b hb (.inr q)⟩)
          have HO3 := hidd O3
          have HW3 := hidd ow3
          clear hfr O3 ow3 hm3 hk2 hp3 ho2
          go_wp2_with fail
          refine hjo.mono ?_
          intro e w3 h7
          have K7 : Keeps (Pw q7 sv) w2 w3 := by obtain ⟨_, _, _, h, _⟩ := h7; exact h
          obtain ⟨rfl, sv7, O7⟩ := HO3.out.more (Nat.le_refl _) (fun x hx => by
            simp at hx
            rcases hx with e | e
            · subst e; exact (show (58 : TypeId) ≠ 39 by decide)
            · subst e; exact (show (58 : TypeId) ≠ 39 by decide)) h7
          have ow7 := own_keeps HW3.out K7 (fun j hj hp => by
            rcases hp with hp | hp
            · exact own_neR HW3.out HO3.out.pb.1 (by decide) (hp ▸ hj)
            · rcases HO3.out.pb.2.2 with ⟨e, _⟩ | ⟨_, o⟩
              · rw [e] at hp; cases hp
              · exact own_apart HW3.out o (by decide) j hj hp)
          have HO7 := hidd O7
          have HW7 := hidd ow7
          have HPN : Hid (∀ j, orB p p3 j = true ↔ ∃ x ∈ L.take (i + 1), M.R k x j) := fun j => by
            rw [HTK.out]
            unfold orB
            rw [Bool.or_eq_true, HP.out j, hx3 j]
            constructor
            · rintro (⟨c, q1, q2⟩ | q)
              · exact ⟨c, List.mem_append_left _ q1, q2⟩
              · exact ⟨x, by simp, q⟩
            · rintro ⟨c, q1, q2⟩
              rcases List.mem_append.1 q1 with q1 | q1
              · exact .inl ⟨c, q1, q2⟩
              · rw [List.mem_singleton] at q1
                exact .inr (q1 ▸ q2)
          clear hjo O7 ow7 h7 hx3 K7
          go_wp2
          exact ⟨⟨i + 1, sv7, orB p p3, rfl, by omega, HO7.out, HW7.out, HPN.out⟩, by simp [intOf]; omega⟩
        · have HY : Hid (∀ j, p j = true ↔ img (M.R k) X j) := fun j => by
            rw [hp j, List.take_of_length_le (by rw [HNL.out]; omega)]
            exact ⟨fun ⟨x, q1, q2⟩ => ⟨x, (HMEM.out x).1 q1, q2⟩, fun ⟨x, q1, q2⟩ => ⟨x, (HMEM.out x).2 q1, q2⟩⟩
          have hiN : i = N := by omega
          obtain ⟨A8, n8, c8, e8⟩ := pl_form hO.pb.pl
          have e8 := agg2_inj e8
          subst e8
          have R6 := hO.fs.r0
          have rr8 := pl_range hO.pb.1
          have HFIN : Hid (RetQ M F u (img (M.R k) X) (.returned (.agg #[.int .i64 0, .slice A8 n8 c8])) (wr.setRow (u.heap.size + 1) #[.int .i64 0, .slice A8 n8 c8])) := OpS.done1 hO HFL.out (by omega) (fun x hx => by simp at hx; subst hx; simp) rfl HY.out
          have HRF := hidd (R6.row #[.int .i64 0, .slice A8 n8 c8])
          clear hO hp how
          subst hiN
          go_wp2_with (first
            | refine wpList_load_mid rfl 58 (.tmp 7) rfl q7 0 rfl [.int .i64 0, .slice A8 n8 c8] _ rr8 Tryd.underlying58 rfl (pl_info _ _) ?_
            | refine wpList_store_row rfl 58 (.tmp 6) (.tmp 53) rfl (u.heap.size + 1) #[.int .i64 0, .slice A8 n8 c8] rfl rfl 58 #[.int .i64 0, .slice none 0 0] R6 (pl_info _ _) rfl (ones2 rfl rfl) ?_)
          exact ret_places Tryd.results31 rfl HRF.out rfl HFIN.out
/-! ### All nodes -/
/-- Every node lies somewhere. -/
theorem node_at {M : MC} (hM : M.Ok) {k : Nat} (hk : k < M.n) : ∃ g n kA mm kc, NodeAt M k g n kA ∧ NodeIn M k g kA mm kc ∧ n.l.length = mm := by
  have hk2 : k < M.gs.length := by rw [hM.len]; exact hk
  have hk3 : k < M.ns.length := by rw [← hM.gn.1]; exact hk2
  obtain ⟨bt, ot, h1, h2, A, c, hI, hr⟩ := hM.nds.at_ hk2
  have hg := hM.gn.2 k hk2
  have hget : M.ns[k]? = some (M.ns.getD k nd0) := by rw [List.getD_eq_getElem?_getD, List.getElem?_eq_getElem hk3]; rfl
  have hkl : (M.gs.getD k gd0).l.length = (M.ns.getD k nd0).l.length := by rw [hg.l, List.length_map]
  have hfew : (M.ns.getD k nd0).l.length ≤ 1024 := by
    rw [← hkl]
    exact gn_kids hM.gn hM.tree _ (by rw [List.getD_eq_getElem?_getD, List.getElem?_eq_getElem hk2]; exact List.getElem_mem hk2)
  refine ⟨M.gs.getD k gd0, M.ns.getD k nd0, A, (M.ns.getD k nd0).l.length, c, ⟨hk, hget, hg, hfew, fun i hi => ?_⟩, ⟨bt, ot, h1, h2, ?_⟩, rfl⟩
  · obtain ⟨b, o, e1, e2, e3⟩ := hI.at_ (k := i) (by rw [hkl]; exact hi)
    refine ⟨b, o, e1, e2, ?_⟩
    rw [e3, hg.l]
    generalize (M.ns.getD k nd0).l = l at hi ⊢
    rw [List.getD_eq_getElem?_getD, List.getElem?_map, List.getElem?_eq_getElem hi, List.getD_eq_getElem?_getD, List.getElem?_eq_getElem hi]
    rfl
  · unfold gdL at hr
    rw [hkl] at hr
    exact hr
theorem ends_all {M : MC} (hM : M.Ok) : ∀ (k : Nat), k < M.n → EndsC M k := by
  intro k
  induction k using Nat.strongRecOn with
  | ind k ih =>
    intro hk
    obtain ⟨g, n, kA, mm, kc, hN, hin, hmm⟩ := node_at hM hk
    have hE : ∀ c, c < k → EndsC M c := fun c hc => ih c hc (by omega)
    have hW : WalkC M k g kA mm kc := by
      by_cases h2 : n.op = 2
      · exact walk_bytes hM hN mm kc h2
      · by_cases h3 : n.op = 3
        · exact walk_cat hM hN mm kc hmm hE h3
        · by_cases h4 : n.op = 4
          · exact walk_alt hM hN mm kc hmm hE h4
          · by_cases h5 : n.op = 5
            · exact walk_rep hM hN mm kc hmm hE h5
            · exact walk_none hM hN mm kc h2 h3 h4 h5
    exact ends_step hM hN hin hW (fun F u pl h1 h2 h3 => from_any hM hN hin hW F u pl h1 h2 h3)
end Go.Proofs.YtcgondjekpcpgaaDoor.Sy.Lg.Ef
